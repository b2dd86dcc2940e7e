import Derived.Test.YtoabedkcieindabGreatDoorQkBP
import Derived.Test.YtoabedkcieindabGreatDoorCards
import Derived.Test.YtoabedkcieindabGreatDoorTie
import Derived.SevenTiedAt
namespace Go.Proofs.YtoabedkcieindabGreatDoor
open Go.ChangeShapes Go.WideShapes Go.ChangeAt Go.RowKit
theorem proposedMain : Tryz.pinned.checked.prog.mainIs = some (Rows.proposedUptoCard.stood.harness.1, Rows.proposedUptoCard.stood.harness.2.toList) := by kernel_rfl
theorem proposedLooks : true = Tryz.prog.looks [] := by kernel_rfl
theorem proposedStand0 : Tryz.prog.wantsStandIn 3 = false := by kernel_rfl
theorem proposedStand1 : Tryz.prog.wantsStandIn 22 = false := by kernel_rfl
theorem proposedGoes : true = Rows.proposedUptoRow.goesBy Tryz.pinned.checked.prog := by kernel_rfl
theorem proposedText : Rows.proposedUptoRow.wfByText (Rows.OpenSpec.upto Rows.proposedSpec) = true := by kernel_rfl
theorem proposedPlain (f : FuncId) (fn : Func) (hf : Tryz.pinned.checked.prog.funcNamed Rows.proposedUptoRow.func = some f) (hfn : Tryz.pinned.checked.prog.funcs[f]? = some fn) :
    true = Tryz.pinned.checked.prog.looks [] ∧ ∀ (j : Nat) t, fn.params[j]? = some t → Tryz.pinned.checked.prog.wantsStandIn t = false := by
  obtain rfl : f = 4 := (Option.some.inj (proposedNamed.symm.trans hf)).symm
  obtain rfl : fn = Tryz.f4 := (Option.some.inj (Tryz.func4.symm.trans hfn)).symm
  refine ⟨proposedLooks, fun j t ht => ?_⟩
  rw [Tryz.params4] at ht
  rcases (show t = 3 ∨ t = 22 ∨ t = 3 by simpa using Array.mem_of_getElem? ht) with rfl | rfl | rfl
  · exact proposedStand0
  · exact proposedStand1
  · exact proposedStand0
set_option maxRecDepth 100000 in
theorem proposed_card : Rows.ProposedUptoCardSaid := by
  have hn := Claim7.new_of_sixth proposed_laid_holds Rows.proposedUptoCard.stood.harness true rfl ⟨rfl, rfl⟩ proposedMain rfl proposedPlain
  have ht := Claim7.tied_new_at .later [.data, .data, .data, .sentinel, .sentinel] true hn proposedText
  exact ⟨ht, (fun D hD => by cases hD), proposedUpto_row_tie, (fun h => by cases h), proposedGoes⟩
end Go.Proofs.YtoabedkcieindabGreatDoor
