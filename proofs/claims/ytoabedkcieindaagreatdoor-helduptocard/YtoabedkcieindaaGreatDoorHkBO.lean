import Derived.Test.YtoabedkcieindaaGreatDoorHkBN
import Derived.Test.YtoabedkcieindaaGreatDoorCards
import Derived.Test.YtoabedkcieindaaGreatDoorTie
import Derived.SevenTiedAt
namespace Go.Proofs.YtoabedkcieindaaGreatDoor
open Go.ChangeShapes Go.WideShapes Go.ChangeAt Go.RowKit
theorem heldMain : Tryz.pinned.checked.prog.mainIs = some (Rows.heldUptoCard.stood.harness.1, Rows.heldUptoCard.stood.harness.2.toList) := by kernel_rfl
theorem heldLooks : true = Tryz.prog.looks [] := by kernel_rfl
theorem heldStand0 : Tryz.prog.wantsStandIn 3 = false := by kernel_rfl
theorem heldStand1 : Tryz.prog.wantsStandIn 26 = false := by kernel_rfl
theorem heldStand2 : Tryz.prog.wantsStandIn 9 = false := by kernel_rfl
theorem heldGoes : true = Rows.heldUptoRow.goesBy Tryz.pinned.checked.prog := by kernel_rfl
theorem heldText : Rows.heldUptoRow.wfByText (Rows.OpenSpec.upto Rows.heldSpec) = true := by kernel_rfl
theorem heldPlain (f : FuncId) (fn : Func) (hf : Tryz.pinned.checked.prog.funcNamed Rows.heldUptoRow.func = some f) (hfn : Tryz.pinned.checked.prog.funcs[f]? = some fn) :
    true = Tryz.pinned.checked.prog.looks [] ∧ ∀ (j : Nat) t, fn.params[j]? = some t → Tryz.pinned.checked.prog.wantsStandIn t = false := by
  obtain rfl : f = 11 := (Option.some.inj (heldNamed.symm.trans hf)).symm
  obtain rfl : fn = Tryz.f11 := (Option.some.inj (Tryz.func11.symm.trans hfn)).symm
  refine ⟨heldLooks, fun j t ht => ?_⟩
  rw [Tryz.params11] at ht
  rcases (show t = 3 ∨ t = 26 ∨ t = 9 by simpa using Array.mem_of_getElem? ht) with rfl | rfl | rfl
  · exact heldStand0
  · exact heldStand1
  · exact heldStand2
set_option maxRecDepth 100000 in
theorem held_card : Rows.HeldUptoCardSaid := by
  have hn := Claim7.new_of_sixth held_laid_holds Rows.heldUptoCard.stood.harness true rfl ⟨rfl, rfl⟩ heldMain rfl heldPlain
  have ht := Claim7.tied_new_at .later [.data, .data, .data, .sentinel, .sentinel] true hn heldText
  exact ⟨ht, (fun D hD => by cases hD), heldUpto_row_tie, (fun h => by cases h), heldGoes⟩
end Go.Proofs.YtoabedkcieindaaGreatDoor
