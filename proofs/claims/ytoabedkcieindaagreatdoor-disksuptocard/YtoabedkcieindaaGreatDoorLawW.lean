/- The card of Disks, in the form with a bulk. -/
import Derived.Test.YtoabedkcieindaaGreatDoorLawV
import Derived.Test.YtoabedkcieindaaGreatDoorCards
import Derived.Test.YtoabedkcieindaaGreatDoorTie
import Derived.SevenTiedAt
namespace Go.Proofs.YtoabedkcieindaaGreatDoor
open Go.ChangeShapes Go.WideShapes Go.ChangeAt Go.RowKit

theorem dmain : Tryz.pinned.checked.prog.mainIs = some (Rows.disksUptoCard.stood.harness.1, Rows.disksUptoCard.stood.harness.2.toList) := by kernel_rfl
theorem dlooks : true = Tryz.prog.looks [] := by kernel_rfl
theorem dstand : Tryz.prog.wantsStandIn 22 = false := by kernel_rfl
theorem dgoes : true = Rows.disksUptoRow.goesBy Tryz.pinned.checked.prog := by kernel_rfl
theorem dtext : Rows.disksUptoRow.wfByText (Rows.OpenSpec.upto Rows.disksSpec) = true := by kernel_rfl
theorem dplain (f : FuncId) (fn : Func) (hf : Tryz.pinned.checked.prog.funcNamed Rows.disksUptoRow.func = some f) (hfn : Tryz.pinned.checked.prog.funcs[f]? = some fn) :
    true = Tryz.pinned.checked.prog.looks [] ∧ ∀ (j : Nat) t, fn.params[j]? = some t → Tryz.pinned.checked.prog.wantsStandIn t = false := by
  obtain rfl : f = 3 := (Option.some.inj (dnamed.symm.trans hf)).symm
  obtain rfl : fn = Tryz.f3 := (Option.some.inj (Tryz.func3.symm.trans hfn)).symm
  refine ⟨dlooks, fun j t ht => ?_⟩
  rw [Tryz.params3] at ht
  obtain rfl : t = 22 := by simpa using Array.mem_of_getElem? ht
  exact dstand

set_option maxRecDepth 100000 in
theorem disks_upto_card : Rows.DisksUptoCardSaid := by
  have hn := Claim7.new_of_sixth disks_laid_holds Rows.disksUptoCard.stood.harness true rfl ⟨rfl, rfl⟩ dmain rfl dplain
  have ht := Claim7.tied_new_at .later [.data, .data, .data, .sentinel, .sentinel] true hn dtext
  exact ⟨ht, (fun D hD => by cases hD), disksUpto_row_tie, (fun h => by cases h), dgoes⟩

end Go.Proofs.YtoabedkcieindaaGreatDoor
