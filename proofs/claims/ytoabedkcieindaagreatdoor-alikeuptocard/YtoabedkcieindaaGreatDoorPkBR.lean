import Derived.Test.YtoabedkcieindaaGreatDoorPkBQ
import Derived.Test.YtoabedkcieindaaGreatDoorCards
import Derived.Test.YtoabedkcieindaaGreatDoorTie
import Derived.SevenTiedAt
namespace Go.Proofs.YtoabedkcieindaaGreatDoor
open Go.ChangeShapes Go.WideShapes Go.ChangeAt Go.RowKit
theorem alikeMain : Tryz.pinned.checked.prog.mainIs = some (Rows.alikeUptoCard.stood.harness.1, Rows.alikeUptoCard.stood.harness.2.toList) := by kernel_rfl
theorem alikeLooks : true = Tryz.prog.looks [] := by kernel_rfl
theorem alikeStand0 : Tryz.prog.wantsStandIn 3 = false := by kernel_rfl
theorem alikeStand1 : Tryz.prog.wantsStandIn 26 = false := by kernel_rfl
theorem alikeGoes : true = Rows.alikeUptoRow.goesBy Tryz.pinned.checked.prog := by kernel_rfl
theorem alikeText : Rows.alikeUptoRow.wfByText (Rows.OpenSpec.upto Rows.alikeSpec) = true := by kernel_rfl
theorem alikePlain (f : FuncId) (fn : Func) (hf : Tryz.pinned.checked.prog.funcNamed Rows.alikeUptoRow.func = some f) (hfn : Tryz.pinned.checked.prog.funcs[f]? = some fn) :
    true = Tryz.pinned.checked.prog.looks [] ∧ ∀ (j : Nat) t, fn.params[j]? = some t → Tryz.pinned.checked.prog.wantsStandIn t = false := by
  obtain rfl : f = 14 := (Option.some.inj (alikeNamed.symm.trans hf)).symm
  obtain rfl : fn = Tryz.f14 := (Option.some.inj (Tryz.func14.symm.trans hfn)).symm
  refine ⟨alikeLooks, fun j t ht => ?_⟩
  rw [Tryz.params14] at ht
  rcases (show t = 3 ∨ t = 26 by simpa using Array.mem_of_getElem? ht) with rfl | rfl
  · exact alikeStand0
  · exact alikeStand1
set_option maxRecDepth 100000 in
theorem alike_card : Rows.AlikeUptoCardSaid := by
  have hn := Claim7.new_of_sixth alike_laid_holds Rows.alikeUptoCard.stood.harness true rfl ⟨rfl, rfl⟩ alikeMain rfl alikePlain
  have ht := Claim7.tied_new_at .later [.data, .data, .data, .sentinel, .sentinel] true hn alikeText
  exact ⟨ht, (fun D hD => by cases hD), alikeUpto_row_tie, (fun h => by cases h), alikeGoes⟩
end Go.Proofs.YtoabedkcieindaaGreatDoor
