import Derived.Test.YtoabedkcieindaaGreatDoorPkBW
import Derived.Test.YtoabedkcieindaaGreatDoorCards
import Derived.Test.YtoabedkcieindaaGreatDoorTie
import Derived.SevenTiedAt
namespace Go.Proofs.YtoabedkcieindaaGreatDoor
open Go.ChangeShapes Go.WideShapes Go.ChangeAt Go.RowKit

theorem shapedMain : Tryz.pinned.checked.prog.mainIs = some (Rows.shapedCard.stood.harness.1, Rows.shapedCard.stood.harness.2.toList) := by kernel_rfl
theorem shapedLooks : true = Tryz.prog.looks [] := by kernel_rfl
theorem shapedStand0 : Tryz.prog.wantsStandIn 3 = false := by kernel_rfl
theorem shapedStand1 : Tryz.prog.wantsStandIn 26 = false := by kernel_rfl
theorem shapedGoes : true = Rows.shapedRow.goesBy Tryz.pinned.checked.prog := by kernel_rfl
theorem shapedText : Rows.shapedRow.wfByText (OpenSpec.ofChange Rows.shapedSpec) = true := by kernel_rfl
theorem shapedPlain (f : FuncId) (fn : Func) (hf : Tryz.pinned.checked.prog.funcNamed Rows.shapedRow.func = some f) (hfn : Tryz.pinned.checked.prog.funcs[f]? = some fn) :
    true = Tryz.pinned.checked.prog.looks [] ∧ ∀ (j : Nat) t, fn.params[j]? = some t → Tryz.pinned.checked.prog.wantsStandIn t = false := by
  obtain rfl : f = 12 := (Option.some.inj (shapedNamed.symm.trans hf)).symm
  obtain rfl : fn = Tryz.f12 := (Option.some.inj (Tryz.func12.symm.trans hfn)).symm
  refine ⟨shapedLooks, fun j t ht => ?_⟩
  rw [Tryz.params12] at ht
  rcases (show t = 3 ∨ t = 26 by simpa using Array.mem_of_getElem? ht) with rfl | rfl
  · exact shapedStand0
  · exact shapedStand1

set_option maxRecDepth 100000 in
theorem shaped_card : Rows.ShapedCardSaid := by
  have hn := Claim7.new_of_sixth shaped_laid_holds Rows.shapedCard.stood.harness true rfl ⟨rfl, rfl⟩ shapedMain rfl shapedPlain
  have ht := Claim7.tied_new_at .later [.data, .data, .data, .sentinel, .sentinel] true hn shapedText
  exact ⟨ht, (fun D hD => by cases hD), shaped_row_tie, (fun h => by cases h), shapedGoes⟩

end Go.Proofs.YtoabedkcieindaaGreatDoor
