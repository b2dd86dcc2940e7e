import Derived.Test.YtoabedkcieindaaGreatDoorPkBQ
import Derived.Test.YtoabedkcieindaaGreatDoorPkBR
import Derived.Test.YtoabedkcieindaaGreatDoorPkBS
import Derived.Test.YtoabedkcieindaaGreatDoorPkBT
import Derived.Test.YtoabedkcieindaaGreatDoorPkBU
import Derived.Test.YtoabedkcieindaaGreatDoorPkBV
namespace Go.Proofs.YtoabedkcieindaaGreatDoor
open Go.ChangeShapes Go.WideShapes Go.ChangeAt Go.RowKit

theorem andT {a b : Bool} (h : a = true) (k : b = true) : (a && b) = true := by rw [h, k]; rfl
set_option maxRecDepth 100000 in
theorem shapedFacts : joinedFacts Tryz.prog 12 Tryz.f12 (OpenSpec.ofChange Rows.shapedSpec).bare Rows.shapedRow = true := by
  unfold joinedFacts
  exact andT (andT (andT (andT (andT (andT (andT (andT (andT (andT (andT (andT (andT (andT (andT (andT (andT (andT (andT (andT (andT (andT (andT (andT (andT (andT (andT (andT (andT (andT (andT (shapedFact0) shapedFact1) shapedFact2) shapedFact3) shapedFact4) shapedFact5) shapedFact6) shapedFact7) shapedFact8) shapedFact9) shapedFact10) shapedFact11) shapedFact12) shapedFact13) shapedFact14) shapedFact15) shapedFact16) shapedFact17) shapedFact18) shapedFact19) shapedFact20) shapedFact21) shapedFact22) shapedFact23) shapedFact24) shapedFact25) shapedFact26) shapedFact27) shapedFact28) shapedFact29) shapedFact30) shapedFact31
theorem shapedNamed : Tryz.pinned.checked.prog.funcNamed Rows.shapedRow.func = some 12 := by kernel_rfl
theorem shapedInst : Tryz.f12.isInstance Tryz.pinned.checked.prog Rows.shapedRow.origin Rows.shapedRow.targs := of_decide_eq_true (by kernel_rfl)
theorem shapedWrap : Tryz.f12.isWrapper Tryz.pinned.checked.prog Rows.shapedRow.wrapper Rows.shapedRow.mainSum := by
  unfold Func.isWrapper
  first | (rw [if_pos (by decide +kernel)]; kernel_rfl) | (rw [if_neg (by decide +kernel)]; exact ⟨rfl, rfl⟩)

set_option maxRecDepth 100000 in
theorem shaped_laid_holds : Rows.ShapedSaid :=
  OpenClaim.holds_of_cond 12 Tryz.f12 rfl rfl rfl rfl rfl rfl rfl ⟨rfl, rfl, rfl, rfl, rfl⟩ rfl rfl rfl rfl rfl shapedNamed Tryz.func12 shapedFacts shapedInst shapedWrap
    (fun os started H enc _ F => by rw [OpenClaim.pre_eq_preRow]; exact shaped_lifted os started H enc F)

end Go.Proofs.YtoabedkcieindaaGreatDoor
