import Derived.Test.YtoabedkcieindaaGreatDoorPkBK
import Derived.Test.YtoabedkcieindaaGreatDoorPkBL
import Derived.Test.YtoabedkcieindaaGreatDoorPkBM
import Derived.Test.YtoabedkcieindaaGreatDoorPkBN
import Derived.Test.YtoabedkcieindaaGreatDoorPkBO
import Derived.Test.YtoabedkcieindaaGreatDoorPkBP
namespace Go.Proofs.YtoabedkcieindaaGreatDoor
open Go.ChangeShapes Go.WideShapes Go.ChangeAt Go.RowKit
theorem andT {a b : Bool} (h : a = true) (k : b = true) : (a && b) = true := by rw [h, k]; rfl
set_option maxRecDepth 100000 in
theorem alikeFacts : joinedFacts Tryz.prog 14 Tryz.f14 (Rows.OpenSpec.upto Rows.alikeSpec).bare Rows.alikeUptoRow = true := by
  unfold joinedFacts
  exact andT (andT (andT (andT (andT (andT (andT (andT (andT (andT (andT (andT (andT (andT (andT (andT (andT (andT (andT (andT (andT (andT (andT (andT (andT (andT (andT (andT (andT (andT (andT (alikeFact0) alikeFact1) alikeFact2) alikeFact3) alikeFact4) alikeFact5) alikeFact6) alikeFact7) alikeFact8) alikeFact9) alikeFact10) alikeFact11) alikeFact12) alikeFact13) alikeFact14) alikeFact15) alikeFact16) alikeFact17) alikeFact18) alikeFact19) alikeFact20) alikeFact21) alikeFact22) alikeFact23) alikeFact24) alikeFact25) alikeFact26) alikeFact27) alikeFact28) alikeFact29) alikeFact30) alikeFact31
theorem alikeNamed : Tryz.pinned.checked.prog.funcNamed Rows.alikeUptoRow.func = some 14 := by kernel_rfl
theorem alikeInst : Tryz.f14.isInstance Tryz.pinned.checked.prog Rows.alikeUptoRow.origin Rows.alikeUptoRow.targs := of_decide_eq_true (by kernel_rfl)
theorem alikeWrap : Tryz.f14.isWrapper Tryz.pinned.checked.prog Rows.alikeUptoRow.wrapper Rows.alikeUptoRow.mainSum := by
  unfold Func.isWrapper
  first | (rw [if_pos (by decide +kernel)]; kernel_rfl) | (rw [if_neg (by decide +kernel)]; exact ⟨rfl, rfl⟩)
set_option maxRecDepth 100000 in
theorem alike_laid_holds : Rows.AlikeUptoSaid :=
  OpenClaim.holds_of_cond 14 Tryz.f14 rfl rfl rfl rfl rfl rfl rfl ⟨rfl, rfl, rfl, rfl, rfl⟩ rfl rfl rfl rfl rfl alikeNamed Tryz.func14 alikeFacts alikeInst alikeWrap
    (fun os started H enc _ F => by rw [OpenClaim.pre_eq_preRow]; exact alike_lifted os started H enc F)
end Go.Proofs.YtoabedkcieindaaGreatDoor
