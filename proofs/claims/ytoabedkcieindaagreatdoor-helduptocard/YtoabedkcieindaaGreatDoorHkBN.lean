import Derived.Test.YtoabedkcieindaaGreatDoorHkBH
import Derived.Test.YtoabedkcieindaaGreatDoorHkBI
import Derived.Test.YtoabedkcieindaaGreatDoorHkBJ
import Derived.Test.YtoabedkcieindaaGreatDoorHkBK
import Derived.Test.YtoabedkcieindaaGreatDoorHkBL
import Derived.Test.YtoabedkcieindaaGreatDoorHkBM
namespace Go.Proofs.YtoabedkcieindaaGreatDoor
open Go.ChangeShapes Go.WideShapes Go.ChangeAt Go.RowKit
theorem andT {a b : Bool} (h : a = true) (k : b = true) : (a && b) = true := by rw [h, k]; rfl
set_option maxRecDepth 100000 in
theorem heldFacts : joinedFacts Tryz.prog 11 Tryz.f11 (Rows.OpenSpec.upto Rows.heldSpec).bare Rows.heldUptoRow = true := by
  unfold joinedFacts
  exact andT (andT (andT (andT (andT (andT (andT (andT (andT (andT (andT (andT (andT (andT (andT (andT (andT (andT (andT (andT (andT (andT (andT (andT (andT (andT (andT (andT (andT (andT (andT (heldFact0) heldFact1) heldFact2) heldFact3) heldFact4) heldFact5) heldFact6) heldFact7) heldFact8) heldFact9) heldFact10) heldFact11) heldFact12) heldFact13) heldFact14) heldFact15) heldFact16) heldFact17) heldFact18) heldFact19) heldFact20) heldFact21) heldFact22) heldFact23) heldFact24) heldFact25) heldFact26) heldFact27) heldFact28) heldFact29) heldFact30) heldFact31
theorem heldNamed : Tryz.pinned.checked.prog.funcNamed Rows.heldUptoRow.func = some 11 := by kernel_rfl
theorem heldInst : Tryz.f11.isInstance Tryz.pinned.checked.prog Rows.heldUptoRow.origin Rows.heldUptoRow.targs := of_decide_eq_true (by kernel_rfl)
theorem heldWrap : Tryz.f11.isWrapper Tryz.pinned.checked.prog Rows.heldUptoRow.wrapper Rows.heldUptoRow.mainSum := by
  unfold Func.isWrapper
  first | (rw [if_pos (by decide +kernel)]; kernel_rfl) | (rw [if_neg (by decide +kernel)]; exact ⟨rfl, rfl⟩)
set_option maxRecDepth 100000 in
theorem held_laid_holds : Rows.HeldUptoSaid :=
  OpenClaim.holds_of_cond 11 Tryz.f11 rfl rfl rfl rfl rfl rfl rfl ⟨rfl, rfl, rfl, rfl, rfl⟩ rfl rfl rfl rfl rfl heldNamed Tryz.func11 heldFacts heldInst heldWrap
    (fun os started H enc _ F => by rw [OpenClaim.pre_eq_preRow]; exact held_lifted os started H enc F)
end Go.Proofs.YtoabedkcieindaaGreatDoor
