import Derived.Test.YtoabedkcieindabGreatDoorQkBJ
import Derived.Test.YtoabedkcieindabGreatDoorQkBK
import Derived.Test.YtoabedkcieindabGreatDoorQkBL
import Derived.Test.YtoabedkcieindabGreatDoorQkBM
import Derived.Test.YtoabedkcieindabGreatDoorQkBN
import Derived.Test.YtoabedkcieindabGreatDoorQkBO
namespace Go.Proofs.YtoabedkcieindabGreatDoor
open Go.ChangeShapes Go.WideShapes Go.ChangeAt Go.RowKit
theorem andT {a b : Bool} (h : a = true) (k : b = true) : (a && b) = true := by rw [h, k]; rfl
set_option maxRecDepth 100000 in
theorem proposedFacts : joinedFacts Tryz.prog 4 Tryz.f4 (Rows.OpenSpec.upto Rows.proposedSpec).bare Rows.proposedUptoRow = true := by
  unfold joinedFacts
  exact andT (andT (andT (andT (andT (andT (andT (andT (andT (andT (andT (andT (andT (andT (andT (andT (andT (andT (andT (andT (andT (andT (andT (andT (andT (andT (andT (andT (andT (andT (andT (proposedFact0) proposedFact1) proposedFact2) proposedFact3) proposedFact4) proposedFact5) proposedFact6) proposedFact7) proposedFact8) proposedFact9) proposedFact10) proposedFact11) proposedFact12) proposedFact13) proposedFact14) proposedFact15) proposedFact16) proposedFact17) proposedFact18) proposedFact19) proposedFact20) proposedFact21) proposedFact22) proposedFact23) proposedFact24) proposedFact25) proposedFact26) proposedFact27) proposedFact28) proposedFact29) proposedFact30) proposedFact31
theorem proposedNamed : Tryz.pinned.checked.prog.funcNamed Rows.proposedUptoRow.func = some 4 := by kernel_rfl
theorem proposedInst : Tryz.f4.isInstance Tryz.pinned.checked.prog Rows.proposedUptoRow.origin Rows.proposedUptoRow.targs := of_decide_eq_true (by kernel_rfl)
theorem proposedWrap : Tryz.f4.isWrapper Tryz.pinned.checked.prog Rows.proposedUptoRow.wrapper Rows.proposedUptoRow.mainSum := by
  unfold Func.isWrapper
  first | (rw [if_pos (by decide +kernel)]; kernel_rfl) | (rw [if_neg (by decide +kernel)]; exact ⟨rfl, rfl⟩)
set_option maxRecDepth 100000 in
theorem proposed_laid_holds : Rows.ProposedUptoSaid :=
  OpenClaim.holds_of_cond 4 Tryz.f4 rfl rfl rfl rfl rfl rfl rfl ⟨rfl, rfl, rfl, rfl, rfl⟩ rfl rfl rfl rfl rfl proposedNamed Tryz.func4 proposedFacts proposedInst proposedWrap
    (fun os started H enc _ F => by rw [OpenClaim.pre_eq_preRow]; exact proposed_lifted os started H enc F)
end Go.Proofs.YtoabedkcieindabGreatDoor
