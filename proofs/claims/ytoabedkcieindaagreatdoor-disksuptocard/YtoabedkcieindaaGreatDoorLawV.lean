/- The statement of Disks, where the row lists variables: the facts together; the card. -/
import Derived.Test.YtoabedkcieindaaGreatDoorLawT
import Derived.Test.YtoabedkcieindaaGreatDoorFactA
import Derived.Test.YtoabedkcieindaaGreatDoorFactB
import Derived.Test.YtoabedkcieindaaGreatDoorFactC
import Derived.Test.YtoabedkcieindaaGreatDoorFactD
import Derived.Test.YtoabedkcieindaaGreatDoorFactE
namespace Go.Proofs.YtoabedkcieindaaGreatDoor
open Go.ChangeShapes Go.WideShapes Go.ChangeAt Go.RowKit

theorem andT {a b : Bool} (h : a = true) (k : b = true) : (a && b) = true := by rw [h, k]; rfl
set_option maxRecDepth 100000 in
theorem dfacts : joinedFacts Tryz.prog 3 Tryz.f3 (Rows.OpenSpec.upto Rows.disksSpec).bare Rows.disksUptoRow = true := by
  unfold joinedFacts
  exact andT (andT (andT (andT (andT (andT (andT (andT (andT (andT (andT (andT (andT (andT (andT (andT (andT (andT (andT (andT (andT (andT (andT (andT (andT (andT (andT (andT (andT (andT (andT (dfact0) dfact1) dfact2) dfact3) dfact4) dfact5) dfact6) dfact7) dfact8) dfact9) dfact10) dfact11) dfact12) dfact13) dfact14) dfact15) dfact16) dfact17) dfact18) dfact19) dfact20) dfact21) dfact22) dfact23) dfact24) dfact25) dfact26) dfact27) dfact28) dfact29) dfact30) dfact31
theorem dnamed : Tryz.pinned.checked.prog.funcNamed Rows.disksUptoRow.func = some 3 := by kernel_rfl
theorem dinst : Tryz.f3.isInstance Tryz.pinned.checked.prog Rows.disksUptoRow.origin Rows.disksUptoRow.targs := of_decide_eq_true (by kernel_rfl)
theorem dwrap : Tryz.f3.isWrapper Tryz.pinned.checked.prog Rows.disksUptoRow.wrapper Rows.disksUptoRow.mainSum := by
  unfold Func.isWrapper
  first | (rw [if_pos (by decide +kernel)]; kernel_rfl) | (rw [if_neg (by decide +kernel)]; exact ⟨rfl, rfl⟩)

set_option maxRecDepth 100000 in
theorem disks_laid_holds : Rows.DisksUptoSaid :=
  OpenClaim.holds_of_cond 3 Tryz.f3 rfl rfl rfl rfl rfl rfl rfl ⟨rfl, rfl, rfl, rfl, rfl⟩ rfl rfl rfl rfl rfl dnamed Tryz.func3 dfacts dinst dwrap
    (fun os started H enc _ F => by rw [OpenClaim.pre_eq_preRow]; exact lifted_laid os started H enc F)

end Go.Proofs.YtoabedkcieindaaGreatDoor
