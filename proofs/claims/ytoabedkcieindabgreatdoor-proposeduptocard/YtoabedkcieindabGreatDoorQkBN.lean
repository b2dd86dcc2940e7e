import Derived.Test.YtoabedkcieindabGreatDoorRows
import Derived.JoinedCond
namespace Go.Proofs.YtoabedkcieindabGreatDoor
open Go
theorem proposedFact25 : (Tryz.prog.mayEnter) = true := by kernel_rfl
theorem proposedFact26 : ((Rows.proposedUptoRow.lifted == Tryz.prog.liftsFinal)) = true := by kernel_rfl
theorem proposedFact27 : ((Tryz.prog.make == some Rows.proposedUptoRow.make)) = true := by kernel_rfl
end Go.Proofs.YtoabedkcieindabGreatDoor
