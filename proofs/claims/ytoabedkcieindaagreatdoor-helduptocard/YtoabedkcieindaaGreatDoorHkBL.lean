import Derived.Test.YtoabedkcieindaaGreatDoorRows
import Derived.JoinedCond
namespace Go.Proofs.YtoabedkcieindaaGreatDoor
open Go
theorem heldFact25 : (Tryz.prog.mayEnter) = true := by kernel_rfl
theorem heldFact26 : ((Rows.heldUptoRow.lifted == Tryz.prog.liftsFinal)) = true := by kernel_rfl
theorem heldFact27 : ((Tryz.prog.make == some Rows.heldUptoRow.make)) = true := by kernel_rfl
end Go.Proofs.YtoabedkcieindaaGreatDoor
