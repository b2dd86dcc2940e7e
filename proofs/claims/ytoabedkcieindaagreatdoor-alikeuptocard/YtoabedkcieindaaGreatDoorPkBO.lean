import Derived.Test.YtoabedkcieindaaGreatDoorRows
import Derived.JoinedCond
namespace Go.Proofs.YtoabedkcieindaaGreatDoor
open Go
theorem alikeFact25 : (Tryz.prog.mayEnter) = true := by kernel_rfl
theorem alikeFact26 : ((Rows.alikeUptoRow.lifted == Tryz.prog.liftsFinal)) = true := by kernel_rfl
theorem alikeFact27 : ((Tryz.prog.make == some Rows.alikeUptoRow.make)) = true := by kernel_rfl
end Go.Proofs.YtoabedkcieindaaGreatDoor
