/- Facts of the row of Disks that the kernel reckons. -/
import Derived.Test.YtoabedkcieindaaGreatDoorRows
import Derived.JoinedCond
namespace Go.Proofs.YtoabedkcieindaaGreatDoor
open Go

theorem dfact25 : (Tryz.prog.mayEnter) = true := by kernel_rfl
theorem dfact26 : ((Rows.disksUptoRow.lifted == Tryz.prog.liftsFinal)) = true := by kernel_rfl
theorem dfact27 : ((Tryz.prog.make == some Rows.disksUptoRow.make)) = true := by kernel_rfl

end Go.Proofs.YtoabedkcieindaaGreatDoor
