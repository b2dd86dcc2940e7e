/- Facts of the row of Disks that the kernel reckons. -/
import Derived.Test.YtoabedkcieindaaGreatDoorRows
import Derived.JoinedCond
namespace Go.Proofs.YtoabedkcieindaaGreatDoor
open Go

theorem dfact11 : ((Rows.disksUptoRow.recurses == Tryz.prog.recurses 3)) = true := by kernel_rfl
theorem dfact12 : ((Rows.disksUptoRow.named == Tryz.prog.varsNamed 3)) = true := by kernel_rfl

end Go.Proofs.YtoabedkcieindaaGreatDoor
