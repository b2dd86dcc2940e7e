/- Facts of the row of Disks that the kernel reckons. -/
import Derived.Test.YtoabedkcieindaaGreatDoorRows
import Derived.JoinedCond
namespace Go.Proofs.YtoabedkcieindaaGreatDoor
open Go

theorem dfact9 : ((Rows.disksUptoRow.inPlace == Tryz.prog.inPlace 3)) = true := by kernel_rfl
theorem dfact10 : ((Rows.disksUptoRow.unfollowed == Tryz.prog.unfollowed 3)) = true := by kernel_rfl

end Go.Proofs.YtoabedkcieindaaGreatDoor
