import Derived.Test.YtoabedkcieindaaGreatDoorRows
import Derived.JoinedCond
namespace Go.Proofs.YtoabedkcieindaaGreatDoor
open Go
theorem alikeFact9 : ((Rows.alikeUptoRow.inPlace == Tryz.prog.inPlace 14)) = true := by kernel_rfl
theorem alikeFact10 : ((Rows.alikeUptoRow.unfollowed == Tryz.prog.unfollowed 14)) = true := by kernel_rfl
end Go.Proofs.YtoabedkcieindaaGreatDoor
