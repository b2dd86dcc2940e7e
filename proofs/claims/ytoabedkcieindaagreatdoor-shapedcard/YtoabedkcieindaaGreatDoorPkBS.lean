import Derived.Test.YtoabedkcieindaaGreatDoorRows
import Derived.JoinedCond
namespace Go.Proofs.YtoabedkcieindaaGreatDoor
open Go

theorem shapedFact9 : ((Rows.shapedRow.inPlace == Tryz.prog.inPlace 12)) = true := by kernel_rfl
theorem shapedFact10 : ((Rows.shapedRow.unfollowed == Tryz.prog.unfollowed 12)) = true := by kernel_rfl

end Go.Proofs.YtoabedkcieindaaGreatDoor
