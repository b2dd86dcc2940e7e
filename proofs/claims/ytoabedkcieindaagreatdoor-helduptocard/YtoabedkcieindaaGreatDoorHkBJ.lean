import Derived.Test.YtoabedkcieindaaGreatDoorRows
import Derived.JoinedCond
namespace Go.Proofs.YtoabedkcieindaaGreatDoor
open Go
theorem heldFact9 : ((Rows.heldUptoRow.inPlace == Tryz.prog.inPlace 11)) = true := by kernel_rfl
theorem heldFact10 : ((Rows.heldUptoRow.unfollowed == Tryz.prog.unfollowed 11)) = true := by kernel_rfl
end Go.Proofs.YtoabedkcieindaaGreatDoor
