import Derived.Test.YtoabedkcieindabGreatDoorRows
import Derived.JoinedCond
namespace Go.Proofs.YtoabedkcieindabGreatDoor
open Go
theorem proposedFact9 : ((Rows.proposedUptoRow.inPlace == Tryz.prog.inPlace 4)) = true := by kernel_rfl
theorem proposedFact10 : ((Rows.proposedUptoRow.unfollowed == Tryz.prog.unfollowed 4)) = true := by kernel_rfl
end Go.Proofs.YtoabedkcieindabGreatDoor
