import Derived.Test.YtoabedkcieindabGreatDoorRows
import Derived.JoinedCond
namespace Go.Proofs.YtoabedkcieindabGreatDoor
open Go
theorem proposedFact11 : ((Rows.proposedUptoRow.recurses == Tryz.prog.recurses 4)) = true := by kernel_rfl
theorem proposedFact12 : ((Rows.proposedUptoRow.named == Tryz.prog.varsNamed 4)) = true := by kernel_rfl
end Go.Proofs.YtoabedkcieindabGreatDoor
