import Derived.Test.YtoabedkcieindaaGreatDoorRows
import Derived.JoinedCond
namespace Go.Proofs.YtoabedkcieindaaGreatDoor
open Go
theorem heldFact11 : ((Rows.heldUptoRow.recurses == Tryz.prog.recurses 11)) = true := by kernel_rfl
theorem heldFact12 : ((Rows.heldUptoRow.named == Tryz.prog.varsNamed 11)) = true := by kernel_rfl
end Go.Proofs.YtoabedkcieindaaGreatDoor
