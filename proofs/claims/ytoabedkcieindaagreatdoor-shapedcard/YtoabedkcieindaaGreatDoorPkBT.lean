import Derived.Test.YtoabedkcieindaaGreatDoorRows
import Derived.JoinedCond
namespace Go.Proofs.YtoabedkcieindaaGreatDoor
open Go

theorem shapedFact11 : ((Rows.shapedRow.recurses == Tryz.prog.recurses 12)) = true := by kernel_rfl
theorem shapedFact12 : ((Rows.shapedRow.named == Tryz.prog.varsNamed 12)) = true := by kernel_rfl

end Go.Proofs.YtoabedkcieindaaGreatDoor
