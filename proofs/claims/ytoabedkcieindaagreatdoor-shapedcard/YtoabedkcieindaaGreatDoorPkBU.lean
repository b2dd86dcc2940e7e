import Derived.Test.YtoabedkcieindaaGreatDoorRows
import Derived.JoinedCond
namespace Go.Proofs.YtoabedkcieindaaGreatDoor
open Go

theorem shapedFact25 : (Tryz.prog.mayEnter) = true := by kernel_rfl
theorem shapedFact26 : ((Rows.shapedRow.lifted == Tryz.prog.liftsFinal)) = true := by kernel_rfl
theorem shapedFact27 : ((Tryz.prog.make == some Rows.shapedRow.make)) = true := by kernel_rfl

end Go.Proofs.YtoabedkcieindaaGreatDoor
