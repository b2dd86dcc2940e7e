import Derived.Test.YtoabedkcieindaaGreatDoorRows
import Derived.JoinedCond
namespace Go.Proofs.YtoabedkcieindaaGreatDoor
open Go
theorem alikeFact11 : ((Rows.alikeUptoRow.recurses == Tryz.prog.recurses 14)) = true := by kernel_rfl
theorem alikeFact12 : ((Rows.alikeUptoRow.named == Tryz.prog.varsNamed 14)) = true := by kernel_rfl
end Go.Proofs.YtoabedkcieindaaGreatDoor
