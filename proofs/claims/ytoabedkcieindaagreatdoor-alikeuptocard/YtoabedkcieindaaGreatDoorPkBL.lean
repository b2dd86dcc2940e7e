import Derived.Test.YtoabedkcieindaaGreatDoorRows
import Derived.JoinedCond
namespace Go.Proofs.YtoabedkcieindaaGreatDoor
open Go
theorem alikeFact0 : (Rows.alikeUptoRow.wf (OpenSpec.ofChange (Rows.OpenSpec.upto Rows.alikeSpec).bare)) = true := by kernel_rfl
theorem alikeFact1 : (laidOutB Tryz.prog) = true := by kernel_rfl
theorem alikeFact2 : (mapsRowed Tryz.prog) = true := by kernel_rfl
theorem alikeFact3 : (Tryz.f14.params.all (Tryz.prog.readableRec ·)) = true := by kernel_rfl
theorem alikeFact4 : (namedTie Tryz.prog Rows.alikeUptoRow.named (Rows.OpenSpec.upto Rows.alikeSpec).bare.vars) = true := by kernel_rfl
theorem alikeFact5 : ((Rows.alikeUptoRow.stops == [])) = true := by kernel_rfl
theorem alikeFact6 : ((Tryz.prog.stops == [])) = true := by kernel_rfl
theorem alikeFact7 : ((Rows.alikeUptoRow.knobs == [])) = true := by kernel_rfl
theorem alikeFact8 : ((Tryz.prog.stopKnobs == [])) = true := by kernel_rfl
end Go.Proofs.YtoabedkcieindaaGreatDoor
