import Derived.Test.YtoabedkcieindaaGreatDoorRows
import Derived.JoinedCond
namespace Go.Proofs.YtoabedkcieindaaGreatDoor
open Go

theorem shapedFact0 : (Rows.shapedRow.wf (OpenSpec.ofChange (OpenSpec.ofChange Rows.shapedSpec).bare)) = true := by kernel_rfl
theorem shapedFact1 : (laidOutB Tryz.prog) = true := by kernel_rfl
theorem shapedFact2 : (mapsRowed Tryz.prog) = true := by kernel_rfl
theorem shapedFact3 : (Tryz.f12.params.all (Tryz.prog.readableRec ·)) = true := by kernel_rfl
theorem shapedFact4 : (namedTie Tryz.prog Rows.shapedRow.named (OpenSpec.ofChange Rows.shapedSpec).bare.vars) = true := by kernel_rfl
theorem shapedFact5 : ((Rows.shapedRow.stops == [])) = true := by kernel_rfl
theorem shapedFact6 : ((Tryz.prog.stops == [])) = true := by kernel_rfl
theorem shapedFact7 : ((Rows.shapedRow.knobs == [])) = true := by kernel_rfl
theorem shapedFact8 : ((Tryz.prog.stopKnobs == [])) = true := by kernel_rfl

end Go.Proofs.YtoabedkcieindaaGreatDoor
