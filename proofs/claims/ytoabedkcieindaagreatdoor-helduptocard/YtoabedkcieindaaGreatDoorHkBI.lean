import Derived.Test.YtoabedkcieindaaGreatDoorRows
import Derived.JoinedCond
namespace Go.Proofs.YtoabedkcieindaaGreatDoor
open Go
theorem heldFact0 : (Rows.heldUptoRow.wf (OpenSpec.ofChange (Rows.OpenSpec.upto Rows.heldSpec).bare)) = true := by kernel_rfl
theorem heldFact1 : (laidOutB Tryz.prog) = true := by kernel_rfl
theorem heldFact2 : (mapsRowed Tryz.prog) = true := by kernel_rfl
theorem heldFact3 : (Tryz.f11.params.all (Tryz.prog.readableRec ·)) = true := by kernel_rfl
theorem heldFact4 : (namedTie Tryz.prog Rows.heldUptoRow.named (Rows.OpenSpec.upto Rows.heldSpec).bare.vars) = true := by kernel_rfl
theorem heldFact5 : ((Rows.heldUptoRow.stops == [])) = true := by kernel_rfl
theorem heldFact6 : ((Tryz.prog.stops == [])) = true := by kernel_rfl
theorem heldFact7 : ((Rows.heldUptoRow.knobs == [])) = true := by kernel_rfl
theorem heldFact8 : ((Tryz.prog.stopKnobs == [])) = true := by kernel_rfl
end Go.Proofs.YtoabedkcieindaaGreatDoor
