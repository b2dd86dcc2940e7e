import Derived.Test.YtoabedkcieindabGreatDoorRows
import Derived.JoinedCond
namespace Go.Proofs.YtoabedkcieindabGreatDoor
open Go
theorem proposedFact0 : (Rows.proposedUptoRow.wf (OpenSpec.ofChange (Rows.OpenSpec.upto Rows.proposedSpec).bare)) = true := by kernel_rfl
theorem proposedFact1 : (laidOutB Tryz.prog) = true := by kernel_rfl
theorem proposedFact2 : (mapsRowed Tryz.prog) = true := by kernel_rfl
theorem proposedFact3 : (Tryz.f4.params.all (Tryz.prog.readableRec ·)) = true := by kernel_rfl
theorem proposedFact4 : (namedTie Tryz.prog Rows.proposedUptoRow.named (Rows.OpenSpec.upto Rows.proposedSpec).bare.vars) = true := by kernel_rfl
theorem proposedFact5 : ((Rows.proposedUptoRow.stops == [])) = true := by kernel_rfl
theorem proposedFact6 : ((Tryz.prog.stops == [])) = true := by kernel_rfl
theorem proposedFact7 : ((Rows.proposedUptoRow.knobs == [])) = true := by kernel_rfl
theorem proposedFact8 : ((Tryz.prog.stopKnobs == [])) = true := by kernel_rfl
end Go.Proofs.YtoabedkcieindabGreatDoor
