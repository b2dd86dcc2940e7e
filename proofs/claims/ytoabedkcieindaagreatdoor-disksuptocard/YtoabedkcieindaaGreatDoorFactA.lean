/- Facts of the row of Disks that the kernel reckons. -/
import Derived.Test.YtoabedkcieindaaGreatDoorRows
import Derived.JoinedCond
namespace Go.Proofs.YtoabedkcieindaaGreatDoor
open Go

theorem dfact0 : (Rows.disksUptoRow.wf (OpenSpec.ofChange (Rows.OpenSpec.upto Rows.disksSpec).bare)) = true := by kernel_rfl
theorem dfact1 : (laidOutB Tryz.prog) = true := by kernel_rfl
theorem dfact2 : (mapsRowed Tryz.prog) = true := by kernel_rfl
theorem dfact3 : (Tryz.f3.params.all (Tryz.prog.readableRec ·)) = true := by kernel_rfl
theorem dfact4 : (namedTie Tryz.prog Rows.disksUptoRow.named (Rows.OpenSpec.upto Rows.disksSpec).bare.vars) = true := by kernel_rfl
theorem dfact5 : ((Rows.disksUptoRow.stops == [])) = true := by kernel_rfl
theorem dfact6 : ((Tryz.prog.stops == [])) = true := by kernel_rfl
theorem dfact7 : ((Rows.disksUptoRow.knobs == [])) = true := by kernel_rfl
theorem dfact8 : ((Tryz.prog.stopKnobs == [])) = true := by kernel_rfl

end Go.Proofs.YtoabedkcieindaaGreatDoor
