/- Facts of the row of Disks that the kernel reckons. -/
import Derived.Test.YtoabedkcieindaaGreatDoorRows
import Derived.JoinedCond
namespace Go.Proofs.YtoabedkcieindaaGreatDoor
open Go

theorem dfact13 : ((Rows.disksUptoRow.maps == (Tryz.f3.params.toList ++ (Rows.OpenSpec.upto Rows.disksSpec).bare.plain.varTypes Tryz.prog).any (Tryz.prog.mapsRec ·))) = true := by kernel_rfl
theorem dfact14 : ((Rows.disksUptoRow.ifaces == (Tryz.f3.params.toList ++ (Rows.OpenSpec.upto Rows.disksSpec).bare.plain.varTypes Tryz.prog).any (Tryz.prog.ifacesRec ·))) = true := by kernel_rfl
theorem dfact15 : ((Rows.disksUptoRow.mapsOut == Tryz.prog.mapsAmong Tryz.f3.resultTypes.toList)) = true := by kernel_rfl
theorem dfact16 : ((Rows.disksUptoRow.loops == (Tryz.f3.params.toList ++ (Rows.OpenSpec.upto Rows.disksSpec).bare.plain.varTypes Tryz.prog).any (Tryz.prog.loopsFrom ·))) = true := by kernel_rfl
theorem dfact17 : ((Rows.disksUptoRow.wideKeys == (Tryz.f3.params.toList ++ (Rows.OpenSpec.upto Rows.disksSpec).bare.plain.varTypes Tryz.prog ++ Tryz.f3.resultTypes.toList).any (Tryz.prog.wideKeysFrom ·))) = true := by kernel_rfl
theorem dfact18 : ((Rows.OpenSpec.upto Rows.disksSpec).bare.vars.all (Tryz.prog.varReadable ·)) = true := by kernel_rfl
theorem dfact19 : (Tryz.f3.resultTypes.all (fun t => Tryz.prog.readableRec t && decide (t < Tryz.prog.types.size))) = true := by kernel_rfl
theorem dfact20 : ((Rows.disksUptoRow.ifacesOut == Tryz.f3.resultTypes.toList.any (Tryz.prog.ifacesRec ·))) = true := by kernel_rfl
theorem dfact21 : ((Rows.disksUptoRow.loopsOut == Tryz.f3.resultTypes.toList.any (Tryz.prog.loopsFrom ·))) = true := by kernel_rfl
theorem dfact22 : ((Rows.disksUptoRow.plainKeys == Tryz.prog.plainKeys)) = true := by kernel_rfl
theorem dfact23 : (Rows.disksUptoRow.shortTexts.isNone) = true := by kernel_rfl
theorem dfact24 : (Tryz.prog.stopsHeard) = true := by kernel_rfl
theorem dfact28 : ((Rows.disksUptoRow.kinds == (if Rows.disksUptoRow.domain.isEmpty then [] else Tryz.f3.params.toList.map fun t => match Tryz.prog.underlying t with | some (.int k) => some k | _ => none))) = true := by kernel_rfl
theorem dfact29 : ((Rows.disksUptoRow.pinned == Rows.disksUptoRow.pinnedBy)) = true := by kernel_rfl
theorem dfact30 : ((Rows.disksUptoRow.veiled == (Tryz.f3.params.toList ++ (Rows.OpenSpec.upto Rows.disksSpec).bare.plain.varTypes Tryz.prog ++ Tryz.f3.resultTypes.toList).any (Tryz.prog.veiledRec ·))) = true := by kernel_rfl
theorem dfact31 : (Rows.disksUptoRow.veiledFits Tryz.prog Tryz.f3.params.toList (Tryz.f3.params.toList ++ (Rows.OpenSpec.upto Rows.disksSpec).bare.plain.varTypes Tryz.prog ++ Tryz.f3.resultTypes.toList)) = true := by kernel_rfl

end Go.Proofs.YtoabedkcieindaaGreatDoor
