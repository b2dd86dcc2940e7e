import Derived.Test.YtoabedkcieindabGreatDoorRows
import Derived.JoinedCond
namespace Go.Proofs.YtoabedkcieindabGreatDoor
open Go
theorem proposedFact13 : ((Rows.proposedUptoRow.maps == (Tryz.f4.params.toList ++ (Rows.OpenSpec.upto Rows.proposedSpec).bare.plain.varTypes Tryz.prog).any (Tryz.prog.mapsRec ·))) = true := by kernel_rfl
theorem proposedFact14 : ((Rows.proposedUptoRow.ifaces == (Tryz.f4.params.toList ++ (Rows.OpenSpec.upto Rows.proposedSpec).bare.plain.varTypes Tryz.prog).any (Tryz.prog.ifacesRec ·))) = true := by kernel_rfl
theorem proposedFact15 : ((Rows.proposedUptoRow.mapsOut == Tryz.prog.mapsAmong Tryz.f4.resultTypes.toList)) = true := by kernel_rfl
theorem proposedFact16 : ((Rows.proposedUptoRow.loops == (Tryz.f4.params.toList ++ (Rows.OpenSpec.upto Rows.proposedSpec).bare.plain.varTypes Tryz.prog).any (Tryz.prog.loopsFrom ·))) = true := by kernel_rfl
theorem proposedFact17 : ((Rows.proposedUptoRow.wideKeys == (Tryz.f4.params.toList ++ (Rows.OpenSpec.upto Rows.proposedSpec).bare.plain.varTypes Tryz.prog ++ Tryz.f4.resultTypes.toList).any (Tryz.prog.wideKeysFrom ·))) = true := by kernel_rfl
theorem proposedFact18 : ((Rows.OpenSpec.upto Rows.proposedSpec).bare.vars.all (Tryz.prog.varReadable ·)) = true := by kernel_rfl
theorem proposedFact19 : (Tryz.f4.resultTypes.all (fun t => Tryz.prog.readableRec t && decide (t < Tryz.prog.types.size))) = true := by kernel_rfl
theorem proposedFact20 : ((Rows.proposedUptoRow.ifacesOut == Tryz.f4.resultTypes.toList.any (Tryz.prog.ifacesRec ·))) = true := by kernel_rfl
theorem proposedFact21 : ((Rows.proposedUptoRow.loopsOut == Tryz.f4.resultTypes.toList.any (Tryz.prog.loopsFrom ·))) = true := by kernel_rfl
theorem proposedFact22 : ((Rows.proposedUptoRow.plainKeys == Tryz.prog.plainKeys)) = true := by kernel_rfl
theorem proposedFact23 : (Rows.proposedUptoRow.shortTexts.isNone) = true := by kernel_rfl
theorem proposedFact24 : (Tryz.prog.stopsHeard) = true := by kernel_rfl
theorem proposedFact28 : ((Rows.proposedUptoRow.kinds == (if Rows.proposedUptoRow.domain.isEmpty then [] else Tryz.f4.params.toList.map fun t => match Tryz.prog.underlying t with | some (.int k) => some k | _ => none))) = true := by kernel_rfl
theorem proposedFact29 : ((Rows.proposedUptoRow.pinned == Rows.proposedUptoRow.pinnedBy)) = true := by kernel_rfl
theorem proposedFact30 : ((Rows.proposedUptoRow.veiled == (Tryz.f4.params.toList ++ (Rows.OpenSpec.upto Rows.proposedSpec).bare.plain.varTypes Tryz.prog ++ Tryz.f4.resultTypes.toList).any (Tryz.prog.veiledRec ·))) = true := by kernel_rfl
theorem proposedFact31 : (Rows.proposedUptoRow.veiledFits Tryz.prog Tryz.f4.params.toList (Tryz.f4.params.toList ++ (Rows.OpenSpec.upto Rows.proposedSpec).bare.plain.varTypes Tryz.prog ++ Tryz.f4.resultTypes.toList)) = true := by kernel_rfl
end Go.Proofs.YtoabedkcieindabGreatDoor
