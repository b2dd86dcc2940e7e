import Derived.Test.YtoabedkcieindaaGreatDoorRows
import Derived.JoinedCond
namespace Go.Proofs.YtoabedkcieindaaGreatDoor
open Go
theorem heldFact13 : ((Rows.heldUptoRow.maps == (Tryz.f11.params.toList ++ (Rows.OpenSpec.upto Rows.heldSpec).bare.plain.varTypes Tryz.prog).any (Tryz.prog.mapsRec ·))) = true := by kernel_rfl
theorem heldFact14 : ((Rows.heldUptoRow.ifaces == (Tryz.f11.params.toList ++ (Rows.OpenSpec.upto Rows.heldSpec).bare.plain.varTypes Tryz.prog).any (Tryz.prog.ifacesRec ·))) = true := by kernel_rfl
theorem heldFact15 : ((Rows.heldUptoRow.mapsOut == Tryz.prog.mapsAmong Tryz.f11.resultTypes.toList)) = true := by kernel_rfl
theorem heldFact16 : ((Rows.heldUptoRow.loops == (Tryz.f11.params.toList ++ (Rows.OpenSpec.upto Rows.heldSpec).bare.plain.varTypes Tryz.prog).any (Tryz.prog.loopsFrom ·))) = true := by kernel_rfl
theorem heldFact17 : ((Rows.heldUptoRow.wideKeys == (Tryz.f11.params.toList ++ (Rows.OpenSpec.upto Rows.heldSpec).bare.plain.varTypes Tryz.prog ++ Tryz.f11.resultTypes.toList).any (Tryz.prog.wideKeysFrom ·))) = true := by kernel_rfl
theorem heldFact18 : ((Rows.OpenSpec.upto Rows.heldSpec).bare.vars.all (Tryz.prog.varReadable ·)) = true := by kernel_rfl
theorem heldFact19 : (Tryz.f11.resultTypes.all (fun t => Tryz.prog.readableRec t && decide (t < Tryz.prog.types.size))) = true := by kernel_rfl
theorem heldFact20 : ((Rows.heldUptoRow.ifacesOut == Tryz.f11.resultTypes.toList.any (Tryz.prog.ifacesRec ·))) = true := by kernel_rfl
theorem heldFact21 : ((Rows.heldUptoRow.loopsOut == Tryz.f11.resultTypes.toList.any (Tryz.prog.loopsFrom ·))) = true := by kernel_rfl
theorem heldFact22 : ((Rows.heldUptoRow.plainKeys == Tryz.prog.plainKeys)) = true := by kernel_rfl
theorem heldFact23 : (Rows.heldUptoRow.shortTexts.isNone) = true := by kernel_rfl
theorem heldFact24 : (Tryz.prog.stopsHeard) = true := by kernel_rfl
theorem heldFact28 : ((Rows.heldUptoRow.kinds == (if Rows.heldUptoRow.domain.isEmpty then [] else Tryz.f11.params.toList.map fun t => match Tryz.prog.underlying t with | some (.int k) => some k | _ => none))) = true := by kernel_rfl
theorem heldFact29 : ((Rows.heldUptoRow.pinned == Rows.heldUptoRow.pinnedBy)) = true := by kernel_rfl
theorem heldFact30 : ((Rows.heldUptoRow.veiled == (Tryz.f11.params.toList ++ (Rows.OpenSpec.upto Rows.heldSpec).bare.plain.varTypes Tryz.prog ++ Tryz.f11.resultTypes.toList).any (Tryz.prog.veiledRec ·))) = true := by kernel_rfl
theorem heldFact31 : (Rows.heldUptoRow.veiledFits Tryz.prog Tryz.f11.params.toList (Tryz.f11.params.toList ++ (Rows.OpenSpec.upto Rows.heldSpec).bare.plain.varTypes Tryz.prog ++ Tryz.f11.resultTypes.toList)) = true := by kernel_rfl
end Go.Proofs.YtoabedkcieindaaGreatDoor
