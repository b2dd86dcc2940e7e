import Derived.Test.YtoabedkcieindaaGreatDoorRows
import Derived.JoinedCond
namespace Go.Proofs.YtoabedkcieindaaGreatDoor
open Go

theorem shapedFact13 : ((Rows.shapedRow.maps == (Tryz.f12.params.toList ++ (OpenSpec.ofChange Rows.shapedSpec).bare.plain.varTypes Tryz.prog).any (Tryz.prog.mapsRec ·))) = true := by kernel_rfl
theorem shapedFact14 : ((Rows.shapedRow.ifaces == (Tryz.f12.params.toList ++ (OpenSpec.ofChange Rows.shapedSpec).bare.plain.varTypes Tryz.prog).any (Tryz.prog.ifacesRec ·))) = true := by kernel_rfl
theorem shapedFact15 : ((Rows.shapedRow.mapsOut == Tryz.prog.mapsAmong Tryz.f12.resultTypes.toList)) = true := by kernel_rfl
theorem shapedFact16 : ((Rows.shapedRow.loops == (Tryz.f12.params.toList ++ (OpenSpec.ofChange Rows.shapedSpec).bare.plain.varTypes Tryz.prog).any (Tryz.prog.loopsFrom ·))) = true := by kernel_rfl
theorem shapedFact17 : ((Rows.shapedRow.wideKeys == (Tryz.f12.params.toList ++ (OpenSpec.ofChange Rows.shapedSpec).bare.plain.varTypes Tryz.prog ++ Tryz.f12.resultTypes.toList).any (Tryz.prog.wideKeysFrom ·))) = true := by kernel_rfl
theorem shapedFact18 : ((OpenSpec.ofChange Rows.shapedSpec).bare.vars.all (Tryz.prog.varReadable ·)) = true := by kernel_rfl
theorem shapedFact19 : (Tryz.f12.resultTypes.all (fun t => Tryz.prog.readableRec t && decide (t < Tryz.prog.types.size))) = true := by kernel_rfl
theorem shapedFact20 : ((Rows.shapedRow.ifacesOut == Tryz.f12.resultTypes.toList.any (Tryz.prog.ifacesRec ·))) = true := by kernel_rfl
theorem shapedFact21 : ((Rows.shapedRow.loopsOut == Tryz.f12.resultTypes.toList.any (Tryz.prog.loopsFrom ·))) = true := by kernel_rfl
theorem shapedFact22 : ((Rows.shapedRow.plainKeys == Tryz.prog.plainKeys)) = true := by kernel_rfl
theorem shapedFact23 : (Rows.shapedRow.shortTexts.isNone) = true := by kernel_rfl
theorem shapedFact24 : (Tryz.prog.stopsHeard) = true := by kernel_rfl
theorem shapedFact28 : ((Rows.shapedRow.kinds == (if Rows.shapedRow.domain.isEmpty then [] else Tryz.f12.params.toList.map fun t => match Tryz.prog.underlying t with | some (.int k) => some k | _ => none))) = true := by kernel_rfl
theorem shapedFact29 : ((Rows.shapedRow.pinned == Rows.shapedRow.pinnedBy)) = true := by kernel_rfl
theorem shapedFact30 : ((Rows.shapedRow.veiled == (Tryz.f12.params.toList ++ (OpenSpec.ofChange Rows.shapedSpec).bare.plain.varTypes Tryz.prog ++ Tryz.f12.resultTypes.toList).any (Tryz.prog.veiledRec ·))) = true := by kernel_rfl
theorem shapedFact31 : (Rows.shapedRow.veiledFits Tryz.prog Tryz.f12.params.toList (Tryz.f12.params.toList ++ (OpenSpec.ofChange Rows.shapedSpec).bare.plain.varTypes Tryz.prog ++ Tryz.f12.resultTypes.toList)) = true := by kernel_rfl

end Go.Proofs.YtoabedkcieindaaGreatDoor
