import Derived.Test.YtoabedkcieindaaGreatDoorRows
import Derived.JoinedCond
namespace Go.Proofs.YtoabedkcieindaaGreatDoor
open Go
theorem alikeFact13 : ((Rows.alikeUptoRow.maps == (Tryz.f14.params.toList ++ (Rows.OpenSpec.upto Rows.alikeSpec).bare.plain.varTypes Tryz.prog).any (Tryz.prog.mapsRec ·))) = true := by kernel_rfl
theorem alikeFact14 : ((Rows.alikeUptoRow.ifaces == (Tryz.f14.params.toList ++ (Rows.OpenSpec.upto Rows.alikeSpec).bare.plain.varTypes Tryz.prog).any (Tryz.prog.ifacesRec ·))) = true := by kernel_rfl
theorem alikeFact15 : ((Rows.alikeUptoRow.mapsOut == Tryz.prog.mapsAmong Tryz.f14.resultTypes.toList)) = true := by kernel_rfl
theorem alikeFact16 : ((Rows.alikeUptoRow.loops == (Tryz.f14.params.toList ++ (Rows.OpenSpec.upto Rows.alikeSpec).bare.plain.varTypes Tryz.prog).any (Tryz.prog.loopsFrom ·))) = true := by kernel_rfl
theorem alikeFact17 : ((Rows.alikeUptoRow.wideKeys == (Tryz.f14.params.toList ++ (Rows.OpenSpec.upto Rows.alikeSpec).bare.plain.varTypes Tryz.prog ++ Tryz.f14.resultTypes.toList).any (Tryz.prog.wideKeysFrom ·))) = true := by kernel_rfl
theorem alikeFact18 : ((Rows.OpenSpec.upto Rows.alikeSpec).bare.vars.all (Tryz.prog.varReadable ·)) = true := by kernel_rfl
theorem alikeFact19 : (Tryz.f14.resultTypes.all (fun t => Tryz.prog.readableRec t && decide (t < Tryz.prog.types.size))) = true := by kernel_rfl
theorem alikeFact20 : ((Rows.alikeUptoRow.ifacesOut == Tryz.f14.resultTypes.toList.any (Tryz.prog.ifacesRec ·))) = true := by kernel_rfl
theorem alikeFact21 : ((Rows.alikeUptoRow.loopsOut == Tryz.f14.resultTypes.toList.any (Tryz.prog.loopsFrom ·))) = true := by kernel_rfl
theorem alikeFact22 : ((Rows.alikeUptoRow.plainKeys == Tryz.prog.plainKeys)) = true := by kernel_rfl
theorem alikeFact23 : (Rows.alikeUptoRow.shortTexts.isNone) = true := by kernel_rfl
theorem alikeFact24 : (Tryz.prog.stopsHeard) = true := by kernel_rfl
theorem alikeFact28 : ((Rows.alikeUptoRow.kinds == (if Rows.alikeUptoRow.domain.isEmpty then [] else Tryz.f14.params.toList.map fun t => match Tryz.prog.underlying t with | some (.int k) => some k | _ => none))) = true := by kernel_rfl
theorem alikeFact29 : ((Rows.alikeUptoRow.pinned == Rows.alikeUptoRow.pinnedBy)) = true := by kernel_rfl
theorem alikeFact30 : ((Rows.alikeUptoRow.veiled == (Tryz.f14.params.toList ++ (Rows.OpenSpec.upto Rows.alikeSpec).bare.plain.varTypes Tryz.prog ++ Tryz.f14.resultTypes.toList).any (Tryz.prog.veiledRec ·))) = true := by kernel_rfl
theorem alikeFact31 : (Rows.alikeUptoRow.veiledFits Tryz.prog Tryz.f14.params.toList (Tryz.f14.params.toList ++ (Rows.OpenSpec.upto Rows.alikeSpec).bare.plain.varTypes Tryz.prog ++ Tryz.f14.resultTypes.toList)) = true := by kernel_rfl
end Go.Proofs.YtoabedkcieindaaGreatDoor
