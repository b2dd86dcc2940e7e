import Derived.Test.YtoabedkcieindaaGreatDoorHkBG
import Derived.Test.YtoabedkcieindaaGreatDoorRows
import Derived.Deep.DeepHandedRow
import Derived.LaidMore
namespace Go.Proofs.YtoabedkcieindaaGreatDoor
open Go.ChangeShapes Go.WideShapes Go.ChangeAt Go.RowKit
theorem held_met (os : Os) : laidMet Tryz.prog Rows.heldUptoRow.laid ((World.doorLaid Tryz.prog 4000 os).forCall (fun _ _ => 0) ⟨#[], #[.int .i64 0, .slice none 0 0, .slice none 0 0, str []], []⟩).memory :=
  laidMet_of_run' 8 (by kernel_rfl) (by kernel_rfl)
theorem held_reads (os : Os) {H : Type} (enc : TypeId × Value → H) : ∃ places, DataW.whole enc Tryz.prog ((World.doorLaid Tryz.prog 4000 os).forCall (fun _ _ => 0) ⟨#[], #[.int .i64 0, .slice none 0 0, .slice none 0 0, str []], []⟩).memory Tryz.f11.params.toList Rows.heldSpec.vars false #[Value.int .i64 0, Value.slice none 0 0, Value.slice none 0 0, str []].toList 8 = some ([.lit (.int .i64 0), .nil, .nil, .lit (.string [])], [], places) :=
  ⟨[], by kernel_rfl⟩
set_option maxRecDepth 100000 in
theorem held_lifted (os : Os) (started : os.Started) (H : Type) (enc : TypeId × Value → H) (F : Stop.Interp) :
    ReturnsInHanded {} Tryz.checked os 11 .any ((Rows.OpenSpec.upto Rows.heldSpec).preRow enc Tryz.prog Tryz.f11 Rows.heldUptoRow.domain false Rows.heldUptoRow.laid) (((Rows.OpenSpec.upto Rows.heldSpec).at F).post enc Tryz.prog Tryz.f11 false true false false) := by
  obtain ⟨places, hx⟩ := held_reads os enc
  refine returnsInHanded_of_row (C := Tryz.checked) (s := Rows.OpenSpec.upto Rows.heldSpec) Tryz.ownK started (by kernel_rfl) Tryz.func11
    (witness_row_at (enc := enc) (C := Tryz.checked) false (World.doorLaid Tryz.prog 4000 os) #[.int .i64 0, .slice none 0 0, .slice none 0 0, str []] rfl (by kernel_rfl) (by kernel_rfl) (by kernel_rfl)
      (OpenSpec.preRow_of_cond 8 hx (by kernel_rfl) (fun k hk => by cases hk; kernel_rfl) (by kernel_rfl) (held_met os))) ?_
  intro W base args ds gs before hval hW _ hcond _ _ _ _
  exact held_contract W base args ds gs before hval hW (hcond _ rfl)
end Go.Proofs.YtoabedkcieindaaGreatDoor
