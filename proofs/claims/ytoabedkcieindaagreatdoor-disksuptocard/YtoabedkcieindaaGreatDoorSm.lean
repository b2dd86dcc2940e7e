/- Worlds that differ by draws alone; regions that draw and hold calls. -/
import Derived.Test.YtoabedkcieindaaGreatDoorBase
import Derived.Deep.RegionHeld3
import Derived.Deep.DrawnRows
namespace Go.Proofs.YtoabedkcieindaaGreatDoor
open Go.RowKit

/-- w' is w, but for draws. -/
def Sm (w w' : World) : Prop := Kp (fun _ => False) w w' ∧ w'.heap.size = w.heap.size
@[simp] theorem Sm.rfl' (w : World) : Sm w w := ⟨Kp.refl _ _, rfl⟩
@[simp] theorem Sm.drew' (w w' : World) : Sm w w'.drew ↔ Sm w w' := ⟨fun h => ⟨⟨h.1.os, h.1.tape, h.1.output, h.1.size, h.1.block⟩, h.2⟩, fun h => ⟨h.1.drew, h.2⟩⟩
theorem Sm.below {w w' : World} (h : Sm w w') : Below w.heap.size w w' := h.1.below

end Go.Proofs.YtoabedkcieindaaGreatDoor
