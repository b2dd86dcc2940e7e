/- The statement: power: Fuse. -/
import Derived.Test.YtoabedkcieindaaGreatDoorLawL
namespace Go.Proofs.YtoabedkcieindaaGreatDoor
open Go.RowKit Go.Maps Go.Sort

set_option maxHeartbeats 1000000 in
set_option maxRecDepth 20000 in
theorem power_fuse {w : World} {own : Nat → Nat} {bW N : Nat} {rs : List DR} {ts : List TX} {nxt : Nat} {vd vt vm : Value} (h : Inv w own bW N rs ts nxt vd vt vm) (i : Nat) (hi : i < rs.length) (hsy : ∀ r ∈ rs, r.dx = r.dy)
    (S T : List UInt8) (A : Int) (hA : A ≤ 9223372036854775807) (D B ops L old : Value) :
    Calls Tryz.prog 92 #[ptrB rs[i].bk, .agg #[.int .i64 9, D, .int .i64 A, B, .string ⟨S.toArray⟩, .string ⟨T.toArray⟩, ops, L, old]] w fun e w' => e = .returned (.bool true) ∧ Step w own bW N rs ts nxt w' := by
  have hxy := hsy _ (List.getElem_mem hi)
  have h0 := h.quiet ((Kp.refl (fun k => own k = 0) w).alloc (Obj.cells #[.int .i64 9, D, .int .i64 A, B, .string ⟨S.toArray⟩, .string ⟨T.toArray⟩, ops, L, old] 107))
  have hOb := block_new w (Obj.cells #[.int .i64 9, D, .int .i64 A, B, .string ⟨S.toArray⟩, .string ⟨T.toArray⟩, ops, L, old] 107)
  have hbw : Below w.heap.size w (w.alloc (Obj.cells #[.int .i64 9, D, .int .i64 A, B, .string ⟨S.toArray⟩, .string ⟨T.toArray⟩, ops, L, old] 107)) := (Below.refl _ _).alloc (Nat.le_refl _) _
  obtain ⟨own0, ho0⟩ : ∃ own0, own0 = recolor own w 0 := ⟨_, rfl⟩
  rw [← ho0] at h0
  have hO0 : own0 w.heap.size = 0 := by rw [ho0]; exact recolor_new (Nat.le_refl _)
  unfold ptrB at *
  go_enter Tryz.func92, Tryz.ntmps92
  go_wp2
  generalize hw0 : w.alloc (Obj.cells #[.int .i64 9, D, .int .i64 A, B, .string ⟨S.toArray⟩, .string ⟨T.toArray⟩, ops, L, old] 107) = w0 at *
  have HW : Hid (w.alloc (Obj.cells #[.int .i64 9, D, .int .i64 A, B, .string ⟨S.toArray⟩, .string ⟨T.toArray⟩, ops, L, old] 107) = w0) := hw0
  clear hw0
  have d0 := h0.disk i hi
  obtain ⟨k0, k1, k2, kz0, kz1, kz2⟩ := cells3 d0.blk
  obtain ⟨o0, o2, o4, o5, o7⟩ := cells9 hOb
  unfold ptrB at *
  have HD : Hid (DiskAt w0 own0 N i rs[i]) := d0
  have HI : Hid (Inv w0 own0 bW N rs ts nxt vd vt vm) := h0
  have HH : Hid (Inv w own bW N rs ts nxt vd vt vm) := h
  clear d0 h0 h
  have hxw := xFuse_any rs[i].bx rs[i].dx A (fun k => own0 k = 4 + 3 * i) w0.drew (HD.out.x.drew)
  go_still_tail 6, mixedT
  go_wp2_with (go_at_call 22; refine hxw.mono ?_; rintro e w1 ⟨rfl, hX1, kp1⟩; have kp1 := kp1.undrew; have hy1 := HD.out.y.recolor kp1 (by omega); have hdb := kp1.at HD.out.blk (fun e => by have := HD.out.ck; omega); have hob := kp1.at hOb (fun e => by omega); unfold ptrB at hdb; obtain ⟨j0, j1, j2, jz0, jz1, jz2⟩ := cells3 hdb; obtain ⟨p0, p2, p4, p5, p7⟩ := cells9 hob)
  have hyw := yFuse_any rs[i].bY rs[i].dy A (fun k => recolor own0 w0 (4 + 3 * i) k = 5 + 3 * i) w1.drew hy1
  clear hxw
  go_still_tail 6, mixedT
  go_wp2_with (go_at_call 131; refine hyw.mono ?_; rintro e w2 ⟨rfl, hY2, kp2⟩)
  go_ret
  have hwo := fuse_ok HD.out.oky A hA
  subst ho0
  rw [hxy] at hX1
  refine ⟨rfl, xy_close HH.out hsy hbw i hi kp1 hX1 kp2.undrew hY2 hwo.1 (Nat.le_trans hwo.2 (by have := HD.out.ly; omega))⟩

end Go.Proofs.YtoabedkcieindaaGreatDoor
