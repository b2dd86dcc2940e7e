/- The statement: plain: Read, Safe. -/
import Derived.Test.YtoabedkcieindaaGreatDoorLawI
import Derived.Test.YtoabedkcieindaaGreatDoorSm
import Derived.Deep.RegionHeld3
import Derived.Deep.DrawnRows
namespace Go.Proofs.YtoabedkcieindaaGreatDoor
open Go.RowKit Go.Maps Go.Sort
attribute [local go_sem ↓] Go.wp_at_zero Go.wp_at_succ

theorem XAt.sm {w w' : World} {S : Nat → Prop} {b : Nat} {d : Dk} (h : XAt w S b d) (e : Sm w w') : XAt w' S b d := h.kept e.1 (fun _ _ f => f)
theorem RefAt.sm {w w' : World} {S : Nat → Prop} {b : Nat} {d : Dk} (h : RefAt w S b d) (e : Sm w w') : RefAt w' S b d := h.kept e.1 (fun _ _ f => f)

set_option maxHeartbeats 1000000 in
set_option maxRecDepth 20000 in
theorem plain_read {w : World} {own : Nat → Nat} {bW N : Nat} {rs : List DR} {ts : List TX} {nxt : Nat} {vd vt vm : Value} (h : Inv w own bW N rs ts nxt vd vt vm) (i : Nat) (hi : i < rs.length) (hsy : ∀ r ∈ rs, r.dx = r.dy) (hN : N ≤ 4194300)
    (S T : List UInt8) (hS : S.length ≤ 1099511627776) (D A B ops L old : Value) :
    Calls Tryz.prog 50 #[ptrB bW, ptrB rs[i].bk, .agg #[.int .i64 6, D, A, B, .string ⟨S.toArray⟩, .string ⟨T.toArray⟩, ops, L, old]] w fun e w' => e = .returned (.bool true) ∧ Step w own bW N rs ts nxt w' := by
  have hxy := hsy _ (List.getElem_mem hi)
  have h0 := h.quiet ((Kp.refl (fun k => own k = 0) w).alloc (Obj.cells #[.int .i64 6, D, A, B, .string ⟨S.toArray⟩, .string ⟨T.toArray⟩, ops, L, old] 107))
  have hOb := block_new w (Obj.cells #[.int .i64 6, D, A, B, .string ⟨S.toArray⟩, .string ⟨T.toArray⟩, ops, L, old] 107)
  have hbw : Below w.heap.size w (w.alloc (Obj.cells #[.int .i64 6, D, A, B, .string ⟨S.toArray⟩, .string ⟨T.toArray⟩, ops, L, old] 107)) := (Below.refl _ _).alloc (Nat.le_refl _) _
  obtain ⟨own0, ho0⟩ : ∃ own0, own0 = recolor own w 0 := ⟨_, rfl⟩
  rw [← ho0] at h0
  have hO0 : own0 w.heap.size = 0 := by rw [ho0]; exact recolor_new (Nat.le_refl _)
  unfold ptrB at *
  go_enter Tryz.func50, Tryz.ntmps50
  go_wp2
  generalize hw0 : w.alloc (Obj.cells #[.int .i64 6, D, A, B, .string ⟨S.toArray⟩, .string ⟨T.toArray⟩, ops, L, old] 107) = w0 at *
  have HW : Hid (w.alloc (Obj.cells #[.int .i64 6, D, A, B, .string ⟨S.toArray⟩, .string ⟨T.toArray⟩, ops, L, old] 107) = w0) := hw0
  clear hw0
  have d0 := h0.disk i hi
  obtain ⟨k0, k1, k2, kz0, kz1, kz2⟩ := cells3 d0.blk
  obtain ⟨o0, o2, o4, o5, o7⟩ := cells9 hOb
  unfold ptrB at *
  have HD : Hid (DiskAt w0 own0 N i rs[i]) := d0
  have HI : Hid (Inv w0 own0 bW N rs ts nxt vd vt vm) := h0
  have HH : Hid (Inv w own bW N rs ts nxt vd vt vm) := h
  clear d0 h0 h
  have hxw : ∀ w', Sm w0 w' → _ := fun w' e => (xRead_any rs[i].bx rs[i].dx S (fun k => own0 k = 4 + 3 * i) w' (HD.out.x.sm e) (Nat.le_trans hS (by decide)))
  have hyw : ∀ w', Sm w0 w' → _ := fun w' e => (yRead_any rs[i].bY rs[i].dy S (fun k => own0 k = 5 + 3 * i) w' (HD.out.y.sm e) (Nat.le_trans HD.out.ly (by omega)))
  go_region_held3 (fun w' => w'.cell? ⟨rs[i].bk, 0, none⟩ = some (.pointer (some ⟨rs[i].bx, 0, none⟩)) ∧ w'.cell? ⟨w.heap.size, 4, none⟩ = some (.string ⟨S.toArray⟩) ∧ Sm w0 w') (go_keep)
    (first | (go_at_call 60; refine (hxw _ ?_).mono ?_; (simp [*]); rintro e w' ⟨rfl, rfl⟩))
  go_wp2
  go_region_held3 (fun w' => w'.cell? ⟨rs[i].bk, 1, none⟩ = some (.pointer (some ⟨rs[i].bY, 0, none⟩)) ∧ w'.cell? ⟨w.heap.size, 4, none⟩ = some (.string ⟨S.toArray⟩) ∧ Sm w0 w') (go_keep)
    (first | (go_at_call 85; refine (hyw _ ?_).mono ?_; (simp [*]); rintro e w' ⟨rfl, rfl⟩))
  go_wp2_with (go_at_call 78; refine (num_eq _ _).mono ?_; rintro e w9 ⟨rfl, rfl⟩)
  go_ret
  exact ⟨by first | rfl | simp | exact ret_bool (by simp), step_quiet HH.out hsy hbw.drew.drew⟩

set_option maxHeartbeats 1000000 in
set_option maxRecDepth 20000 in
theorem plain_safe {w : World} {own : Nat → Nat} {bW N : Nat} {rs : List DR} {ts : List TX} {nxt : Nat} {vd vt vm : Value} (h : Inv w own bW N rs ts nxt vd vt vm) (i : Nat) (hi : i < rs.length) (hsy : ∀ r ∈ rs, r.dx = r.dy) (hN : N ≤ 4194300)
    (S T : List UInt8) (hS : S.length ≤ 1099511627776) (D A B ops L old : Value) :
    Calls Tryz.prog 50 #[ptrB bW, ptrB rs[i].bk, .agg #[.int .i64 7, D, A, B, .string ⟨S.toArray⟩, .string ⟨T.toArray⟩, ops, L, old]] w fun e w' => e = .returned (.bool true) ∧ Step w own bW N rs ts nxt w' := by
  have hxy := hsy _ (List.getElem_mem hi)
  have h0 := h.quiet ((Kp.refl (fun k => own k = 0) w).alloc (Obj.cells #[.int .i64 7, D, A, B, .string ⟨S.toArray⟩, .string ⟨T.toArray⟩, ops, L, old] 107))
  have hOb := block_new w (Obj.cells #[.int .i64 7, D, A, B, .string ⟨S.toArray⟩, .string ⟨T.toArray⟩, ops, L, old] 107)
  have hbw : Below w.heap.size w (w.alloc (Obj.cells #[.int .i64 7, D, A, B, .string ⟨S.toArray⟩, .string ⟨T.toArray⟩, ops, L, old] 107)) := (Below.refl _ _).alloc (Nat.le_refl _) _
  obtain ⟨own0, ho0⟩ : ∃ own0, own0 = recolor own w 0 := ⟨_, rfl⟩
  rw [← ho0] at h0
  have hO0 : own0 w.heap.size = 0 := by rw [ho0]; exact recolor_new (Nat.le_refl _)
  unfold ptrB at *
  go_enter Tryz.func50, Tryz.ntmps50
  go_wp2
  generalize hw0 : w.alloc (Obj.cells #[.int .i64 7, D, A, B, .string ⟨S.toArray⟩, .string ⟨T.toArray⟩, ops, L, old] 107) = w0 at *
  have HW : Hid (w.alloc (Obj.cells #[.int .i64 7, D, A, B, .string ⟨S.toArray⟩, .string ⟨T.toArray⟩, ops, L, old] 107) = w0) := hw0
  clear hw0
  have d0 := h0.disk i hi
  obtain ⟨k0, k1, k2, kz0, kz1, kz2⟩ := cells3 d0.blk
  obtain ⟨o0, o2, o4, o5, o7⟩ := cells9 hOb
  unfold ptrB at *
  have HD : Hid (DiskAt w0 own0 N i rs[i]) := d0
  have HI : Hid (Inv w0 own0 bW N rs ts nxt vd vt vm) := h0
  have HH : Hid (Inv w own bW N rs ts nxt vd vt vm) := h
  clear d0 h0 h
  have hxw : ∀ w', Sm w0 w' → _ := fun w' e => (xSafe_any rs[i].bx rs[i].dx S (fun k => own0 k = 4 + 3 * i) w' (HD.out.x.sm e) (Nat.le_trans hS (by decide)))
  have hyw : ∀ w', Sm w0 w' → _ := fun w' e => (ySafe_any rs[i].bY rs[i].dy S (fun k => own0 k = 5 + 3 * i) w' (HD.out.y.sm e) (Nat.le_trans HD.out.ly (by omega)))
  go_region_held3 (fun w' => w'.cell? ⟨rs[i].bk, 0, none⟩ = some (.pointer (some ⟨rs[i].bx, 0, none⟩)) ∧ w'.cell? ⟨w.heap.size, 4, none⟩ = some (.string ⟨S.toArray⟩) ∧ Sm w0 w') (go_keep)
    (first | (go_at_call 86; refine (hxw _ ?_).mono ?_; (simp [*]); rintro e w' ⟨rfl, rfl⟩))
  go_wp2
  go_region_held3 (fun w' => w'.cell? ⟨rs[i].bk, 1, none⟩ = some (.pointer (some ⟨rs[i].bY, 0, none⟩)) ∧ w'.cell? ⟨w.heap.size, 4, none⟩ = some (.string ⟨S.toArray⟩) ∧ Sm w0 w') (go_keep)
    (first | (go_at_call 87; refine (hyw _ ?_).mono ?_; (simp [*]); rintro e w' ⟨rfl, rfl⟩))
  go_wp2_with (go_at_call 78; refine (num_eq _ _).mono ?_; rintro e w9 ⟨rfl, rfl⟩)
  go_ret
  exact ⟨by first | rfl | simp | exact ret_bool (by simp), step_quiet HH.out hsy hbw.drew.drew⟩

end Go.Proofs.YtoabedkcieindaaGreatDoor
