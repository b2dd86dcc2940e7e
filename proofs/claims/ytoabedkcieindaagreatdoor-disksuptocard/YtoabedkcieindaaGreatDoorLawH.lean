/- The statement: plain. -/
import Derived.Test.YtoabedkcieindaaGreatDoorLawG
import Derived.StillTailTactics
namespace Go.Proofs.YtoabedkcieindaaGreatDoor
open Go.RowKit Go.Maps Go.Sort

theorem cells9 {w : World} {b : Nat} {a0 a1 a2 a3 a4 a5 a6 a7 a8 : Value} {t : TypeId} (hb : w.heap[b]? = some (.cells #[a0, a1, a2, a3, a4, a5, a6, a7, a8] t)) :
    w.cell? ⟨b, 0, none⟩ = some a0 ∧ w.cell? ⟨b, 2, none⟩ = some a2 ∧ w.cell? ⟨b, 4, none⟩ = some a4 ∧ w.cell? ⟨b, 5, none⟩ = some a5 ∧ w.cell? ⟨b, 7, none⟩ = some a7 :=
  ⟨cell_block hb, cell_block hb, cell_block hb, cell_block hb, cell_block hb⟩

theorem mixedT : Tryz.prog.follows .mixedOrders = true := by kernel_rfl
theorem XAt.drew {w : World} {S : Nat → Prop} {b : Nat} {d : Dk} (h : XAt w S b d) : XAt w.drew S b d := h.kept (T := fun _ => False) ((Kp.refl _ _).drew) (fun _ _ f => f)

/-- What a step leaves. -/
structure Left (w : World) (own : Nat → Nat) (bW N : Nat) (rs : List DR) (ts : List TX) (nxt : Nat) (w' : World) (own' : Nat → Nat) (rs' : List DR) (ts' : List TX) (nxt' : Nat) (vd' vt' vm' : Value) : Prop where
  inv : Inv w' own' bW (N + 1) rs' ts' nxt' vd' vt' vm'
  old : ∀ k, k < w.heap.size → own' k = own k
  len : rs.length ≤ rs'.length ∧ rs'.length ≤ rs.length + 1
  sync : ∀ r ∈ rs', r.dx = r.dy
  tlen : ts'.length ≤ ts.length + 4
  nx : nxt' ≤ nxt + 1

def Step (w : World) (own : Nat → Nat) (bW N : Nat) (rs : List DR) (ts : List TX) (nxt : Nat) (w' : World) : Prop :=
  Kp (fun k => own k ≠ 0) w w' ∧ ∃ own' rs' ts' nxt' vd' vt' vm', Left w own bW N rs ts nxt w' own' rs' ts' nxt' vd' vt' vm'

theorem Inv.more {w : World} {own : Nat → Nat} {bW N : Nat} {rs : List DR} {ts : List TX} {nxt : Nat} {vd vt vm : Value} (h : Inv w own bW N rs ts nxt vd vt vm) {N' : Nat} (hN : N ≤ N') : Inv w own bW N' rs ts nxt vd vt vm :=
  ⟨h.blk, h.cW, h.rowd, h.rowt, h.rowm, h.cd, h.ct, h.cm, h.text, fun i hi => let d := h.disk i hi; ⟨d.blk, d.ck, d.x, d.y, d.okx, d.oky, Nat.le_trans d.lx hN, Nat.le_trans d.ly hN⟩⟩

theorem step_quiet {w w' : World} {own : Nat → Nat} {bW N : Nat} {rs : List DR} {ts : List TX} {nxt : Nat} {vd vt vm : Value} (h : Inv w own bW N rs ts nxt vd vt vm) (hs : ∀ r ∈ rs, r.dx = r.dy) (kb : Below w.heap.size w w') : Step w own bW N rs ts nxt w' :=
  ⟨Kp.of_below kb, _, _, _, _, _, _, _, (h.quiet (Kp.of_below kb)).more (Nat.le_succ _), fun _ hk => recolor_old hk, ⟨Nat.le_refl _, Nat.le_succ _⟩, hs, by omega, by omega⟩

/-- Both disks have turned alike. -/
theorem xy_close {w w0 w1 w2 : World} {own : Nat → Nat} {bW N : Nat} {rs : List DR} {ts : List TX} {nxt : Nat} {vd vt vm : Value} (h : Inv w own bW N rs ts nxt vd vt vm) (hs : ∀ r ∈ rs, r.dx = r.dy) (k0 : Below w.heap.size w w0) (i : Nat) (hi : i < rs.length)
    (k1 : Kp (fun k => recolor own w 0 k = 4 + 3 * i) w0 w1) {d' : Dk} (hX : XAt w1 (Nw (fun k => recolor own w 0 k = 4 + 3 * i) w0) rs[i].bx d') (k2 : Kp (fun k => recolor (recolor own w 0) w0 (4 + 3 * i) k = 5 + 3 * i) w1 w2)
    (hY : RefAt w2 (Nw (fun k => recolor (recolor own w 0) w0 (4 + 3 * i) k = 5 + 3 * i) w1) rs[i].bY d') (hok : d'.Ok) (hl : d'.files.length ≤ N + 1) : Step w own bW N rs ts nxt w2 := by
  have s0 := k0.size
  have s1 := k1.size
  have h0 := h.quiet (Kp.of_below k0)
  have h1 := h0.stepX i hi k1 d' hX hok hl (Nat.le_succ _)
  have hi1 : i < (rs.set i { rs[i] with dx := d' }).length := by simpa using hi
  have e1 : (rs.set i { rs[i] with dx := d' })[i] = { rs[i] with dx := d' } := List.getElem_set_self _
  have h2 := h1.stepY i hi1 k2 d' (by rw [e1]; exact hY) hok hl (Nat.le_refl _)
  rw [e1, List.set_set] at h2
  refine ⟨?_, _, _, _, _, _, _, _, h2, fun k hk => ?_, ?_, ?_, by omega, by omega⟩
  · refine ((Kp.of_below (S := fun k => own k ≠ 0) k0).trans k1 (fun k hk e => ?_)).trans k2 (fun k hk e => ?_)
    · rw [recolor_old hk] at e; omega
    · rw [recolor_old (by omega), recolor_old hk] at e; omega
  · rw [recolor_old (by omega), recolor_old (by omega), recolor_old hk]
  · simp
  · intro r hr
    rcases List.mem_or_eq_of_mem_set hr with hr | rfl
    · exact hs r hr
    · rfl

set_option maxHeartbeats 1000000 in
set_option maxRecDepth 20000 in
theorem plain_write {w : World} {own : Nat → Nat} {bW N : Nat} {rs : List DR} {ts : List TX} {nxt : Nat} {vd vt vm : Value} (h : Inv w own bW N rs ts nxt vd vt vm) (i : Nat) (hi : i < rs.length) (hsy : ∀ r ∈ rs, r.dx = r.dy) (hN : N ≤ 4194300)
    (S T : List UInt8) (hS : S.length ≤ 1099511627776) (hT : T.length ≤ 1099511627776) (D A B ops L old : Value) :
    Calls Tryz.prog 50 #[ptrB bW, ptrB rs[i].bk, .agg #[.int .i64 2, D, A, B, .string ⟨S.toArray⟩, .string ⟨T.toArray⟩, ops, L, old]] w fun e w' => e = .returned (.bool true) ∧ Step w own bW N rs ts nxt w' := by
  have hxy := hsy _ (List.getElem_mem hi)
  have h0 := h.quiet ((Kp.refl (fun k => own k = 0) w).alloc (Obj.cells #[.int .i64 2, D, A, B, .string ⟨S.toArray⟩, .string ⟨T.toArray⟩, ops, L, old] 107))
  have hOb := block_new w (Obj.cells #[.int .i64 2, D, A, B, .string ⟨S.toArray⟩, .string ⟨T.toArray⟩, ops, L, old] 107)
  have hbw : Below w.heap.size w (w.alloc (Obj.cells #[.int .i64 2, D, A, B, .string ⟨S.toArray⟩, .string ⟨T.toArray⟩, ops, L, old] 107)) := (Below.refl _ _).alloc (Nat.le_refl _) _
  obtain ⟨own0, ho0⟩ : ∃ own0, own0 = recolor own w 0 := ⟨_, rfl⟩
  rw [← ho0] at h0
  have hO0 : own0 w.heap.size = 0 := by rw [ho0]; exact recolor_new (Nat.le_refl _)
  unfold ptrB at *
  go_enter Tryz.func50, Tryz.ntmps50
  go_wp2
  generalize hw0 : w.alloc (Obj.cells #[.int .i64 2, D, A, B, .string ⟨S.toArray⟩, .string ⟨T.toArray⟩, ops, L, old] 107) = w0 at *
  have HW : Hid (w.alloc (Obj.cells #[.int .i64 2, D, A, B, .string ⟨S.toArray⟩, .string ⟨T.toArray⟩, ops, L, old] 107) = w0) := hw0
  clear hw0
  have d0 := h0.disk i hi
  obtain ⟨k0, k1, k2, kz0, kz1, kz2⟩ := cells3 d0.blk
  obtain ⟨o0, o2, o4, o5, o7⟩ := cells9 hOb
  unfold ptrB at *
  have HD : Hid (DiskAt w0 own0 N i rs[i]) := d0
  have HI : Hid (Inv w0 own0 bW N rs ts nxt vd vt vm) := h0
  have HH : Hid (Inv w own bW N rs ts nxt vd vt vm) := h
  clear d0 h0 h
  have hxw := xWrite_any rs[i].bx rs[i].dx S T (fun k => own0 k = 4 + 3 * i) w0.drew (HD.out.x.drew) HD.out.okx (Nat.le_trans HD.out.lx (by omega)) hS hT
  go_still_tail 8, mixedT
  go_wp2_with (go_at_call 36; refine hxw.mono ?_; rintro e w1 ⟨rfl, hX1, kp1⟩)
  have kp1 := kp1.undrew
  have hy1 := HD.out.y.recolor kp1 (by omega)
  have hdb := kp1.at HD.out.blk (fun e => by have := HD.out.ck; omega)
  have hob := kp1.at hOb (fun e => by omega)
  unfold ptrB at hdb
  obtain ⟨j0, j1, j2, jz0, jz1, jz2⟩ := cells3 hdb
  obtain ⟨p0, p2, p4, p5, p7⟩ := cells9 hob
  have hyw := yWrite_any rs[i].bY rs[i].dy S T (fun k => recolor own0 w0 (4 + 3 * i) k = 5 + 3 * i) w1.drew hy1 HD.out.oky (Nat.le_trans HD.out.ly (by omega)) hS hT
  clear hxw
  go_still_tail 8, mixedT
  go_wp2_with (first
    | (go_at_call 79; refine hyw.mono ?_; rintro e w2 ⟨rfl, hY2, kp2⟩)
    | (go_at_call 78; refine (num_eq _ _).mono ?_; rintro e w9 ⟨rfl, rfl⟩))
  go_ret
  have hwo := write_ok HD.out.oky S T
  subst ho0
  rw [hxy] at hX1
  refine ⟨by first | rfl | simp [hxy] | exact ret_bool (by rw [hxy]; simp), xy_close HH.out hsy hbw i hi kp1 hX1 kp2.undrew hY2 hwo.1 (Nat.le_trans hwo.2 (by have := HD.out.ly; omega))⟩

end Go.Proofs.YtoabedkcieindaaGreatDoor
