/- The statement: power: Crash. -/
import Derived.Test.YtoabedkcieindaaGreatDoorLawM
namespace Go.Proofs.YtoabedkcieindaaGreatDoor
open Go.RowKit Go.Maps Go.Sort

theorem xy_close2 {w w1 w2 w3 w4 : World} {own : Nat → Nat} {bW N : Nat} {rs : List DR} {ts : List TX} {nxt : Nat} {vd vt vm : Value} (h : Inv w own bW N rs ts nxt vd vt vm) (hs : ∀ r ∈ rs, r.dx = r.dy) (k0 : Below w.heap.size w w1) (i : Nat) (hi : i < rs.length)
    (k1 : Kp (fun k => recolor own w 0 k = 4 + 3 * i) w1 w2) {d' : Dk} (hX : XAt w2 (Nw (fun k => recolor own w 0 k = 4 + 3 * i) w1) rs[i].bx d') (g : Nat) (hg : w.heap.size ≤ g) (hg1 : g < w1.heap.size) (km : Kp (fun k => k = g) w2 w3)
    (k2 : Kp (fun k => recolor (recolor (recolor own w 0) w1 (4 + 3 * i)) w2 0 k = 5 + 3 * i) w3 w4)
    (hY : RefAt w4 (Nw (fun k => recolor (recolor (recolor own w 0) w1 (4 + 3 * i)) w2 0 k = 5 + 3 * i) w3) rs[i].bY d') (hok : d'.Ok) (hl : d'.files.length ≤ N + 1) : Step w own bW N rs ts nxt w4 := by
  have s0 := k0.size
  have s1 := k1.size
  have s2 := km.size
  have h0 := h.quiet (Kp.of_below k0)
  have h1 := h0.stepX i hi k1 d' hX hok hl (Nat.le_succ _)
  have hi1 : i < (rs.set i { rs[i] with dx := d' }).length := by simpa using hi
  have e1 : (rs.set i { rs[i] with dx := d' })[i] = { rs[i] with dx := d' } := List.getElem_set_self _
  have hm := h1.quiet (km.mono (T := fun k => recolor (recolor own w 0) w1 (4 + 3 * i) k = 0) (fun k e => by subst e; rw [recolor_old hg1, recolor_new hg]))
  have h2 := hm.stepY i hi1 k2 d' (by rw [e1]; exact hY) hok hl (Nat.le_refl _)
  rw [e1, List.set_set] at h2
  refine ⟨?_, _, _, _, _, _, _, _, h2, fun k hk => ?_, ?_, ?_, by omega, by omega⟩
  · refine (((Kp.of_below (S := fun k => own k ≠ 0) k0).trans k1 (fun k hk e => ?_)).trans km (fun k hk e => ?_)).trans k2 (fun k hk e => ?_)
    · rw [recolor_old hk] at e; omega
    · omega
    · rw [recolor_old (by omega), recolor_old (by omega), recolor_old hk] at e; omega
  · rw [recolor_old (by omega), recolor_old (by omega), recolor_old (by omega), recolor_old hk]
  · simp
  · intro r hr
    rcases List.mem_or_eq_of_mem_set hr with hr | rfl
    · exact hs r hr
    · rfl

theorem intp_row {w : World} {g cap n : Nat} {ks ms : List Int} (h : w.ownsRow 0 3 1 (.slice (some ⟨g, 0, none⟩) n cap) n ((ks ++ ms).map encI)) : Intp w (some ⟨g, 0, none⟩) ks := by
  intro i hi
  have hi' : i < ((ks ++ ms).map encI).length := by simp; omega
  obtain ⟨a, c, e, _, _, _, hc⟩ := row1 h
  cases e
  obtain ⟨g', e', _, hcc⟩ := hc i hi'
  cases e'
  refine ⟨g, 0, rfl, ?_⟩
  rw [Nat.zero_add, hcc, List.getElem_map, List.getElem_append_left hi]
  rfl

set_option maxHeartbeats 1000000 in
set_option maxRecDepth 20000 in
theorem power_crash {w : World} {own : Nat → Nat} {bW N : Nat} {rs : List DR} {ts : List TX} {nxt : Nat} {vd vt vm : Value} (h : Inv w own bW N rs ts nxt vd vt vm) (i : Nat) (hi : i < rs.length) (hsy : ∀ r ∈ rs, r.dx = r.dy) (hN : N ≤ 4194300)
    (S T : List UInt8) (q : Option Addr) (qc : Nat) (ks : List Int) (hkl : ks.length ≤ 4194304) (hks : Intp w q ks) (hq0 : q = none → ks = [] ∧ qc = 0) (hq1 : ∀ a, q = some a → 0 < ks.length → own a.block = 0 ∧ a.block < w.heap.size) (D A B ops old : Value) :
    Calls Tryz.prog 92 #[ptrB rs[i].bk, .agg #[.int .i64 10, D, A, B, .string ⟨S.toArray⟩, .string ⟨T.toArray⟩, ops, .slice q ks.length qc, old]] w fun e w' => e = .returned (.bool true) ∧ Step w own bW N rs ts nxt w' := by
  have hxy := hsy _ (List.getElem_mem hi)
  obtain ⟨w0, hw0⟩ : ∃ w0, w0 = w.alloc (Obj.cells #[.int .i64 10, D, A, B, .string ⟨S.toArray⟩, .string ⟨T.toArray⟩, ops, .slice q ks.length qc, old] 107) := ⟨_, rfl⟩
  have hbw : Below w.heap.size w w0 := by rw [hw0]; exact (Below.refl _ _).alloc (Nat.le_refl _) _
  have hOb : w0.heap[w.heap.size]? = _ := (congrArg (fun x : World => x.heap[w.heap.size]?) hw0).trans (block_new w (Obj.cells #[.int .i64 10, D, A, B, .string ⟨S.toArray⟩, .string ⟨T.toArray⟩, ops, .slice q ks.length qc, old] 107))
  have hks0 : Intp w0 q ks := hks.kept (Kp.of_below (S := fun _ => False) hbw) (fun _ _ _ f => f)
  obtain ⟨o0, -, -, -, o7⟩ := cells9 hOb
  have h0 := h.quiet (Kp.of_below (S := fun k => own k = 0) hbw)
  obtain ⟨k0, k1, k2, -, -, -⟩ := cells3 (h0.disk i hi).blk
  rw [hw0] at k0 k1 k2 o0 o7
  have HW : Hid (w0 = w.alloc (Obj.cells #[.int .i64 10, D, A, B, .string ⟨S.toArray⟩, .string ⟨T.toArray⟩, ops, .slice q ks.length qc, old] 107)) := hw0
  have HOb : Hid (w0.heap[w.heap.size]? = some (Obj.cells #[.int .i64 10, D, A, B, .string ⟨S.toArray⟩, .string ⟨T.toArray⟩, ops, .slice q ks.length qc, old] 107)) := hOb
  have HH : Hid (Inv w own bW N rs ts nxt vd vt vm) := h
  have hgv := givenInts_any q qc ks w0 hkl hks0 hq0
  have hs0 := hbw.size
  have hsz : w0.heap.size = w.heap.size + 1 := by rw [hw0]; simp
  have HK : Hid (Intp w0 q ks) := hks0
  clear h h0 hOb hks hks0 hq0
  rw [hw0] at hgv
  clear hw0
  unfold ptrB at *
  go_enter Tryz.func92, Tryz.ntmps92
  go_wp2_with (first
    | (go_at_call 132; refine hgv.mono ?_; rintro e w1 ⟨g, cap, rfl, hb1, hg1, hr1⟩; clear hgv k0 k1 k2 o0 o7; rw [← HW.out] at hb1 hg1; have hbw1 : Below w.heap.size w w1 := hbw.trans (hb1.mono hs0); have HD1 : Hid (DiskAt w1 (recolor own w 0) N i rs[i]) := (HH.out.quiet (Kp.of_below hbw1)).disk i hi; obtain ⟨k0, k1, k2, -, -, -⟩ := cells3 HD1.out.blk; obtain ⟨o0, -, -, -, o7⟩ := cells9 (block_at2 HOb.out hb1); have HOb1 : Hid (w1.heap[w.heap.size]? = some (Obj.cells #[.int .i64 10, D, A, B, .string ⟨S.toArray⟩, .string ⟨T.toArray⟩, ops, .slice q ks.length qc, old] 107)) := block_at2 HOb.out hb1; have HK1 : Hid (Intp w1 q ks) := HK.out.kept (Kp.of_below (S := fun _ => False) hb1) (fun _ _ _ f => f); have HR1 : Hid (w1.ownsRow 0 3 1 (.slice (some ⟨g, 0, none⟩) (ks.length + 3) cap) (ks.length + 3) ((ks ++ marks3).map encI)) := hr1; have hg0 : recolor own w 0 g = 0 := recolor_new (by omega); have hgl : g < w1.heap.size := (World.ownsRow.lt hr1 g rfl).2; have HB1 : Hid (Below w.heap.size w w1) := hbw1; clear hb1 hbw1 hr1; unfold ptrB at *)
    | (go_at_call 24; refine (xCrash_any rs[i].bx rs[i].dx (some ⟨g, 0, none⟩) cap ks (fun k => recolor own w 0 k = 4 + 3 * i) w1 HD1.out.x HD1.out.okx (Nat.le_trans HD1.out.lx (by omega)) (by omega) (intp_row HR1.out) (fun a ha _ e => by cases ha; have e' : recolor own w 0 g = 4 + 3 * i := e; omega)).mono ?_; rintro e w2 ⟨rfl, hX2, kp2⟩; clear k0 k1 k2 o0 o7; have HX2 : Hid (XAt w2 (Nw (fun k => recolor own w 0 k = 4 + 3 * i) w1) rs[i].bx (rs[i].dx.crash ks)) := hX2; have HP2 : Hid (Kp (fun k => recolor own w 0 k = 4 + 3 * i) w1 w2) := kp2; have HR2 : Hid (w2.ownsRow 0 3 1 (.slice (some ⟨g, 0, none⟩) (ks.length + 3) cap) (ks.length + 3) ((ks ++ marks3).map encI)) := kp2.row HR1.out (fun g' hg' e => by cases hg'; have e' : recolor own w 0 g = 4 + 3 * i := e; omega); have HK2 : Hid (Intp w2 q ks) := HK1.out.kept kp2 (fun a ha h0 e => by have e1 := hq1 a ha h0; have e' : recolor own w 0 a.block = 4 + 3 * i := e; rw [recolor_old e1.2] at e'; omega); have HDB2 := kp2.at HD1.out.blk (fun e => by have := HD1.out.ck; omega); have HOB2 := kp2.at HOb1.out (fun e => by have e' : recolor own w 0 w.heap.size = 4 + 3 * i := e; rw [recolor_new (Nat.le_refl _)] at e'; omega); obtain ⟨k0, k1, k2, -, -, -⟩ := cells3 HDB2; obtain ⟨o0, -, -, -, o7⟩ := cells9 HOB2; have HY2 : Hid (RefAt w2 (fun k => recolor (recolor own w 0) w1 (4 + 3 * i) k = 5 + 3 * i) rs[i].bY rs[i].dy) := HD1.out.y.recolor kp2 (by omega); have hs2 := kp2.size; clear hX2 kp2; unfold ptrB at *)
    | (go_at_call 133; refine (stillInts_any g cap q qc ks w2 hkl HK2.out (fun a ha h0 e => by have e1 := (hq1 a ha h0).2; omega) HR2.out).mono ?_; rintro e w3 ⟨rfl, kp3⟩; clear k0 k1 k2 o0 o7; have HP3 : Hid (Kp (fun k => k = g) w2 w3) := kp3; have HK3 : Hid (Intp w3 q ks) := HK2.out.kept kp3 (fun a ha h0 e => by have e1 := (hq1 a ha h0).2; have e' : a.block = g := e; omega); obtain ⟨k0, k1, k2, -, -, -⟩ := cells3 (kp3.at HDB2 (fun e => by have e1 := HD1.out.ck; rw [e] at e1; omega)); obtain ⟨o0, -, -, -, o7⟩ := cells9 (kp3.at HOB2 (fun e => by omega)); have HY3 : Hid (RefAt w3 (fun k => recolor (recolor (recolor own w 0) w1 (4 + 3 * i)) w2 0 k = 5 + 3 * i) rs[i].bY rs[i].dy) := HY2.out.recolor (kp3.mono (T := fun k => recolor (recolor own w 0) w1 (4 + 3 * i) k = 0) (fun k e => by subst e; rw [recolor_old hgl, hg0])) (by omega); have hs3 := kp3.size; clear kp3 HDB2 HOB2))
  have hyw := yCrash_any rs[i].bY rs[i].dy q qc ks (fun k => recolor (recolor (recolor own w 0) w1 (4 + 3 * i)) w2 0 k = 5 + 3 * i) w3.drew HY3.out HD1.out.oky (Nat.le_trans HD1.out.ly (by omega)) (by omega) (HK3.out) (fun a ha h0 e => by have e1 := hq1 a ha h0; have e2 := HB1.out.size; have e' : recolor (recolor (recolor own w 0) w1 (4 + 3 * i)) w2 0 a.block = 5 + 3 * i := e; rw [recolor_old (by omega), recolor_old (by omega), recolor_old e1.2] at e'; omega)
  go_still_tail 6, mixedT
  go_wp2_with (go_at_call 134; refine hyw.mono ?_; rintro e w4 ⟨rfl, hY4, kp4⟩)
  go_ret
  have hwo := crash_ok HD1.out.oky ks
  have hX := HX2.out
  rw [hxy] at hX
  exact ⟨rfl, xy_close2 HH.out hsy HB1.out i hi HP2.out hX g (by omega) hgl HP3.out kp4.undrew hY4 hwo.1 (Nat.le_trans hwo.2 (by have := HD1.out.ly; omega))⟩

end Go.Proofs.YtoabedkcieindaaGreatDoor
