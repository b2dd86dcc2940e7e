/- The statement: step, on a disk. -/
import Derived.Test.YtoabedkcieindaaGreatDoorLawO
namespace Go.Proofs.YtoabedkcieindaaGreatDoor
open Go.RowKit Go.Maps Go.Sort

theorem plain_any {w : World} {own : Nat → Nat} {bW N : Nat} {rs : List DR} {ts : List TX} {nxt : Nat} {vd vt vm : Value} (h : Inv w own bW N rs ts nxt vd vt vm) (i : Nat) (hi : i < rs.length) (hsy : ∀ r ∈ rs, r.dx = r.dy) (hN : N ≤ 4194300) (hts : ts.length ≤ 16777216) (hnx : nxt ≤ 1099511627770)
    (o : OpV) (ho : OpOk w own o) (h2 : 2 ≤ o.K) (h8 : o.K ≤ 8) :
    Calls Tryz.prog 50 #[ptrB bW, ptrB rs[i].bk, .agg o.cells] w fun e w' => e = .returned (.bool true) ∧ Step w own bW N rs ts nxt w' := by
  unfold OpV.cells
  rcases (by omega : o.K = 2 ∨ o.K = 3 ∨ o.K = 4 ∨ o.K = 5 ∨ o.K = 6 ∨ o.K = 7 ∨ o.K = 8) with e | e | e | e | e | e | e <;> rw [e]
  · exact plain_write h i hi hsy hN _ _ ho.s ho.t _ _ _ _ _ _
  · exact plain_sync h i hi hsy hN _ _ ho.s _ _ _ _ _ _
  · exact plain_rename h i hi hsy hN _ _ ho.s ho.t _ _ _ _ _ _
  · exact plain_remove h i hi hsy hN _ _ ho.s _ _ _ _ _ _
  · exact plain_read h i hi hsy hN _ _ ho.s _ _ _ _ _ _
  · exact plain_safe h i hi hsy hN _ _ ho.s _ _ _ _ _ _
  · cases hd : rs[i].dx.dead
    · exact plain_names_alive h i hi hd hsy hN hts hnx _ _ _ _ _ _ _ _
    · exact plain_names_dead h i hi hd hsy hts hnx _ _ _ _ _ _ _ _

theorem power_any {w : World} {own : Nat → Nat} {bW N : Nat} {rs : List DR} {ts : List TX} {nxt : Nat} {vd vt vm : Value} (h : Inv w own bW N rs ts nxt vd vt vm) (i : Nat) (hi : i < rs.length) (hsy : ∀ r ∈ rs, r.dx = r.dy) (hN : N ≤ 4194300)
    (o : OpV) (ho : OpOk w own o) (h2 : 9 ≤ o.K) (h8 : o.K ≤ 10) :
    Calls Tryz.prog 92 #[ptrB rs[i].bk, .agg o.cells] w fun e w' => e = .returned (.bool true) ∧ Step w own bW N rs ts nxt w' := by
  unfold OpV.cells
  rcases (by omega : o.K = 9 ∨ o.K = 10) with e | e <;> rw [e]
  · exact power_fuse h i hi hsy _ _ _ ho.a1 _ _ _ _ _
  · exact power_crash h i hi hsy hN _ _ _ _ _ ho.kl ho.ints ho.q0 ho.q1 _ _ _ _ _

attribute [local go_sem ↓] Go.wp_at_zero Go.wp_at_succ

set_option maxHeartbeats 1000000 in
set_option maxRecDepth 20000 in
theorem step_plain {w : World} {own : Nat → Nat} {bW N : Nat} {rs : List DR} {ts : List TX} {nxt : Nat} {vd vt vm : Value} (h : Inv w own bW N rs ts nxt vd vt vm) (hsy : ∀ r ∈ rs, r.dx = r.dy) (hr0 : 0 < rs.length) (hrs : rs.length ≤ 4194304) (hN : N ≤ 4194300) (hts : ts.length ≤ 16777216) (hnx : nxt ≤ 1099511627770)
    (o : OpV) (ho : OpOk w own o) (h2 : 2 ≤ o.K) (h8 : o.K ≤ 8) :
    Calls Tryz.prog 51 #[ptrB bW, .agg o.cells] w fun e w' => e = .returned (.bool true) ∧ Step w own bW N rs ts nxt w' := by
  obtain ⟨w0, hw0⟩ : ∃ w0, w0 = w.alloc (.cells o.cells 107) := ⟨_, rfl⟩
  have hbw : Below w.heap.size w w0 := by rw [hw0]; exact (Below.refl _ _).alloc (Nat.le_refl _) _
  have hI := h.quiet (Kp.of_below hbw)
  have hpl : ∀ w', Sm w0 w' → ∀ i (hi : i < rs.length), _ := fun w' e i hi => plain_any (h.quiet (Kp.of_below (hbw.trans e.belowB))) i hi hsy hN hts hnx o (ho.step (Kp.of_below (hbw.trans e.belowB)) (fun k hk => recolor_old hk)) h2 h8
  obtain ⟨c0, -, -, -, -, -, -, -, -⟩ := cells8 hI.blk
  obtain ⟨a, cap, rfl, hd1, hd2, hd3, hdc⟩ := row1 hI.rowd
  have hdk := fun i hi => (cells3 (hI.disk i hi).blk).2.2.1
  have hop := block_new w (.cells o.cells 107)
  unfold OpV.cells at *
  rw [← hw0] at hop
  obtain ⟨g, rfl, -, -⟩ := hdc 0 (by simpa using hr0)
  replace hdc : ∀ i (hi : i < rs.length), w0.cell? ⟨g, i, none⟩ = some (ptrB rs[i].bk) := fun i hi => by
    obtain ⟨g', e, _, hc⟩ := hdc i (by simpa using hi)
    cases e
    rw [List.getElem_map] at hc
    exact hc
  have o0 : w0.cell? ⟨w.heap.size, 0, none⟩ = some (.int .i64 o.K) := cell_block hop
  have o1 : w0.cell? ⟨w.heap.size, 1, none⟩ = some (.int .i64 o.D) := cell_block hop
  have o2 : w0.cell? ⟨w.heap.size, 2, none⟩ = some (.int .i64 o.A) := cell_block hop
  have o3 : w0.cell? ⟨w.heap.size, 3, none⟩ = some o.B := cell_block hop
  have o4 : w0.cell? ⟨w.heap.size, 4, none⟩ = some (.string ⟨o.S.toArray⟩) := cell_block hop
  have o5 : w0.cell? ⟨w.heap.size, 5, none⟩ = some (.string ⟨o.T.toArray⟩) := cell_block hop
  have o6 : w0.cell? ⟨w.heap.size, 6, none⟩ = some o.ops := cell_block hop
  have o7 : w0.cell? ⟨w.heap.size, 7, none⟩ = some (.slice o.q o.ks.length o.qc) := cell_block hop
  have o8 : w0.cell? ⟨w.heap.size, 8, none⟩ = some o.old := cell_block hop
  obtain ⟨D0, D1⟩ := And.intro ho.d0 ho.d1
  unfold ptrB at *
  have HB : Hid (Below w.heap.size w w0) := hbw
  have HW : Hid (w0 = w.alloc (Obj.cells #[.int .i64 o.K, .int .i64 o.D, .int .i64 o.A, o.B, .string ⟨o.S.toArray⟩, .string ⟨o.T.toArray⟩, o.ops, .slice o.q o.ks.length o.qc, o.old] 107)) := hw0
  have HC0 : Hid (w0.cell? ⟨bW, 0, none⟩ = some (.slice (some ⟨g, 0, none⟩) rs.length cap)) := c0
  rw [hw0] at c0
  clear h ho hI hd1 hbw hw0
  have e1 : ((rs.length : Int) == 0) = false := by simpa using List.length_pos_iff.1 hr0
  have e2 : decide (o.K < 1) = false := by simp; omega
  have e3 : decide (26 < o.K) = false := by simp; omega
  have e4 : ¬ (o.K = 1) := by omega
  go_enter Tryz.func51, Tryz.ntmps51
  go_wp2
  rw [HW.out.symm]
  clear c0
  have c0 := HC0.out
  go_region_held3 (fun w' => w'.cell? ⟨bW, 0, none⟩ = some (.slice (some ⟨g, 0, none⟩) rs.length cap) ∧ w'.cell? ⟨w.heap.size, 1, none⟩ = some (.int .i64 o.D) ∧ (∀ i (hi : i < rs.length), w'.cell? ⟨g, i, none⟩ = some (.pointer (some ⟨rs[i].bk, 0, none⟩))) ∧ Sm w0 w') (first | assumption | exact ⟨by simpa using c0, by simpa using o1, fun i hi => by simpa using hdc i hi, by simp⟩ | go_keep)
    (first | (go_at_call 91; refine (pick_any o.D rs.length _ D0 D1 (by omega) (by omega)).mono ?_; rintro e w1 ⟨r, rfl, r0, r1, rfl⟩; obtain ⟨k, rfl⟩ := Int.eq_ofNat_of_zero_le r0; have hk : k < rs.length := (by omega)))
  have hdk' := hdk k hk
  have hpl' := hpl w0.drew (by simp) k hk
  clear hpl hdk
  go_wp2_with (go_at_call 50; refine hpl'.mono ?_; rintro e w2 ⟨rfl, hst⟩)
  go_ret
  exact ⟨rfl, step_behind HB.out.drew hst⟩

set_option maxHeartbeats 1000000 in
set_option maxRecDepth 20000 in
theorem step_power {w : World} {own : Nat → Nat} {bW N : Nat} {rs : List DR} {ts : List TX} {nxt : Nat} {vd vt vm : Value} (h : Inv w own bW N rs ts nxt vd vt vm) (hsy : ∀ r ∈ rs, r.dx = r.dy) (hr0 : 0 < rs.length) (hrs : rs.length ≤ 4194304) (hN : N ≤ 4194300)
    (o : OpV) (ho : OpOk w own o) (h2 : 9 ≤ o.K) (h8 : o.K ≤ 10) :
    Calls Tryz.prog 51 #[ptrB bW, .agg o.cells] w fun e w' => e = .returned (.bool true) ∧ Step w own bW N rs ts nxt w' := by
  obtain ⟨w0, hw0⟩ : ∃ w0, w0 = w.alloc (.cells o.cells 107) := ⟨_, rfl⟩
  have hbw : Below w.heap.size w w0 := by rw [hw0]; exact (Below.refl _ _).alloc (Nat.le_refl _) _
  have hI := h.quiet (Kp.of_below hbw)
  have hpl : ∀ w', Sm w0 w' → ∀ i (hi : i < rs.length), _ := fun w' e i hi => power_any (h.quiet (Kp.of_below (hbw.trans e.belowB))) i hi hsy hN o (ho.step (Kp.of_below (hbw.trans e.belowB)) (fun k hk => recolor_old hk)) h2 h8
  obtain ⟨c0, -, -, -, -, -, -, -, -⟩ := cells8 hI.blk
  obtain ⟨a, cap, rfl, hd1, hd2, hd3, hdc⟩ := row1 hI.rowd
  have hdk := fun i hi => (cells3 (hI.disk i hi).blk).2.2.1
  have hop := block_new w (.cells o.cells 107)
  unfold OpV.cells at *
  rw [← hw0] at hop
  obtain ⟨g, rfl, -, -⟩ := hdc 0 (by simpa using hr0)
  replace hdc : ∀ i (hi : i < rs.length), w0.cell? ⟨g, i, none⟩ = some (ptrB rs[i].bk) := fun i hi => by
    obtain ⟨g', e, _, hc⟩ := hdc i (by simpa using hi)
    cases e
    rw [List.getElem_map] at hc
    exact hc
  have o0 : w0.cell? ⟨w.heap.size, 0, none⟩ = some (.int .i64 o.K) := cell_block hop
  have o1 : w0.cell? ⟨w.heap.size, 1, none⟩ = some (.int .i64 o.D) := cell_block hop
  have o2 : w0.cell? ⟨w.heap.size, 2, none⟩ = some (.int .i64 o.A) := cell_block hop
  have o3 : w0.cell? ⟨w.heap.size, 3, none⟩ = some o.B := cell_block hop
  have o4 : w0.cell? ⟨w.heap.size, 4, none⟩ = some (.string ⟨o.S.toArray⟩) := cell_block hop
  have o5 : w0.cell? ⟨w.heap.size, 5, none⟩ = some (.string ⟨o.T.toArray⟩) := cell_block hop
  have o6 : w0.cell? ⟨w.heap.size, 6, none⟩ = some o.ops := cell_block hop
  have o7 : w0.cell? ⟨w.heap.size, 7, none⟩ = some (.slice o.q o.ks.length o.qc) := cell_block hop
  have o8 : w0.cell? ⟨w.heap.size, 8, none⟩ = some o.old := cell_block hop
  obtain ⟨D0, D1⟩ := And.intro ho.d0 ho.d1
  unfold ptrB at *
  have HB : Hid (Below w.heap.size w w0) := hbw
  have HW : Hid (w0 = w.alloc (Obj.cells #[.int .i64 o.K, .int .i64 o.D, .int .i64 o.A, o.B, .string ⟨o.S.toArray⟩, .string ⟨o.T.toArray⟩, o.ops, .slice o.q o.ks.length o.qc, o.old] 107)) := hw0
  have HC0 : Hid (w0.cell? ⟨bW, 0, none⟩ = some (.slice (some ⟨g, 0, none⟩) rs.length cap)) := c0
  rw [hw0] at c0
  clear h ho hI hd1 hbw hw0
  have e1 : ((rs.length : Int) == 0) = false := by simpa using List.length_pos_iff.1 hr0
  have e2 : decide (o.K < 1) = false := by simp; omega
  have e3 : decide (26 < o.K) = false := by simp; omega
  have e4 : ¬ (o.K = 1) := by omega
  have e5 : ¬ (o.K ≤ 8) := by omega
  go_enter Tryz.func51, Tryz.ntmps51
  go_wp2
  rw [HW.out.symm]
  clear c0
  have c0 := HC0.out
  go_region_held3 (fun w' => w'.cell? ⟨bW, 0, none⟩ = some (.slice (some ⟨g, 0, none⟩) rs.length cap) ∧ w'.cell? ⟨w.heap.size, 1, none⟩ = some (.int .i64 o.D) ∧ (∀ i (hi : i < rs.length), w'.cell? ⟨g, i, none⟩ = some (.pointer (some ⟨rs[i].bk, 0, none⟩))) ∧ Sm w0 w') (first | assumption | exact ⟨by simpa using c0, by simpa using o1, fun i hi => by simpa using hdc i hi, by simp⟩ | go_keep)
    (first | (go_at_call 91; refine (pick_any o.D rs.length _ D0 D1 (by omega) (by omega)).mono ?_; rintro e w1 ⟨r, rfl, r0, r1, rfl⟩; obtain ⟨k, rfl⟩ := Int.eq_ofNat_of_zero_le r0; have hk : k < rs.length := (by omega)))
  have hdk' := hdk k hk
  have hpl' := hpl w0.drew (by simp) k hk
  clear hpl hdk
  go_wp2_with (go_at_call 92; refine hpl'.mono ?_; rintro e w2 ⟨rfl, hst⟩)
  go_ret
  exact ⟨rfl, step_behind HB.out.drew hst⟩

end Go.Proofs.YtoabedkcieindaaGreatDoor
