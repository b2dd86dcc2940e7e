import Derived.Test.YtfghgmojnffgnaaGreatPkBX
set_option maxHeartbeats 4000000
set_option maxRecDepth 20000
namespace Go.Proofs.YtfghgmojnffgnaaGreat.M
open Go.RowKit Go.Maps Go.Sort
section
variable {w w' : World} {own : Nat -> Nat} {bW N : Nat} {rs : List DR} {ts : List TX} {nxt : Nat} {vd vt vm : Value} {zz : PX}
theorem Inv.dk2 (h : Inv w own bW N rs ts nxt vd vt vm zz) (i : Nat) (hi : i < rs.length) : (rs[i].kn = none -> w.cell? ⟨rs[i].bk, 2, none⟩ = some (.pointer none)) /\ ∀ q, rs[i].kn = some q -> w.cell? ⟨rs[i].bk, 2, none⟩ = some (.pointer (some ⟨q.k.kb, 0, none⟩)) /\ ∃ qs cs, w.cell? ⟨q.k.kb, 8, none⟩ = some (.slice qs q.k.ones.length cs) := by
 refine ⟨fun e => (cells3 ((h.disk i hi).1 e).blk).2.2.1, fun q e => ?_⟩
 obtain ⟨D0, hv, -⟩ := Dv.start (h.dka i hi e)
 obtain ⟨qs, cs, s8, -⟩ := hv.srow
 exact ⟨hv.dcells.2.2.1, qs, cs, s8⟩
theorem made_step (h : Inv w own bW N rs ts nxt vd vt vm zz) (hs : ∀ r ∈ rs, r.dx = r.dy) (hrs : rs.length <= 16777216) (q : Int) :
   Calls Tryz.prog 23 #[ptrB bW, .int .i64 q] w fun e w' => e = .returned (.bool true) /\ Step w own bW N rs ts nxt zz w' := by
 refine (made_any h hrs q).mono ?_
 rintro e w' ⟨rfl, kp, own', rs', vd', hI, ho, hr⟩
 refine ⟨rfl, kp.mono (fun _ e => by omega), own', rs', ts, nxt, vd', vt, vm, zz, hI.more (Nat.le_succ _), ho, ?_, ?_, by omega, by omega, by omega⟩
 . rcases hr with ⟨rfl, _⟩ | ⟨_, r, rfl, _⟩
   . omega
   . simp
 . rcases hr with ⟨rfl, _⟩ | ⟨_, r, rfl, h1, h2, _⟩
   . exact hs
   . intro x hx
     rcases List.mem_append.1 hx with hx | hx
     . exact hs x hx
     . rw [List.mem_singleton.1 hx, h1, h2]
theorem step_made (h : Inv w own bW N rs ts nxt vd vt vm zz) (hs : ∀ r ∈ rs, r.dx = r.dy) (hrs : rs.length <= 16777216) (o : OpV) (hK : o.K = 1) :
   Calls Tryz.prog 25 #[ptrB bW, .agg o.cells] w fun e w' => e = .returned (.bool true) /\ StepM w own bW (N + o.wt) rs ts nxt zz w' := by
 have hw : N + 1 <= N + o.wt := by unfold OpV.wt; omega
 have hbw : Below w.heap.size w (w.alloc (.cells o.cells 67)) := (Below.refl _ _).alloc (Nat.le_refl _) _
 have hm := made_step (h.quiet (Kp.of_below hbw)) hs hrs o.A
 unfold OpV.cells at *
 rw [hK] at *
 unfold ptrB at *
 clear h
 go_enter Tryz.func25, Tryz.ntmps25
 go_wp2_with (go_at_call 23; refine hm.mono ?_; rintro e w1 ⟨rfl, hst⟩)
 go_ret
 exact ⟨rfl, (stepM_behind hbw hst).more hw⟩
theorem step_low (h : Inv w own bW N rs ts nxt vd vt vm zz) (hs : ∀ r ∈ rs, r.dx = r.dy) (o : OpV) (hK : o.K < 1) :
   Calls Tryz.prog 25 #[ptrB bW, .agg o.cells] w fun e w' => e = .returned (.bool true) /\ StepM w own bW (N + o.wt) rs ts nxt zz w' := by
 have hw : N + 1 <= N + o.wt := by unfold OpV.wt; omega
 have hbw : Below w.heap.size w (w.alloc (.cells o.cells 67)) := (Below.refl _ _).alloc (Nat.le_refl _) _
 have hst := step_quiet' h hs hbw hw
 obtain ⟨c0, c1, c2, c3, c4, c5, c6, c7, hz⟩ := cells8 (h.quiet (Kp.of_below hbw)).blk
 obtain ⟨a, cap, rfl, -, -, -, -⟩ := row1 h.rowd
 unfold OpV.cells at *
 have hK1 : ¬ (o.K = 1) := by omega
 unfold ptrB at *
 clear h
 go_enter Tryz.func25, Tryz.ntmps25
 go_wp2
 all_goals (go_ret; exact ⟨rfl, hst⟩)
attribute [local go_sem ↓] Go.wp_at_zero Go.wp_at_succ
theorem step_plain (h : Inv w own bW N rs ts nxt vd vt vm zz) (hsy : ∀ r ∈ rs, r.dx = r.dy) (hr0 : 0 < rs.length) (hrs : rs.length <= 4194304) (hN : N <= 1048576) (hts : ts.length <= 16777216) (hnx : nxt <= 1099511627770) (o : OpV) (ho : OpOk w own o) (h2 : 2 <= o.K) (h8 : o.K <= 8) :
   Calls Tryz.prog 25 #[ptrB bW, .agg o.cells] w fun e w' => e = .returned (.bool true) /\ StepM w own bW (N + o.wt) rs ts nxt zz w' := by
 have hw : N + 1 <= N + o.wt := by unfold OpV.wt; omega
 obtain ⟨w0, hw0⟩ : ∃ w0, w0 = w.alloc (.cells o.cells 67) := ⟨_, rfl⟩
 have hbw : Below w.heap.size w w0 := by rw [hw0]; exact (Below.refl _ _).alloc (Nat.le_refl _) _
 have hI := h.quiet (Kp.of_below hbw)
 have hQu : ∀ w', Below w0.heap.size w0 w' -> StepM w own bW (N + o.wt) rs ts nxt zz w' := fun w' hb => step_quiet' h hsy (hbw.trans (hb.mono hbw.size)) hw
 have hpl : ∀ w', Sm w0 w' -> ∀ i (hi : i < rs.length) (hkn : rs[i].kn = none), _ := fun w' e i hi hkn => do_plain (h.quiet (Kp.of_below (hbw.trans e.belowB))) i hi hkn hsy (by omega) hts hnx o (ho.step (Kp.of_below (hbw.trans e.belowB)) (fun k hk => recolor_old hk)) h2 h8
 obtain ⟨c0, -, -, -, -, -, -, -, -⟩ := cells8 hI.blk
 obtain ⟨a, cap, rfl, hd1, hd2, hd3, hdc⟩ := row1 hI.rowd
 have hdk := fun i hi => hI.dk2 i hi
 have hop := block_new w (.cells o.cells 67)
 unfold OpV.cells at *
 rw [<- hw0] at hop
 obtain ⟨g, rfl, -, -⟩ := hdc 0 (by simpa using hr0)
 replace hdc : ∀ i (hi : i < rs.length), w0.cell? ⟨g, i, none⟩ = some (ptrB rs[i].bk) := fun i hi => by
   obtain ⟨g', e, _, hc⟩ := hdc i (by simpa using hi)
   cases e
   rw [List.getElem_map] at hc
   exact hc
 obtain ⟨o0, o1, o2, o3, o4, o5, o6, o7, o8⟩ := op_cells hop
 obtain ⟨D0, D1⟩ := And.intro ho.d0 ho.d1
 unfold ptrB at *
 have HB : Hid (Below w.heap.size w w0) := hbw
 have HW : Hid (w0 = w.alloc (Obj.cells #[.int .i64 o.K, .int .i64 o.D, .int .i64 o.A, o.B, .string ⟨o.S.toArray⟩, .string ⟨o.T.toArray⟩, .slice o.qo o.os.length o.oc, .slice o.q o.ks.length o.qc, .bool o.old] 67)) := hw0
 have HC0 : Hid (w0.cell? ⟨bW, 0, none⟩ = some (.slice (some ⟨g, 0, none⟩) rs.length cap)) := c0
 rw [hw0] at c0
 clear h ho hI hd1 hbw hw0
 have e1 : ((rs.length : Int) == 0) = false := by simpa using List.length_pos_iff.1 hr0
 have e2 : decide (o.K < 1) = false := by simp; omega
 have e3 : decide (26 < o.K) = false := by simp; omega
 have e4 : ¬ (o.K = 1) := by omega
 go_enter Tryz.func25, Tryz.ntmps25
 go_wp2
 rw [HW.out.symm]
 clear c0
 have c0 := HC0.out
 go_region_held3 (fun w' => w'.cell? ⟨bW, 0, none⟩ = some (.slice (some ⟨g, 0, none⟩) rs.length cap) /\ w'.cell? ⟨w.heap.size, 1, none⟩ = some (.int .i64 o.D) /\ (∀ i (hi : i < rs.length), w'.cell? ⟨g, i, none⟩ = some (.pointer (some ⟨rs[i].bk, 0, none⟩))) /\ Sm w0 w') (first | assumption | exact ⟨by simpa using c0, by simpa using o1, fun i hi => by simpa using hdc i hi, by simp⟩ | go_keep)
   (first | (go_at_call 61; refine (pick_any o.D rs.length _ D0 D1 (by omega) (by omega)).mono ?_; rintro e w1 ⟨r, rfl, r0, r1, rfl⟩; obtain ⟨k, rfl⟩ := Int.eq_ofNat_of_zero_le r0; have hk : k < rs.length := (by omega)))
 obtain ⟨hd0, hd9⟩ := hdk k hk
 have hpl' := hpl w0.drew (by simp) k hk
 have hQ := hQu w0.drew (Below.refl _ _).drew
 clear hpl hdk hQu hdc
 rcases hkn : rs[k].kn with _ | q
 . have hdk' := hd0 hkn
   replace hpl' := hpl' hkn
   clear hd0 hd9
   clear hkn
   go_wp2_with (go_at_call 24; refine hpl'.mono ?_; rintro e w2 ⟨rfl, hst⟩)
   go_ret
   exact ⟨rfl, stepM_behind HB.out.drew hst⟩
 . obtain ⟨hdk', -⟩ := hd9 q hkn
   clear hd0 hd9 hpl'
   clear hkn
   go_wp2
   go_ret
   exact ⟨rfl, hQ⟩
theorem step_power (h : Inv w own bW N rs ts nxt vd vt vm zz) (hsy : ∀ r ∈ rs, r.dx = r.dy) (hr0 : 0 < rs.length) (hrs : rs.length <= 4194304) (hN : N <= 1048576) (o : OpV) (ho : OpOk w own o) (h2 : 9 <= o.K) (h8 : o.K <= 10) :
   Calls Tryz.prog 25 #[ptrB bW, .agg o.cells] w fun e w' => e = .returned (.bool true) /\ StepM w own bW (N + o.wt) rs ts nxt zz w' := by
 have hw : N + 1 <= N + o.wt := by unfold OpV.wt; omega
 obtain ⟨w0, hw0⟩ : ∃ w0, w0 = w.alloc (.cells o.cells 67) := ⟨_, rfl⟩
 have hbw : Below w.heap.size w w0 := by rw [hw0]; exact (Below.refl _ _).alloc (Nat.le_refl _) _
 have hI := h.quiet (Kp.of_below hbw)
 have hQu : ∀ w', Below w0.heap.size w0 w' -> StepM w own bW (N + o.wt) rs ts nxt zz w' := fun w' hb => step_quiet' h hsy (hbw.trans (hb.mono hbw.size)) hw
 have hpl : ∀ w', Sm w0 w' -> ∀ i (hi : i < rs.length), _ := fun w' e i hi  => do_power (h.quiet (Kp.of_below (hbw.trans e.belowB))) i hi hsy (by omega) o (ho.step (Kp.of_below (hbw.trans e.belowB)) (fun k hk => recolor_old hk)) h2 h8
 obtain ⟨c0, -, -, -, -, -, -, -, -⟩ := cells8 hI.blk
 obtain ⟨a, cap, rfl, hd1, hd2, hd3, hdc⟩ := row1 hI.rowd
 have hdk := fun i hi => hI.dk2 i hi
 have hop := block_new w (.cells o.cells 67)
 unfold OpV.cells at *
 rw [<- hw0] at hop
 obtain ⟨g, rfl, -, -⟩ := hdc 0 (by simpa using hr0)
 replace hdc : ∀ i (hi : i < rs.length), w0.cell? ⟨g, i, none⟩ = some (ptrB rs[i].bk) := fun i hi => by
   obtain ⟨g', e, _, hc⟩ := hdc i (by simpa using hi)
   cases e
   rw [List.getElem_map] at hc
   exact hc
 obtain ⟨o0, o1, o2, o3, o4, o5, o6, o7, o8⟩ := op_cells hop
 obtain ⟨D0, D1⟩ := And.intro ho.d0 ho.d1
 unfold ptrB at *
 have HB : Hid (Below w.heap.size w w0) := hbw
 have HW : Hid (w0 = w.alloc (Obj.cells #[.int .i64 o.K, .int .i64 o.D, .int .i64 o.A, o.B, .string ⟨o.S.toArray⟩, .string ⟨o.T.toArray⟩, .slice o.qo o.os.length o.oc, .slice o.q o.ks.length o.qc, .bool o.old] 67)) := hw0
 have HC0 : Hid (w0.cell? ⟨bW, 0, none⟩ = some (.slice (some ⟨g, 0, none⟩) rs.length cap)) := c0
 rw [hw0] at c0
 clear h ho hI hd1 hbw hw0
 have e1 : ((rs.length : Int) == 0) = false := by simpa using List.length_pos_iff.1 hr0
 have e2 : decide (o.K < 1) = false := by simp; omega
 have e3 : decide (26 < o.K) = false := by simp; omega
 have e4 : ¬ (o.K = 1) := by omega
 have e5 : ¬ (o.K <= 8) := by omega
 go_enter Tryz.func25, Tryz.ntmps25
 go_wp2
 rw [HW.out.symm]
 clear c0
 have c0 := HC0.out
 go_region_held3 (fun w' => w'.cell? ⟨bW, 0, none⟩ = some (.slice (some ⟨g, 0, none⟩) rs.length cap) /\ w'.cell? ⟨w.heap.size, 1, none⟩ = some (.int .i64 o.D) /\ (∀ i (hi : i < rs.length), w'.cell? ⟨g, i, none⟩ = some (.pointer (some ⟨rs[i].bk, 0, none⟩))) /\ Sm w0 w') (first | assumption | exact ⟨by simpa using c0, by simpa using o1, fun i hi => by simpa using hdc i hi, by simp⟩ | go_keep)
   (first | (go_at_call 61; refine (pick_any o.D rs.length _ D0 D1 (by omega) (by omega)).mono ?_; rintro e w1 ⟨r, rfl, r0, r1, rfl⟩; obtain ⟨k, rfl⟩ := Int.eq_ofNat_of_zero_le r0; have hk : k < rs.length := (by omega)))
 obtain ⟨hd0, hd9⟩ := hdk k hk
 have hpl' := hpl w0.drew (by simp) k hk
 have hQ := hQu w0.drew (Below.refl _ _).drew
 clear hpl hdk hQu hdc
 clear hd0 hd9
 go_wp2_with (go_at_call 62; refine hpl'.mono ?_; rintro e w2 ⟨rfl, hst⟩)
 go_ret
 exact ⟨rfl, stepM_behind HB.out.drew hst⟩
theorem step_open (h : Inv w own bW N rs ts nxt vd vt vm zz) (hsy : ∀ r ∈ rs, r.dx = r.dy) (hr0 : 0 < rs.length) (hrs : rs.length <= 4194304) (hN : N <= 1048576) (o : OpV) (ho : OpOk w own o) (h2 : 11 <= o.K) (h8 : o.K <= 11) :
   Calls Tryz.prog 25 #[ptrB bW, .agg o.cells] w fun e w' => e = .returned (.bool true) /\ StepM w own bW (N + o.wt) rs ts nxt zz w' := by
 have hw : N + 1 <= N + o.wt := by unfold OpV.wt; omega
 obtain ⟨w0, hw0⟩ : ∃ w0, w0 = w.alloc (.cells o.cells 67) := ⟨_, rfl⟩
 have hbw : Below w.heap.size w w0 := by rw [hw0]; exact (Below.refl _ _).alloc (Nat.le_refl _) _
 have hI := h.quiet (Kp.of_below hbw)
 have hQu : ∀ w', Below w0.heap.size w0 w' -> StepM w own bW (N + o.wt) rs ts nxt zz w' := fun w' hb => step_quiet' h hsy (hbw.trans (hb.mono hbw.size)) hw
 have hpl : ∀ w', Sm w0 w' -> ∀ i (hi : i < rs.length), _ := fun w' e i hi  => do_open (h.quiet (Kp.of_below (hbw.trans e.belowB))) i hi hsy hN o (by omega)
 obtain ⟨c0, -, -, -, -, -, -, -, -⟩ := cells8 hI.blk
 obtain ⟨a, cap, rfl, hd1, hd2, hd3, hdc⟩ := row1 hI.rowd
 have hdk := fun i hi => hI.dk2 i hi
 have hop := block_new w (.cells o.cells 67)
 unfold OpV.cells at *
 rw [<- hw0] at hop
 obtain ⟨g, rfl, -, -⟩ := hdc 0 (by simpa using hr0)
 replace hdc : ∀ i (hi : i < rs.length), w0.cell? ⟨g, i, none⟩ = some (ptrB rs[i].bk) := fun i hi => by
   obtain ⟨g', e, _, hc⟩ := hdc i (by simpa using hi)
   cases e
   rw [List.getElem_map] at hc
   exact hc
 obtain ⟨o0, o1, o2, o3, o4, o5, o6, o7, o8⟩ := op_cells hop
 obtain ⟨D0, D1⟩ := And.intro ho.d0 ho.d1
 unfold ptrB at *
 have HB : Hid (Below w.heap.size w w0) := hbw
 have HW : Hid (w0 = w.alloc (Obj.cells #[.int .i64 o.K, .int .i64 o.D, .int .i64 o.A, o.B, .string ⟨o.S.toArray⟩, .string ⟨o.T.toArray⟩, .slice o.qo o.os.length o.oc, .slice o.q o.ks.length o.qc, .bool o.old] 67)) := hw0
 have HC0 : Hid (w0.cell? ⟨bW, 0, none⟩ = some (.slice (some ⟨g, 0, none⟩) rs.length cap)) := c0
 rw [hw0] at c0
 clear h ho hI hd1 hbw hw0
 have e1 : ((rs.length : Int) == 0) = false := by simpa using List.length_pos_iff.1 hr0
 have e2 : decide (o.K < 1) = false := by simp; omega
 have e3 : decide (26 < o.K) = false := by simp; omega
 have e4 : ¬ (o.K = 1) := by omega
 have e5 : ¬ (o.K <= 8) := by omega
 have e6 : ¬ (o.K <= 10) := by omega
 have e7 : (o.K == 11) = true := beq_iff_eq.2 (by omega)
 go_enter Tryz.func25, Tryz.ntmps25
 go_wp2
 rw [HW.out.symm]
 clear c0
 have c0 := HC0.out
 go_region_held3 (fun w' => w'.cell? ⟨bW, 0, none⟩ = some (.slice (some ⟨g, 0, none⟩) rs.length cap) /\ w'.cell? ⟨w.heap.size, 1, none⟩ = some (.int .i64 o.D) /\ (∀ i (hi : i < rs.length), w'.cell? ⟨g, i, none⟩ = some (.pointer (some ⟨rs[i].bk, 0, none⟩))) /\ Sm w0 w') (first | assumption | exact ⟨by simpa using c0, by simpa using o1, fun i hi => by simpa using hdc i hi, by simp⟩ | go_keep)
   (first | (go_at_call 61; refine (pick_any o.D rs.length _ D0 D1 (by omega) (by omega)).mono ?_; rintro e w1 ⟨r, rfl, r0, r1, rfl⟩; obtain ⟨k, rfl⟩ := Int.eq_ofNat_of_zero_le r0; have hk : k < rs.length := (by omega)))
 obtain ⟨hd0, hd9⟩ := hdk k hk
 have hpl' := hpl w0.drew (by simp) k hk
 have hQ := hQu w0.drew (Below.refl _ _).drew
 clear hpl hdk hQu hdc
 clear hd0 hd9
 go_wp2_with (go_at_call 63; refine hpl'.mono ?_; rintro e w2 ⟨rfl, hst⟩)
 go_ret
 exact ⟨rfl, stepM_behind HB.out.drew hst⟩
theorem step_store (h : Inv w own bW N rs ts nxt vd vt vm zz) (hsy : ∀ r ∈ rs, r.dx = r.dy) (hr0 : 0 < rs.length) (hrs : rs.length <= 4194304) (hN : N <= 1048576) (hps : zz.ps.length <= 16777216) (hnx : nxt <= 1099511627770) (o : OpV) (ho : OpOk w own o) (h2 : 12 <= o.K) (h8 : o.K <= 17) :
   Calls Tryz.prog 25 #[ptrB bW, .agg o.cells] w fun e w' => e = .returned (.bool true) /\ StepM w own bW (N + o.wt) rs ts nxt zz w' := by
 have hw : N + 1 <= N + o.wt := by unfold OpV.wt; omega
 obtain ⟨w0, hw0⟩ : ∃ w0, w0 = w.alloc (.cells o.cells 67) := ⟨_, rfl⟩
 have hbw : Below w.heap.size w w0 := by rw [hw0]; exact (Below.refl _ _).alloc (Nat.le_refl _) _
 have hI := h.quiet (Kp.of_below hbw)
 have hQu : ∀ w', Below w0.heap.size w0 w' -> StepM w own bW (N + o.wt) rs ts nxt zz w' := fun w' hb => step_quiet' h hsy (hbw.trans (hb.mono hbw.size)) hw
 have hpl : ∀ w', Sm w0 w' -> ∀ i (hi : i < rs.length) (q : KR) (hkn : rs[i].kn = some q) (hn : 0 < q.k.ones.length), _ := fun w' e i hi q hkn hn => do_store (h.quiet (Kp.of_below (hbw.trans e.belowB))) i hi hkn hn hsy hN hps hnx o (ho.step (Kp.of_below (hbw.trans e.belowB)) (fun k hk => recolor_old hk)) h2 h8
 obtain ⟨c0, -, -, -, -, -, -, -, -⟩ := cells8 hI.blk
 obtain ⟨a, cap, rfl, hd1, hd2, hd3, hdc⟩ := row1 hI.rowd
 have hdk := fun i hi => hI.dk2 i hi
 have hop := block_new w (.cells o.cells 67)
 unfold OpV.cells at *
 rw [<- hw0] at hop
 obtain ⟨g, rfl, -, -⟩ := hdc 0 (by simpa using hr0)
 replace hdc : ∀ i (hi : i < rs.length), w0.cell? ⟨g, i, none⟩ = some (ptrB rs[i].bk) := fun i hi => by
   obtain ⟨g', e, _, hc⟩ := hdc i (by simpa using hi)
   cases e
   rw [List.getElem_map] at hc
   exact hc
 obtain ⟨o0, o1, o2, o3, o4, o5, o6, o7, o8⟩ := op_cells hop
 obtain ⟨D0, D1⟩ := And.intro ho.d0 ho.d1
 unfold ptrB at *
 have HB : Hid (Below w.heap.size w w0) := hbw
 have HW : Hid (w0 = w.alloc (Obj.cells #[.int .i64 o.K, .int .i64 o.D, .int .i64 o.A, o.B, .string ⟨o.S.toArray⟩, .string ⟨o.T.toArray⟩, .slice o.qo o.os.length o.oc, .slice o.q o.ks.length o.qc, .bool o.old] 67)) := hw0
 have HC0 : Hid (w0.cell? ⟨bW, 0, none⟩ = some (.slice (some ⟨g, 0, none⟩) rs.length cap)) := c0
 rw [hw0] at c0
 clear h ho hI hd1 hbw hw0
 have e1 : ((rs.length : Int) == 0) = false := by simpa using List.length_pos_iff.1 hr0
 have e2 : decide (o.K < 1) = false := by simp; omega
 have e3 : decide (26 < o.K) = false := by simp; omega
 have e4 : ¬ (o.K = 1) := by omega
 have e5 : ¬ (o.K <= 8) := by omega
 have e6 : ¬ (o.K <= 10) := by omega
 have e7 : ¬ o.K = 11 := by omega
 go_enter Tryz.func25, Tryz.ntmps25
 go_wp2
 rw [HW.out.symm]
 clear c0
 have c0 := HC0.out
 go_region_held3 (fun w' => w'.cell? ⟨bW, 0, none⟩ = some (.slice (some ⟨g, 0, none⟩) rs.length cap) /\ w'.cell? ⟨w.heap.size, 1, none⟩ = some (.int .i64 o.D) /\ (∀ i (hi : i < rs.length), w'.cell? ⟨g, i, none⟩ = some (.pointer (some ⟨rs[i].bk, 0, none⟩))) /\ Sm w0 w') (first | assumption | exact ⟨by simpa using c0, by simpa using o1, fun i hi => by simpa using hdc i hi, by simp⟩ | go_keep)
   (first | (go_at_call 61; refine (pick_any o.D rs.length _ D0 D1 (by omega) (by omega)).mono ?_; rintro e w1 ⟨r, rfl, r0, r1, rfl⟩; obtain ⟨k, rfl⟩ := Int.eq_ofNat_of_zero_le r0; have hk : k < rs.length := (by omega)))
 obtain ⟨hd0, hd9⟩ := hdk k hk
 have hpl' := hpl w0.drew (by simp) k hk
 have hQ := hQu w0.drew (Below.refl _ _).drew
 clear hpl hdk hQu hdc
 rcases hkn : rs[k].kn with _ | q
 . have hdk' := hd0 hkn
   clear hd0 hd9 hpl'
   clear hkn
   go_wp2
   go_ret
   exact ⟨rfl, hQ⟩
 . obtain ⟨hdk', qs, cs, hs8⟩ := hd9 q hkn
   by_cases hn : 0 < q.k.ones.length
   . replace hpl' := hpl' q hkn hn
     have e8 : ((q.k.ones.length : Int) == 0) = false := beq_eq_false_iff_ne.2 (by omega)
     clear hd0 hd9
     clear hkn
     go_wp2_with (go_at_call 64; refine hpl'.mono ?_; rintro e w2 ⟨rfl, hst⟩)
     go_ret
     exact ⟨rfl, stepM_behind HB.out.drew hst⟩
   . have e8 : ((q.k.ones.length : Int) == 0) = true := beq_iff_eq.2 (by omega)
     clear hd0 hd9 hpl'
     clear hkn
     go_wp2
     go_ret
     exact ⟨rfl, hQ⟩
theorem step_any (h : Inv w own bW N rs ts nxt vd vt vm zz) (hsy : ∀ r ∈ rs, r.dx = r.dy) (hr0 : 0 < rs.length) (hrs : rs.length <= 4194304) (hN : N <= 1048576) (hts : ts.length <= 16777216) (hps : zz.ps.length <= 16777216) (hnx : nxt <= 1099511627770) (o : OpV) (ho : OpOk w own o) (hK : o.K <= 17) :
   Calls Tryz.prog 25 #[ptrB bW, .agg o.cells] w fun e w' => e = .returned (.bool true) /\ StepM w own bW (N + o.wt) rs ts nxt zz w' := by
 rcases (by omega : o.K < 1 \/ o.K = 1 \/ (2 <= o.K /\ o.K <= 8) \/ (9 <= o.K /\ o.K <= 10) \/ (11 <= o.K /\ o.K <= 11) \/ 12 <= o.K) with e | e | e | e | e | e
 . exact step_low h hsy o e
 . exact step_made h hsy (by omega) o e
 . exact step_plain h hsy hr0 hrs hN hts hnx o ho e.1 e.2
 . exact step_power h hsy hr0 hrs hN o ho e.1 e.2
 . exact step_open h hsy hr0 hrs hN o ho e.1 e.2
 . exact step_store h hsy hr0 hrs hN hps hnx o ho e hK
end
end Go.Proofs.YtfghgmojnffgnaaGreat.M
namespace Go.Proofs.YtfghgmojnffgnaaGreat.M
open Go.RowKit Go.Maps Go.Sort
attribute [local go_sem ↓] Go.wp_at_zero Go.wp_at_succ
def keyN : Nm := [107, 101, 121]
def valN : Nm := [118, 97, 108, 117, 101]
theorem open_first : openX (newDk 1048576) = (0, turned (newDk 1048576), []) := rfl
theorem put_first : ∃ d', batchX (turned (newDk 1048576)) ⟨1, [], false, false⟩ [⟨keyN, valN, false⟩] = (0, d', ⟨1, [(keyN, valN)], true, false⟩) /\ d'.turn = 1 /\ d'.dead = false := by
 have hl : (encode [⟨keyN, valN, false⟩]).length = 16 := by rw [encode_len]; rfl
 have hw : ((turned (newDk 1048576)).write logN (encode [⟨keyN, valN, false⟩])).1 = 0 /\ ((turned (newDk 1048576)).write logN (encode [⟨keyN, valN, false⟩])).2.turn = 1 /\ ((turned (newDk 1048576)).write logN (encode [⟨keyN, valN, false⟩])).2.dead = false := by
   unfold Dk.write
   rw [if_neg (by decide), if_neg (by decide), if_neg (by rw [hl]; decide), if_neg (by decide)]
   exact ⟨rfl, rfl, rfl⟩
 refine ⟨((turned (newDk 1048576)).write logN (encode [⟨keyN, valN, false⟩])).2, ?_, hw.2.1, hw.2.2⟩
 unfold batchX
 rw [if_neg (by decide), if_neg (by decide), if_neg (by rw [hw.1]; decide)]
 rfl
theorem get_first {w : World} {C : Nat -> Prop} {bx bd bz : Nat} {part : Nat -> Nat} {d : Dk} (ht : d.turn = 1) (hd : d.dead = false) (h : Room w C bx bd part d [(bz, (⟨1, [(keyN, valN)], true, false⟩ : St))]) :
   Calls Tryz.prog 18 #[.pointer (some ⟨bz, 0, none⟩), str keyN] w fun e w' => e = .returned (.tuple #[.string ⟨#[118, 97, 108, 117, 101]⟩, .bool true, .int .i64 0]) /\ Below w.heap.size w w' := by
 have hg : getX d ⟨1, [(keyN, valN)], true, false⟩ keyN = (valN, true, 0) := by
   unfold getX
   have hr : ready d.turn d.dead ⟨1, [(keyN, valN)], true, false⟩ = 0 := by unfold ready; rw [ht, hd]; rfl
   rw [hr]
   rfl
 have h9 : Calls Tryz.prog 18 #[.pointer (some ⟨bz, 0, none⟩), str keyN] w fun e w' => e = .returned (.tuple #[str (getX d ⟨1, [(keyN, valN)], true, false⟩ keyN).1, .bool (getX d ⟨1, [(keyN, valN)], true, false⟩ keyN).2.1, .int .i64 (getX d ⟨1, [(keyN, valN)], true, false⟩ keyN).2.2]) /\ Below w.heap.size w w' := h.get 0 (by simp) keyN (by decide) (MOk.nil.doAll (l := [⟨keyN, valN, false⟩]) (batchOk_iff.1 (by decide)).2)
 rw [hg] at h9
 exact h9
theorem opened_any (w : World) : Calls Tryz.prog 9 #[] w fun e w' => e = .returned (.bool true) /\ Below w.heap.size w w' := by
 have hN := xNew_ok 1048576 w (by decide)
 obtain ⟨d', hput, ht', hd'⟩ := put_first
 have HP : Hid (batchX (turned (newDk 1048576)) ⟨1, [], false, false⟩ [⟨keyN, valN, false⟩] = (0, d', ⟨1, [(keyN, valN)], true, false⟩)) := hput
 have HT : Hid (d'.turn = 1 /\ d'.dead = false) := ⟨ht', hd'⟩
 clear hput ht' hd'
 go_enter Tryz.func9, Tryz.ntmps9
 go_wp2_with (first
   | (go_at_call 27; refine hN.mono ?_; rintro e w1 ⟨bx, rfl, hX, hb1⟩; clear hN; obtain ⟨bd, hR1⟩ := room_new hX; have hOp := hR1.open 0 (newDk_ok (by decide)) (by simp [newDk]) (by simp [newDk]) (by simp [newDk]) (by decide) (by decide); clear hX hR1)
   | (go_at_call 21; refine hOp.mono ?_; rintro e w2 ⟨kp2, (⟨-, bz, st2, part2, rfl, hR2, hst2⟩ | ⟨hne, -⟩)⟩; rotate_left; exact absurd open_first (fun e => hne (by rw [e])); clear hOp; rw [open_first] at hR2 hst2; subst hst2; replace hR2 := hR2.mono (C' := fun k => Nw (fun k => w.heap.size <= k) w1 k /\ k < w2.heap.size) (fun k hk s => ⟨s, hk⟩); have hPu : Calls Tryz.prog 28 #[.pointer (some ⟨bz, 0, none⟩), str keyN, str valN] w2 (RoomJ (fun k => Nw (fun k => w.heap.size <= k) w1 k /\ k < w2.heap.size) bx bd [(bz, ⟨1, [], false, false⟩)] 0 bz w2 (0, d', ⟨1, [(keyN, valN)], true, false⟩)) := (by rw [<- HP.out]; exact hR2.put 0 (by simp) keyN valN (fun k s => s.2) (turned_ok (newDk_ok (by decide))) (by simp [turned, newDk]) (by simp) (by decide) (by decide)))
   | (go_at_call 28; refine hPu.mono ?_; rintro e w3 hJ; obtain ⟨rfl, ⟨part3, hR3⟩, kp3⟩ := hJ; clear hPu; have hGe : Calls Tryz.prog 18 #[.pointer (some ⟨bz, 0, none⟩), str keyN] w3 fun e w' => e = .returned (.tuple #[.string ⟨#[118, 97, 108, 117, 101]⟩, .bool true, .int .i64 0]) /\ Below w3.heap.size w3 w' := get_first HT.out.1 HT.out.2 hR3)
   | (go_at_call 18; refine hGe.mono ?_; rintro e w4 ⟨rfl, hb4⟩; clear hGe))
 go_ret
 refine ⟨by first | rfl | simp, ?_⟩
 have k1 : Kp (fun k => w.heap.size <= k) w w2 := (Kp.of_below hb1).trans kp2 (fun _ _ s => s)
 have k2 : Kp (fun k => w.heap.size <= k) w w3 := k1.trans kp3 (fun k hk s => by
   rcases s.1 with s | s
   . exact s
   . have := hb1.size; omega)
 have k3 := k2.trans (T := fun _ => False) (Kp.of_below hb4) (fun _ _ f => f.elim)
 exact ⟨k3.os, k3.tape, k3.output, k3.size, fun k hk => k3.block k hk (by omega)⟩
end Go.Proofs.YtfghgmojnffgnaaGreat.M
