/- Crowded. -/
import Derived.Test.YtfghgmojnffgnaaKeepG
namespace Go.Proofs.Ytfghgmojnffgnaa
open Go.RowKit Go.Maps Go.Sort

/-- What is so behind each round of Crowded: the store has the map that is told, and the disk its log. -/
structure Cr (base : Nat) (w : World) (bx bz : Nat) (lv : Value) (stuck : Bool) (U : Nat → Prop) (d : Dk) (st : St) : Prop where
  shop : Shop w U bx bz d st
  up : ∀ k, U k → k < w.heap.size ∧ base ≤ k
  row : PRowS w U lv st.m
  inv : DInv d st.m
  turn : st.turn = d.turn
  one : d.turn = 1
  stuck : st.stuck = stuck

theorem Cr.below {base : Nat} {w w' : World} {bx bz : Nat} {lv : Value} {stuck : Bool} {U : Nat → Prop} {d : Dk} {st : St} (h : Cr base w bx bz lv stuck U d st) (hb : Below w.heap.size w w') : Cr base w' bx bz lv stuck U d st :=
  ⟨h.shop.below hb, fun k s => ⟨Nat.lt_of_lt_of_le (h.up k s).1 hb.size, (h.up k s).2⟩, h.row.below hb, h.inv, h.turn, h.one, h.stuck⟩
/-- Behind a batch that changed no map. -/
theorem Cr.still {base : Nat} {w w' : World} {bx bz : Nat} {lv : Value} {stuck stuck' : Bool} {U : Nat → Prop} {d : Dk} {st st' : St} (h : Cr base w bx bz lv stuck U d st) (k : Kp U w w') (hs : Shop w' (Nw U w) bx bz d st') (hw : base ≤ w.heap.size) (hm : st'.m = st.m) (ht : st'.turn = st.turn) (hst : st'.stuck = stuck') : Cr base w' bx bz lv stuck' (fun i => Nw U w i ∧ i < w'.heap.size) d st' :=
  ⟨hs.mono (fun i hi s => ⟨s, hi⟩), fun i s => ⟨s.2, s.1.elim (fun u => (h.up i u).2) (fun u => by omega)⟩, by rw [hm]; exact h.row.step k, by rw [hm]; exact h.inv, by rw [ht]; exact h.turn, h.one, hst⟩

set_option maxHeartbeats 400000 in
set_option maxRecDepth 20000 in
theorem crowded_any (p qt : Int) (q : Option Addr) (qc : Nat) (L : List DoV) (w : World) (hp0 : -9223372036854775808 ≤ p) (hp1 : p ≤ 9223372036854775807) (hq0 : -9223372036854775808 ≤ qt) (hq1 : qt ≤ 9223372036854775807) (hl : L.length ≤ 1048576) (hL : Dop w q L) (hok : ∀ o ∈ L, DoOk w o) :
    Calls Try.prog 4 #[.int .i64 p, .int .i64 qt, .slice q L.length qc] w fun e w' => e = .returned (.bool true) ∧ Below w.heap.size w w' := by
  have hpick := fun w => kpick_any p 3 w hp0 hp1 (by omega) (by omega)
  have hpick2 := fun w => kpick_any qt 4000 w hq0 hq1 (by omega) (by omega)
  go_enter Try.func4, Try.ntmps4
  go_wp2_with (go_at_call 9; refine (hpick _).mono ?_; rintro e w0 ⟨r0, rfl, hr0, hr1, rfl⟩)
  go_wp2_with (go_at_call 8; refine (fresh_any 1048576 r0 _ (by omega) (by omega) hr0 (by omega)).mono ?_; rintro e w1 ⟨bx1, bz1, d1, rfl, hS1, hb1, hD1, ht1, hq1', hu1⟩)
  go_wp2_with (go_at_call 14; refine (holds_any bx1 bz1 d1 _ _ (fun _ => False) _ _ hS1 MOk.nil (by simp) (ready_open hD1.alive ht1.symm) (PRowS.nil _ _ _)).mono ?_; rintro e w2 ⟨rfl, hb2⟩)
  have hb02 : Below w0.heap.size w0 w2 := hb1.trans (hb2.mono hb1.size)
  clear hS1 hD1 ht1 hq1' hu1
  go_wp2_with (go_at_call 9; refine (hpick2 _).mono ?_; rintro e w3 ⟨r3, rfl, hr30, hr31, rfl⟩; clear hpick2)
  go_wp2_with (go_at_call 15; refine (xNew_ok (200 + r3) w3 (by simp [quotaOk]; omega)).mono ?_; rintro e w4 ⟨bx, rfl, hX4, hb4⟩)
  go_wp2_with (go_at_call 9; refine (hpick _).mono ?_; rintro e w5 ⟨r5, rfl, hr50, hr51, rfl⟩)
  go_wp2_with (go_at_call 13; refine (xOpen_inv bx (newDk (200 + r3)) [] r5 _ w5 hX4 (DInv.new _ (by omega)) (by simp [newDk]) (by simp [newDk]) hr50 (by omega)).mono ?_; rintro e w6 ⟨bz, d6, rfl, hS6, k6, hD6, ht6, hq6, hu6⟩)
  have hs04 : w0.heap.size ≤ w3.heap.size := hb02.size
  have hs45 : w3.heap.size ≤ w5.heap.size := hb4.size
  have hB6 : Below w0.heap.size w0 w6 := below_kp2 (hb02.trans (hb4.mono hs04)) k6 (fun i s => Nat.le_trans hs04 s)
  have ht61 : d6.turn = 1 := ht6
  have hC6 : ∃ (U : Nat → Prop) (d : Dk) (st : St), Cr w0.heap.size w6 bx bz (.slice none 0 0) false U d st :=
    ⟨_, _, _, hS6.mono (V := fun k => (w0.heap.size ≤ k) ∧ k < w6.heap.size) (fun k hk s => ⟨s.elim (fun s => Nat.le_trans hs04 s) (fun s => by omega), hk⟩), fun k s => ⟨s.2, s.1⟩, PRowS.nil _ _ _, hD6, ht6.symm, ht61, rfl⟩
  clear hS6 k6 hD6 ht6 hq6 hu6 hX4 hb1 hb2 hb4
  go_wp2
  go_loopw [10, 11, 12, 13] (fun e lv sv i wr => ∃ (k : Nat) (stuck : Bool), k ≤ L.length ∧ i = .int .i64 k ∧ sv = .bool stuck ∧ (∃ (U : Nat → Prop) (d : Dk) (st : St), Cr w0.heap.size wr bx bz lv stuck U d st) ∧ Below w0.heap.size w0 wr) (fun _ _ _ i _ => L.length - (intOf i).toNat)
  case atStart => exact ⟨0, false, Nat.zero_le _, rfl, rfl, hC6, hB6⟩
  case round =>
    obtain ⟨k, stuck, hk, rfl, rfl, ⟨U, d, st, hC⟩, hB⟩ := hrel
    have hs := hB.size
    by_cases hlt : k < L.length
    · obtain ⟨g, off, rfl, c0, c1, c2, c3⟩ := (hL.below hB) k hlt
      have hdo := (hok L[k] (List.getElem_mem hlt)).below hB
      have hT := tidied_any L[k].q L[k].qc L[k].ops wr hdo.opp hdo.ox (by have := hdo.len; omega)
      have hbk := tidy_ok L[k].ops
      have hox := tidy_ox L[k].ops
      have hb8 := (batchOk_iff.1 hbk).1
      generalize tidyL L[k].ops = T at *
      go_wp2_with (go_at_call 16; refine hT.mono ?_; rintro e w7 ⟨v7, rfl, hb7, ho7⟩; obtain ⟨q7, c7, rfl, hp7, hn7⟩ := ho7.opp; clear hT)
      have hC7 := hC.below hb7
      have hB7 : Below w0.heap.size w0 w7 := hB.trans (hb7.mono hs)
      have hsz := hb7.size
      have hnU : ∀ a, q7 = some a → 0 < T.length → ¬ U a.block := fun a ha _ s => by have := (hn7 a ha).1; have := (hC.up _ s).1; omega
      have hXB := xBatch_any bx bz d st U q7 c7 T w7 hC7.shop hC7.inv.ok (by have := hC7.inv.files; omega) (by have := hC7.inv.len; omega) (by omega) hox hp7 hnU
      have hUb : ∀ i, U i → w0.heap.size ≤ i := fun i s => (hC.up i s).2
      cases stuck
      · by_cases hroom : used d.files + (encode T).length ≤ d.quota
        · obtain ⟨f, hx, hD', hf'⟩ := batchX_done hC.inv hC.turn hC.stuck hbk hroom
          rw [hx] at hXB
          go_wp2_with (go_at_call 17; refine hXB.mono ?_; rintro e w8 ⟨rfl, hS8, k8⟩; clear hXB)
          have hrow8 := hC7.row.step k8
          have hp8 := hp7.kept k8 hnU
          have hlen := hC.inv.len
          go_wp2_with (go_at_call 18; refine (behind_row (fun i => Nw U w7 i ∧ i < w8.heap.size) _ st.m q7 c7 T w8 (fun k s => s.2) hrow8 hC.inv.mok.rise hp8 (by omega)).mono ?_; rintro e w9 ⟨v9, rfl, hb9, hr9⟩)
          go_roundw
          case rel =>
            refine ⟨k + 1, false, by omega, by go_num, rfl, ⟨_, _, _, ⟨(hS8.mono (V := fun i => Nw U w7 i ∧ i < w8.heap.size) (fun i hi s => ⟨s, hi⟩)).below hb9, fun i s => ⟨Nat.lt_of_lt_of_le s.2 hb9.size, s.1.elim (fun u => hUb i u) (fun u => by omega)⟩, hr9, hD', hC.turn, hC.one, hC.stuck⟩⟩, ?_⟩
            have hB8 := below_kp2 hB7 k8 hUb
            exact hB8.trans (hb9.mono hB8.size)
          case measure => simp [intOf]; omega
        · have hx := batchX_full hC.inv hC.turn hC.stuck hbk (by omega : d.quota < used d.files + (encode T).length)
          rw [hx] at hXB
          go_wp2_with (go_at_call 17; refine hXB.mono ?_; rintro e w8 ⟨rfl, hS8, k8⟩; clear hXB)
          go_roundw
          case rel => exact ⟨k + 1, true, by omega, by go_num, rfl, ⟨_, _, _, hC7.still k8 hS8 (by omega) rfl rfl rfl⟩, below_kp2 hB7 k8 hUb⟩
          case measure => simp [intOf]; omega
      · have hx := batchX_stuck hC.inv.alive hC.turn hC.stuck T
        rw [hx] at hXB
        go_wp2_with (go_at_call 17; refine hXB.mono ?_; rintro e w8 ⟨rfl, hS8, k8⟩; clear hXB)
        go_roundw
        case rel => exact ⟨k + 1, true, by omega, by go_num, rfl, ⟨_, _, _, hC7.still k8 hS8 (by omega) rfl rfl hC.stuck⟩, below_kp2 hB7 k8 hUb⟩
        case measure => simp [intOf]; omega
    · have hlen := hC.inv.len
      have hUb : ∀ i, U i → w0.heap.size ≤ i := fun i s => (hC.up i s).2
      go_wp2_with (go_at_call 14; refine (holds_any bx bz d st U U _ wr hC.shop hC.inv.mok (by omega) (ready_open hC.inv.alive hC.turn) hC.row).mono ?_; rintro e w7 ⟨rfl, hb7⟩)
      have hC7 := hC.below hb7
      go_wp2_with (go_at_call 9; refine (hpick _).mono ?_; rintro e w8 ⟨r8, rfl, hr80, hr81, rfl⟩)
      go_wp2_with (go_at_call 13; refine (xOpen_inv bx d st.m r8 U _ hC7.shop.x hC7.inv (by rw [hC.one]; omega) (by rw [hC.one]; omega) hr80 (by omega)).mono ?_; rintro e w9 ⟨bz2, d9, rfl, hS9, k9, hD9, ht9, _⟩)
      have hB8 := hB.trans (hb7.mono hs)
      have hB9 := below_kp2 hB8 k9 hUb
      have hH := fun v hr => holds_any bx bz2 d9 _ _ (fun i => Nw U w8 i ∧ i < w9.heap.size) v w9 hS9 hD9.mok (by show st.m.length ≤ _; omega) (ready_open hD9.alive ht9.symm) hr
      go_wp2_with (go_at_call 14; refine (hH _ (hC7.row.step k9)).mono ?_; rintro e w10 ⟨rfl, hb10⟩)
      go_ret
      exact ⟨rfl, hB9.trans (hb10.mono hB9.size)⟩

end Go.Proofs.Ytfghgmojnffgnaa
