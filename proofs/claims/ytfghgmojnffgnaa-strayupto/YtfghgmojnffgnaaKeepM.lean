/- Stray. -/
import Derived.Test.YtfghgmojnffgnaaCalm
import Derived.StillTailTactics
namespace Go.Proofs.Ytfghgmojnffgnaa
open Go.RowKit Go.Maps Go.Sort

/-- A row of texts among the arguments. -/
def Strp (w : World) (q : Option Addr) (l : List Nm) : Prop := ∀ i (h : i < l.length), ∃ g off, q = some ⟨g, off, none⟩ ∧ w.cell? ⟨g, off + i, none⟩ = some (str l[i]) ∧ l[i].length ≤ 1099511627776
theorem Strp.below {w w' : World} {q : Option Addr} {l : List Nm} (h : Strp w q l) (hb : Below w.heap.size w w') : Strp w' q l := fun i hi => by
  obtain ⟨g, off, e, h0, h1⟩ := h i hi
  exact ⟨g, off, e, cell_below hb h0, h1⟩

theorem xScan_shop (bx bz : Nat) (d : Dk) (st : St) (U : Nat → Prop) (lim : Int) (w : World) (hS : Shop w U bx bz d st) (hm : MOk st.m) (hl : st.m.length ≤ 4194304) (hr : ready d.turn d.dead st = 0) (hl0 : 0 ≤ lim) (hl1 : lim ≤ 9223372036854775807) :
    Calls Try.prog 20 #[.pointer (some ⟨bz, 0, none⟩), str [], str [], .int .i64 lim] w fun e w' => ∃ v, e = .returned (.tuple #[v, .int .i64 0]) ∧ Below w.heap.size w w' ∧ OwnP w' w.heap.size v (st.m.take lim.toNat) := by
  obtain ⟨bd, bs, h1, h2, h3, h4, h5⟩ := hS.ex
  obtain ⟨S, T, bm, u1, u2, u3, hP, hT⟩ := h5.ex
  obtain ⟨dm, dr, df, hd, hsd⟩ := hP.raw
  have hsc := xScan_ok h2 hT hd hr [] [] lim hl0 hl1 hm.rise (fun x hx => by
    have a := hm.key x hx
    have b := hm.val x hx
    simp only [keyOk, Bool.and_eq_true, decide_eq_true_eq] at a
    omega) hl
  rw [range_all] at hsc
  exact hsc

set_option maxHeartbeats 1000000 in
set_option maxRecDepth 20000 in
theorem stray_any (p : Int) (q1 q2 : Option Addr) (c1 c2 : Nat) (L M : List Nm) (w : World) (hp0 : -9223372036854775808 ≤ p) (hp1 : p ≤ 9223372036854775807) (hl : L.length ≤ 1048576) (_ : M.length ≤ 1048576) (hL : Strp w q1 L) (hM : Strp w q2 M) :
    Calls Try.prog 5 #[.int .i64 p, .slice q1 L.length c1, .slice q2 M.length c2] w fun e w' => e = .returned (.bool true) ∧ Below w.heap.size w w' := by
  have hpick := fun w => kpick_any p 3 w hp0 hp1 (by omega) (by omega)
  go_enter Try.func5, Try.ntmps5
  go_wp2_with (go_at_call 9; refine (hpick _).mono ?_; rintro e w' ⟨r0, rfl, hr0, hr1, hw⟩; subst w')
  go_wp2_with (go_at_call 8; refine (fresh_any 1048576 r0 _ (by omega) (by omega) hr0 (by omega)).mono ?_; rintro e w1 ⟨bx1, bz1, d1, rfl, hS1, hb1, hD1, ht1, hq1', hu1⟩)
  have hH := holds_any bx1 bz1 d1 _ _ (fun _ => False) _ _ hS1 MOk.nil (by simp) (ready_open hD1.alive ht1.symm) (PRowS.nil _ _ 0)
  go_wp2_with (go_at_call 14; refine hH.mono ?_; rintro e w2 ⟨rfl, hb2⟩; clear hH)
  have hB2 : Below w.heap.size w w2 := hb1.trans (hb2.mono hb1.size)
  clear hS1 hD1 ht1 hq1' hu1
  go_wp2_with (go_at_call 15; refine (xNew_ok 1048576 w2 (by decide)).mono ?_; rintro e w4 ⟨bx, rfl, hX4, hb4⟩)
  have hs2 := hB2.size
  have hB4 : Below w.heap.size w w4 := hB2.trans (hb4.mono hs2)
  have hc4 : Calm (newDk 1048576) := ⟨newDk_ok (by decide), rfl, rfl⟩
  have hD4 : ∃ (V : Nat → Prop) (d : Dk), XAt w4 V bx d ∧ (∀ k, V k → w.heap.size ≤ k) ∧ Calm d ∧ d.turn = 0 ∧ d.files.length ≤ 0 := ⟨_, _, hX4, fun k s => Nat.le_trans hs2 s, hc4, rfl, Nat.le_refl _⟩
  clear hX4 hc4 hb1 hb2 hb4
  go_loopw [11, 12] (fun _ i wr => ∃ k : Nat, k ≤ L.length ∧ i = .int .i64 k ∧ (∃ (V : Nat → Prop) (d : Dk), XAt wr V bx d ∧ (∀ k, V k → w.heap.size ≤ k) ∧ Calm d ∧ d.turn = 0 ∧ d.files.length ≤ k) ∧ Below w.heap.size w wr) (fun _ i _ => L.length - (intOf i).toNat)
  case atStart => exact ⟨0, Nat.zero_le _, rfl, hD4, hB4⟩
  case round =>
    obtain ⟨k, hk, rfl, ⟨V, d, hX, hV, hC, ht, hfl⟩, hB⟩ := hrel
    have hs := hB.size
    have hOp := fun p hp0 hp2 => xOpen_any bx d p V wr hX hC.ok (by omega) (by omega) (by omega) hp0 hp2
    by_cases hlt : k < L.length ∧ k < M.length
    · obtain ⟨hlt1, hlt2⟩ := hlt
      obtain ⟨g1, off1, rfl, c0, n0⟩ := (hL.below hB) k hlt1
      obtain ⟨g2, off2, rfl, c1, n1⟩ := (hM.below hB) k hlt2
      have hWr := xWrite_any bx d L[k] M[k] V wr.drew (hX.kept (T := fun _ => False) ((Kp.refl _ wr).drew) (fun _ _ f => f)) hC.ok (by omega) n0 n1
      obtain ⟨h1, h2, h3, _⟩ := hC.write L[k] M[k]
      have h4 := (write_ok hC.ok L[k] M[k]).2
      have h5 : (d.write L[k] M[k]).1 = 0 ∨ (d.write L[k] M[k]).1 = 1 ∨ (d.write L[k] M[k]).1 = 3 := by
        rcases h3 with ⟨h, _⟩ | ⟨h, _⟩ | h
        · exact .inl h
        · exact .inr (.inl h)
        · exact .inr (.inr h)
      clear h3
      generalize (d.write L[k] M[k]).2 = d2 at *
      generalize (d.write L[k] M[k]).1 = R at *
      rcases h5 with rfl | rfl | rfl
      all_goals
        go_wp2
        go_still_tail 9, mixedP
        go_wp2_with (go_at_call 19; refine hWr.mono ?_; rintro e w5 ⟨rfl, hX5, k5⟩; clear hWr)
        go_roundw
        case rel => exact ⟨k + 1, by omega, by go_num, ⟨_, _, hX5, fun i s => s.elim (hV i) (fun h => by simp only [World.size_drew] at h; omega), h1, h2.trans ht, by omega⟩, below_kp2 hB.drew k5 hV⟩
        case measure => simp [intOf]; omega
    · obtain ⟨o1, o2, o3, o4, o5⟩ := hC.open
      have hcase : Hid (¬ k < L.length ∨ (k < L.length ∧ ¬ k < M.length)) := by show _ ∨ _; omega
      clear hlt
      rcases hcase.out with hlt | ⟨hlt, hlt'⟩
      all_goals
        go_wp2_with (go_at_call 9; refine (hpick _).mono ?_; rintro e w8 ⟨r8, rfl, hr80, hr81, rfl⟩)
        go_wp2_with (go_at_call 13; refine (hOp r8 hr80 (by omega)).mono ?_)
        rintro e w9 ⟨k9, (⟨hz, bz, st2, rfl, hS9, g1, g2, g3⟩ | ⟨hne, rfl, hX9⟩)⟩
        · have hsc := xScan_shop bx bz _ st2 _ 3 w9 hS9 (by rw [g3]; exact o4) (by rw [g3]; omega) (ready_open o2.alive (by rw [g1, o3])) (by omega) (by omega)
          have hB9 := below_kp2 hB k9 hV
          go_wp2_with (go_at_call 20; refine hsc.mono ?_; rintro e w10 ⟨v10, rfl, hb10, _⟩; clear hsc)
          go_ret
          exact ⟨rfl, hB9.trans (hb10.mono hB9.size)⟩
        · have hB9 := below_kp2 hB k9 hV
          generalize (openX d).1 = R at *
          rcases o1 with rfl | rfl | rfl
          · exact absurd rfl hne
          · go_wp2
            go_ret
            exact ⟨rfl, hB9⟩
          · go_wp2
            go_ret
            exact ⟨rfl, hB9⟩

end Go.Proofs.Ytfghgmojnffgnaa
