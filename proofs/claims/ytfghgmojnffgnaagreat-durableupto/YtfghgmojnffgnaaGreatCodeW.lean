/- The program's store: replay, areOurs, Contains. -/
import Derived.Test.YtfghgmojnffgnaaGreatCodeV
namespace Go.Proofs.YtfghgmojnffgnaaGreat
open Go.RowKit Go.Maps Go.Sort


theorem replay_fuel : ∀ (f g : Nat) (t : List UInt8) (m : Mp), t.length ≤ f → t.length ≤ g → replay f t m = replay g t m
  | 0, 0, _, _, _, _ => rfl
  | 0, g + 1, t, m, h, _ => by rw [replay, replay, if_pos (by omega)]
  | f + 1, 0, t, m, _, h => by rw [replay, replay, if_pos (by omega)]
  | f + 1, g + 1, t, m, h1, h2 => by
    rw [replay, replay]
    split
    · rfl
    · split
      · rfl
      · rfl
      · rename_i hd
        obtain ⟨_, k2, _, _⟩ := decode_ok hd
        rw [replay_fuel f g _ _ (by simp; omega) (by simp; omega)]

/-- All of a log. -/
def rep (t : List UInt8) (m : Mp) : Option (Mp × Nat) := replay t.length t m
theorem rep_step {t : List UInt8} {m : Mp} {ops : List Ox} {n : Nat} (hd : decode t = some (some (ops, n))) (h0 : t.length ≠ 0) : rep t m = (rep (t.drop n) (doAll m ops)).map fun x => (x.1, n + x.2) := by
  obtain ⟨_, k2, _, _⟩ := decode_ok hd
  unfold rep
  obtain ⟨f, hf⟩ : ∃ f, t.length = f + 1 := ⟨t.length - 1, by omega⟩
  rw [hf, replay, if_neg (by omega), hd]
  simp only
  rw [replay_fuel f (t.drop n).length _ _ (by simp; omega) (Nat.le_refl _)]
theorem rep_cut {t : List UInt8} {m : Mp} (hd : decode t = some none) : rep t m = some (m, 0) := by
  unfold rep
  cases h : t.length with
  | zero => rfl
  | succ f => rw [replay, if_neg (by omega), hd]
theorem rep_bad {t : List UInt8} {m : Mp} (hd : decode t = none) (h0 : t.length ≠ 0) : rep t m = none := by
  unfold rep
  obtain ⟨f, hf⟩ : ∃ f, t.length = f + 1 := ⟨t.length - 1, by omega⟩
  rw [hf, replay, if_neg (by omega), hd]

set_option maxHeartbeats 2000000 in
set_option maxRecDepth 20000 in
theorem replay_any (bs bd bm : Nat) (st : St) (T : Nat → Prop) (t : List UInt8) (w : World) (hT : StAt w T bs bd bm st) (hm0 : MOk st.m) (hl : t.length ≤ 1048576) (hml : st.m.length = 0) :
    Calls Tryz.prog 126 #[.pointer (some ⟨bs, 0, none⟩), str t] w fun e w' => ∃ m', StAt w' T bs bd bm { st with m := m' } ∧ Kp (fun i => i = bm) w w' ∧
      ((∃ n, rep t st.m = some (m', n) ∧ e = .returned (.tuple #[.int .i64 n, .int .i64 0])) ∨ (rep t st.m = none ∧ e = .returned (.tuple #[.int .i64 0, .int .i64 5]))) := by
  have hz : (⟨t.toArray⟩ : ByteArray).size = t.length := rfl
  go_enter Tryz.func126, Tryz.ntmps126
  go_wp2
  go_loopw [6] (fun i wr => ∃ (k : Nat) (m : Mp), k ≤ t.length ∧ i = .int .i64 k ∧ StAt wr T bs bd bm { st with m := m } ∧ Kp (fun i => i = bm) w wr ∧ MOk m ∧ 2 * m.length ≤ k ∧ rep t st.m = (rep (t.drop k) m).map fun x => (x.1, k + x.2)) (fun i _ => t.length - (intOf i).toNat)
  case atStart =>
    refine ⟨0, st.m, Nat.zero_le _, rfl, hT, Kp.refl _ _, hm0, by omega, ?_⟩
    simp
  case round =>
    obtain ⟨k, m, hk, rfl, hTr, kp, hmo, hmk, hE⟩ := hrel
    by_cases hlt : k < t.length
    · have hex : Hid ((⟨t.toArray⟩ : ByteArray).extract k t.length = ⟨(t.drop k).toArray⟩) := by show _ = _; rw [ext_bytes, List.take_of_length_le (by simp)]
      have hdl : (t.drop k).length = t.length - k := by simp
      have hD := fun w => Decode_any (t.drop k) w (by omega)
      cases hd : decode (t.drop k) with
      | none =>
        have HE : Hid (rep t st.m = none) := by show _ = _; rw [hE, rep_bad hd (by omega)]; rfl
        have hR : decR (t.drop k) = (none, 0, 5) := by simp [decR, hd]
        rw [hR] at hD
        clear hE
        go_wp2_with (go_at_call 168; rw [hex.out]; refine (hD _).mono ?_; rintro e w1 ⟨v, rfl, hb1, hv⟩; obtain rfl : v = .slice none 0 0 := hv)
        go_ret2
        exact ⟨m, hTr.below hb1, kp_below kp hb1, .inr ⟨HE.out, rfl⟩⟩
      | some x =>
        cases x with
        | none =>
          have HE : Hid (rep t st.m = some (m, k)) := by show _ = _; rw [hE, rep_cut hd]; rfl
          have hR : decR (t.drop k) = (none, 0, 0) := by simp [decR, hd]
          rw [hR] at hD
          clear hE
          go_wp2_with (go_at_call 168; rw [hex.out]; refine (hD _).mono ?_; rintro e w1 ⟨v, rfl, hb1, hv⟩; obtain rfl : v = .slice none 0 0 := hv)
          go_ret2
          exact ⟨m, hTr.below hb1, kp_below kp hb1, .inl ⟨k, HE.out, rfl⟩⟩
        | some y =>
          obtain ⟨ops, n⟩ := y
          obtain ⟨k1, k2, k3, k4⟩ := decode_ok hd
          rw [hdl] at k3
          have hR : decR (t.drop k) = (some ops, n, 0) := by simp [decR, hd]
          rw [hR] at hD
          have HE : Hid (rep t st.m = (rep (t.drop (k + n)) (doAll m ops)).map fun x => (x.1, k + n + x.2)) := by
            show _ = _
            rw [hE, rep_step hd (by omega), List.drop_drop, Option.map_map]
            congr 1
            funext x
            simp [Nat.add_assoc]
          have hlen := doAll_len m ops
          have n0 : ((n : Int) == 0) = false := by simp; omega
          clear hE
          go_wp2_with (first
            | (go_at_call 168; rw [hex.out]; refine (hD _).mono ?_; rintro e w1 ⟨v, rfl, hb1, hv⟩; have hT1 := hTr.below hb1; obtain ⟨c0, c1, c2, c3, c4, _⟩ := cells5 hT1.raw; obtain ⟨q, cap, rfl, hopp, hqb⟩ := OwnO.opp hv)
            | (go_at_call 115; refine (do_any bm m q cap ops w1 hT1.map (by omega) (by omega) k1 hopp).mono ?_; rintro e w2 ⟨rfl, hm2, kp2⟩))
          go_roundw
          case rel =>
            refine ⟨k + n, doAll m ops, by omega, by go_num, ⟨kp2.at hT1.raw (fun e => hT1.map.ne hT1.raw e), hm2, hTr.ts, hTr.tm⟩, (kp_below kp hb1).trans kp2 (fun _ _ e => e), hmo.doAll k1, by omega, HE.out⟩
          case measure => simp [intOf]; omega
    · have HE : Hid (rep t st.m = some (m, k)) := by
        show _ = _
        rw [hE, List.drop_of_length_le (by omega)]
        rfl
      clear hE
      go_wp2
      go_ret2
      exact ⟨m, hTr, kp, .inl ⟨k, HE.out, rfl⟩⟩

end Go.Proofs.YtfghgmojnffgnaaGreat
