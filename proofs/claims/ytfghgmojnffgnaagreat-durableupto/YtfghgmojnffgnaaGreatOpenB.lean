/- The program's store: load and Open, whatever lies on the disk. -/
import Derived.Test.YtfghgmojnffgnaaGreatRewC
namespace Go.Proofs.YtfghgmojnffgnaaGreat
open Go.RowKit Go.Maps Go.Sort

set_option maxHeartbeats 1000000 in
set_option maxRecDepth 20000 in
theorem load_dead (bd bs : Nat) (d : Dk) (st : St) (U : Nat → Prop) (w : World) (hS : Sys w U bd bs d st) (hal : d.dead = true) :
    Calls Tryz.prog 79 #[.pointer (some ⟨bs, 0, none⟩)] w fun e w' => e = .returned (.int .i64 4) ∧ Below w.heap.size w w' := by
  obtain ⟨S, T, bm, u1, u2, u3, hP, hT⟩ := hS.ex
  have hN := dNames_dead bd d S w hP hal
  obtain ⟨c0, c1, c2, c3, c4, f0, f1, f2, f3, f4⟩ := cells5 hT.raw
  go_enter Tryz.func79, Tryz.ntmps79
  go_wp2_with (go_at_call 91; refine hN.mono ?_; rintro e w1 ⟨rfl, rfl⟩; clear hN)
  go_ret
  exact ⟨rfl, Below.refl _ _⟩

set_option maxHeartbeats 1000000 in
set_option maxRecDepth 20000 in
theorem load_bad (bd bs : Nat) (d : Dk) (st : St) (U : Nat → Prop) (w : World) (hS : Sys w U bd bs d st) (hok : d.Ok) (hfl : d.files.length ≤ 4194302) (hal : d.dead = false) (hour : (nmsOf d.files).all oursB = false) :
    Calls Tryz.prog 79 #[.pointer (some ⟨bs, 0, none⟩)] w fun e w' => e = .returned (.int .i64 5) ∧ Below w.heap.size w w' := by
  obtain ⟨S, T, bm, u1, u2, u3, hP, hT⟩ := hS.ex
  have hnl : (nmsOf d.files).length = d.files.length := nms_len d.files
  have hN := dNames_any bd d S w hP hok (by omega) hal
  obtain ⟨c0, c1, c2, c3, c4, f0, f1, f2, f3, f4⟩ := cells5 hT.raw
  generalize nmsOf d.files = NL at *
  have hour' : Hid (NL.all oursB = false) := hour
  clear hour
  go_enter Tryz.func79, Tryz.ntmps79
  go_wp2_with (first
    | (go_at_call 91; refine hN.mono ?_; rintro e w1 ⟨v, rfl, hb1, ho1⟩; clear hN)
    | (go_at_call 124; refine (areOurs_any v NL _ w1 ho1 (by omega)).mono ?_; rintro e w2 ⟨he, rfl⟩; rw [hour'.out] at he; subst he))
  go_ret
  exact ⟨rfl, hb1⟩

set_option maxHeartbeats 2000000 in
set_option maxRecDepth 20000 in
/-- A log that no store has written. -/
theorem load_broken (bd bs : Nat) (d : Dk) (st : St) (U : Nat → Prop) (w : World) (hS : Sys w U bd bs d st) (hok : d.Ok) (hfl : d.files.length ≤ 4194302) (hal : d.dead = false) (hour : (nmsOf d.files).all oursB = true) (f : Fl) (hf : getF logN d.files = some f) (hst : st.m = []) (hrep : rep f.bytes [] = none) :
    Calls Tryz.prog 79 #[.pointer (some ⟨bs, 0, none⟩)] w fun e w' => e = .returned (.int .i64 5) ∧ (∃ m5, Sys w' (Nw U w) bd bs d { st with m := m5 }) ∧ Kp U w w' := by
  obtain ⟨S, T, bm, u1, u2, u3, hP, hT⟩ := hS.ex
  have hnl : (nmsOf d.files).length = d.files.length := nms_len d.files
  have hN := dNames_any bd d S w hP hok (by omega) hal
  have hbl := bytes_le hok hf
  have hmem : logN ∈ nmsOf d.files := List.mem_map.2 ⟨_, getF_mem hf, rfl⟩
  have hUm := u2 _ hT.tm
  obtain ⟨c0, c1, c2, c3, c4, f0, f1, f2, f3, f4⟩ := cells5 hT.raw
  generalize nmsOf d.files = NL at *
  have hour' : Hid (NL.all oursB = true) := hour
  have hno' : Hid (decide (logN ∈ NL) = true) := by simpa [Hid] using hmem
  have hrd : d.read logN = (f.bytes, 0) := by simp [Dk.read, hal, hf]
  have hmok : MOk st.m := by rw [hst]; exact MOk.nil
  have hrp : ∀ w1, StAt w1 T bs bd bm st → Calls Tryz.prog 126 #[.pointer (some ⟨bs, 0, none⟩), str f.bytes] w1 fun e w' => e = .returned (.tuple #[.int .i64 0, .int .i64 5]) ∧ (∃ m5, StAt w' T bs bd bm { st with m := m5 }) ∧ Kp (fun i => i = bm) w1 w' := fun w1 hT1 =>
    (replay_any bs bd bm st T f.bytes w1 hT1 hmok hbl (by rw [hst]; rfl)).mono (by
      rintro e w5 ⟨m5, hT5, k5, (⟨n5, hr5, rfl⟩ | ⟨hr5, rfl⟩)⟩
      · rw [hst, hrep] at hr5; cases hr5
      · exact ⟨rfl, ⟨m5, hT5⟩, k5⟩)
  clear hour hmem
  go_enter Tryz.func79, Tryz.ntmps79
  go_wp2_with (first
    | (go_at_call 91; refine hN.mono ?_; rintro e w1 ⟨v, rfl, hb1, ho1⟩; clear hN; have hP1 := hP.below hb1; have hT1 := hT.below hb1; have hRd := dRead_any bd d logN S w1 hP1 (by decide); rw [hrd] at hRd; obtain ⟨g0, g1, g2, g3, g4, _⟩ := cells5 hT1.raw)
    | (go_at_call 124; refine (areOurs_any v NL _ w1 ho1 (by omega)).mono ?_; rintro e w2 ⟨he, rfl⟩; rw [hour'.out] at he; subst he)
    | (go_at_call 125; refine (contains_any v NL logN _ _ ho1 (by omega)).mono ?_; rintro e w3 ⟨he, rfl⟩; rw [hno'.out] at he; subst he)
    | (go_at_call 89; refine hRd.mono ?_; rintro e w4 ⟨rfl, rfl⟩; clear hRd)
    | (go_at_call 126; refine (hrp _ hT1).mono ?_; rintro e w5 ⟨rfl, ⟨m5, hT5⟩, k5⟩))
  go_ret
  refine ⟨rfl, ⟨m5, (Sys.of u1 u2 u3 (hP1.kept k5 (fun i s e => by rw [e] at s; exact u3 _ s hT1.tm)) hT5).mono (fun _ _ s => .inl s)⟩, (kp_below (Kp.refl U w) hb1).trans k5 (fun i _ e => by rw [e]; exact hUm)⟩

set_option maxHeartbeats 2000000 in
set_option maxRecDepth 20000 in
/-- A log whose end is cut off. -/
theorem load_cut (bd bs : Nat) (d : Dk) (st : St) (U : Nat → Prop) (w : World) (hS : Sys w U bd bs d st) (hok : d.Ok) (hfl : d.files.length ≤ 3000000) (hal : d.dead = false) (hour : (nmsOf d.files).all oursB = true) (f : Fl) (hf : getF logN d.files = some f) (hst : st.m = []) (m' : Mp) (n : Nat) (hrep : rep f.bytes [] = some (m', n)) (hlt : n < f.bytes.length) :
    Calls Tryz.prog 79 #[.pointer (some ⟨bs, 0, none⟩)] w fun e w' => e = .returned (.int .i64 (rewriteX d m').1) ∧ Sys w' (Nw U w) bd bs (rewriteX d m').2 { st with m := m' } ∧ Kp U w w' := by
  obtain ⟨S, T, bm, u1, u2, u3, hP, hT⟩ := hS.ex
  have hnl : (nmsOf d.files).length = d.files.length := nms_len d.files
  have hN := dNames_any bd d S w hP hok (by omega) hal
  have hbl := bytes_le hok hf
  have hmem : logN ∈ nmsOf d.files := List.mem_map.2 ⟨_, getF_mem hf, rfl⟩
  have hUm := u2 _ hT.tm
  obtain ⟨hmo, _, hm2⟩ := replay_ok _ _ _ _ _ hrep MOk.nil
  simp only [List.length_nil, Nat.mul_zero, Nat.zero_add] at hm2
  obtain ⟨c0, c1, c2, c3, c4, f0, f1, f2, f3, f4⟩ := cells5 hT.raw
  generalize nmsOf d.files = NL at *
  have hour' : Hid (NL.all oursB = true) := hour
  have hno' : Hid (decide (logN ∈ NL) = true) := by simpa [Hid] using hmem
  have hrd : d.read logN = (f.bytes, 0) := by simp [Dk.read, hal, hf]
  have hmok : MOk st.m := by rw [hst]; exact MOk.nil
  have hrp : ∀ w1, StAt w1 T bs bd bm st → Calls Tryz.prog 126 #[.pointer (some ⟨bs, 0, none⟩), str f.bytes] w1 fun e w' => e = .returned (.tuple #[.int .i64 n, .int .i64 0]) ∧ StAt w' T bs bd bm { st with m := m' } ∧ Kp (fun i => i = bm) w1 w' := fun w1 hT1 =>
    (replay_any bs bd bm st T f.bytes w1 hT1 hmok hbl (by rw [hst]; rfl)).mono (by
      rintro e w5 ⟨m5, hT5, k5, (⟨n5, hr5, rfl⟩ | ⟨hr5, _⟩)⟩
      · rw [hst, hrep] at hr5
        obtain ⟨rfl, rfl⟩ : m' = m5 ∧ n = n5 := by simpa using hr5
        exact ⟨rfl, hT5, k5⟩
      · rw [hst, hrep] at hr5; cases hr5)
  clear hour hmem
  go_enter Tryz.func79, Tryz.ntmps79
  go_wp2_with (first
    | (go_at_call 91; refine hN.mono ?_; rintro e w1 ⟨v, rfl, hb1, ho1⟩; clear hN; have hP1 := hP.below hb1; have hT1 := hT.below hb1; have hRd := dRead_any bd d logN S w1 hP1 (by decide); rw [hrd] at hRd; obtain ⟨g0, g1, g2, g3, g4, _⟩ := cells5 hT1.raw)
    | (go_at_call 124; refine (areOurs_any v NL _ w1 ho1 (by omega)).mono ?_; rintro e w2 ⟨he, rfl⟩; rw [hour'.out] at he; subst he)
    | (go_at_call 125; refine (contains_any v NL logN _ _ ho1 (by omega)).mono ?_; rintro e w3 ⟨he, rfl⟩; rw [hno'.out] at he; subst he)
    | (go_at_call 89; refine hRd.mono ?_; rintro e w4 ⟨rfl, rfl⟩; clear hRd)
    | (go_at_call 126; refine (hrp _ hT1).mono ?_; rintro e w5 ⟨rfl, hT5, k5⟩; have hS5 : Sys w5 U bd bs d { st with m := m' } := Sys.of u1 u2 u3 (hP1.kept k5 (fun i s e => by rw [e] at s; exact u3 _ s hT1.tm)) hT5)
    | (go_at_call 127; refine (rewrite_any bd bs d { st with m := m' } U w5 hS5 hok hfl hmo (by show m'.length ≤ _; omega)).mono ?_; rintro e w6 ⟨rfl, hS6, k6⟩))
  go_ret
  refine ⟨rfl, hS6.mono (fun _ _ s => s.imp id (fun h => Nat.le_trans (Nat.le_trans hb1.size k5.size) h)), ((kp_below (Kp.refl U w) hb1).trans k5 (fun i _ e => by rw [e]; exact hUm)).trans k6 (fun _ _ s => s)⟩

end Go.Proofs.YtfghgmojnffgnaaGreat

/- The program's store: Open, whatever lies on the disk, and whatever it answers. -/
namespace Go.Proofs.YtfghgmojnffgnaaGreat
open Go.RowKit Go.Maps Go.Sort

/-- What store.Open answers: a store, or an error. -/
def OpenP (bd : Nat) (S : Nat → Prop) (w : World) (d2 : Dk) (eL : Int) (G : St → Prop) (e : Ending) (w' : World) : Prop :=
  Kp S w w' ∧ ((d2.dead = false ∧ eL = 0 ∧ ∃ bs st2, e = .returned (.tuple #[.pointer (some ⟨bs, 0, none⟩), .int .i64 0]) ∧ G st2 ∧ Sys w' (Nw S w) bd bs d2 st2) ∨
    ((if d2.dead then 4 else eL) ≠ 0 ∧ e = .returned (.tuple #[.pointer none, .int .i64 (if d2.dead then 4 else eL)]) ∧ ProgAt w' (Nw S w) bd d2))

theorem getF_none_not {α : Type} {n : Nm} : ∀ {fs : List (Nm × α)}, getF n fs = none → ∀ x ∈ fs, x.1 ≠ n
  | [], _, x, hx => by cases hx
  | y :: r, h, x, hx => by
    simp only [getF] at h
    split at h
    · cases h
    · rename_i hne
      rcases List.mem_cons.1 hx with rfl | hx
      · exact hne
      · exact getF_none_not h x hx

set_option maxHeartbeats 2000000 in
set_option maxRecDepth 20000 in
theorem sOpen_gen (bd : Nat) (d : Dk) (p : Int) (S : Nat → Prop) (w : World) (hP : ProgAt w S bd d) (ht0 : 0 ≤ d.turn) (ht1 : d.turn ≤ 4611686018427387904) (hp0 : 0 ≤ p) (hp2 : p ≤ 2) (eL : Int) (d2 : Dk) (G : St → Prop)
    (hL : ∀ w1, ProgAt w1 S bd { d with turn := d.turn + 1 } → Calls Tryz.prog 79 #[.pointer (some ⟨w1.heap.size + 1, 0, none⟩)] (opened w1 bd (d.turn + 1)) fun e w' => e = .returned (.int .i64 eL) ∧ (∃ st2, G st2 ∧ Sys w' (Nw (Nw S w1) (opened w1 bd (d.turn + 1))) bd (w1.heap.size + 1) d2 st2) ∧ Kp (Nw S w1) (opened w1 bd (d.turn + 1)) w') :
    Calls Tryz.prog 42 #[.pointer (some ⟨bd, 0, none⟩), .int .i64 p] w (OpenP bd S w d2 eL G) := by
  have hTk := dTake_any bd d S w hP ht0 ht1
  obtain ⟨dm, dr, df, hd, hsd⟩ := hP.raw
  have hmm := @run_makeMap Tryz.prog
  have hfin : ∀ (w1 w2 : World) (st2 : St), Kp (fun i => i = bd) w w1 → Sys w2 (Nw (Nw S w1) (opened w1 bd (d.turn + 1))) bd (w1.heap.size + 1) d2 st2 → Kp (Nw S w1) (opened w1 bd (d.turn + 1)) w2 → Sys w2 (Nw S w) bd (w1.heap.size + 1) d2 st2 ∧ Kp S w w2 := fun w1 w2 st2 k1 hS2 k2 => by
    have hs1 := k1.size
    have hs2 := k2.size
    simp only [World.size_alloc] at hs2
    refine ⟨hS2.mono (fun k hk s => ?_), ?_⟩
    · rcases s with (s | s) | s
      · exact .inl s
      · exact .inr (Nat.le_trans hs1 s)
      · simp only [World.size_alloc] at s; exact .inr (by omega)
    · refine (((k1.mono (T := S) (fun i e => by rw [e]; exact hsd)).alloc _).alloc _).trans k2 (fun i hi s => ?_)
      rcases s with s | s
      · exact s
      · omega
  cases hal : d2.dead
  · by_cases hz : eL = 0
    · subst hz
      go_enter Tryz.func42, Tryz.ntmps42
      go_wp2_with (first
        | (go_at_call 78; refine hTk.mono ?_; rintro e w1 ⟨rfl, hP1, k1⟩; clear hTk)
        | (go_at_call 79; refine (hL w1 hP1).mono ?_; rintro e w2 ⟨rfl, ⟨st2, hG, hS2⟩, k2⟩; obtain ⟨m2, r2, f2, hd2⟩ := hS2.disk; rw [hal] at hd2)
        | (go_at_call 71; refine (isDead_any hd2).mono ?_; rintro e w3 ⟨rfl, rfl⟩))
      go_ret2
      obtain ⟨a, b⟩ := hfin _ _ _ k1 hS2 k2
      exact ⟨b, .inl ⟨hal, rfl, _, _, rfl, hG, a⟩⟩
    · have hz' : Hid (eL ≠ 0) := hz
      go_enter Tryz.func42, Tryz.ntmps42
      go_wp2_with (first
        | (go_at_call 78; refine hTk.mono ?_; rintro e w1 ⟨rfl, hP1, k1⟩; clear hTk)
        | (go_at_call 79; refine (hL w1 hP1).mono ?_; rintro e w2 ⟨rfl, ⟨st2, hG, hS2⟩, k2⟩; obtain ⟨m2, r2, f2, hd2⟩ := hS2.disk; rw [hal] at hd2)
        | (go_at_call 71; refine (isDead_any hd2).mono ?_; rintro e w3 ⟨rfl, rfl⟩))
      go_ret2
      obtain ⟨a, b⟩ := hfin _ _ _ k1 hS2 k2
      obtain ⟨S', T', bm', v1, _, _, hP', _⟩ := a.ex
      exact ⟨b, .inr ⟨by rw [hal]; exact hz'.out, by rw [hal]; rfl, hP'.mono (fun k _ s => v1 k s)⟩⟩
  · go_enter Tryz.func42, Tryz.ntmps42
    go_wp2_with (first
      | (go_at_call 78; refine hTk.mono ?_; rintro e w1 ⟨rfl, hP1, k1⟩; clear hTk)
      | (go_at_call 79; refine (hL w1 hP1).mono ?_; rintro e w2 ⟨rfl, ⟨st2, hG, hS2⟩, k2⟩; obtain ⟨m2, r2, f2, hd2⟩ := hS2.disk; rw [hal] at hd2)
      | (go_at_call 71; refine (isDead_any hd2).mono ?_; rintro e w3 ⟨rfl, rfl⟩))
    go_ret2
    obtain ⟨a, b⟩ := hfin _ _ _ k1 hS2 k2
    obtain ⟨S', T', bm', v1, _, _, hP', _⟩ := a.ex
    exact ⟨b, .inr ⟨by rw [hal]; simp, by rw [hal]; rfl, hP'.mono (fun k _ s => v1 k s)⟩⟩

/-- What load answers, the disk that it leaves, and the map that it finds. -/
def loadX (d : Dk) : Int × Dk × Mp :=
  if d.dead then (4, d, []) else if (nmsOf d.files).all oursB = false then (5, d, []) else
  match getF logN d.files with
  | none => (0, d, [])
  | some f => match rep f.bytes [] with
    | none => (5, d, [])
    | some (m, n) => if n < f.bytes.length then ((rewriteX d m).1, (rewriteX d m).2, m) else ((secureX d ⟨d.turn, m, false, false⟩ f.bytes.length).1, (secureX d ⟨d.turn, m, false, false⟩ f.bytes.length).2.1, m)

theorem secureX_st (d : Dk) (st : St) (n : Nat) : (secureX d st n).2.2.m = st.m ∧ (secureX d st n).2.2.turn = st.turn ∧ (secureX d st n).2.2.stuck = st.stuck := by
  unfold secureX syncX
  split
  · exact ⟨rfl, rfl, rfl⟩
  · split
    · exact ⟨rfl, rfl, rfl⟩
    · split
      · exact ⟨rfl, rfl, rfl⟩
      · split <;> exact ⟨rfl, rfl, rfl⟩
theorem rep_len {t : List UInt8} {m : Mp} {n : Nat} (h : rep t [] = some (m, n)) : MOk m ∧ n ≤ t.length ∧ 2 * m.length ≤ n := by
  obtain ⟨h1, h2, h3⟩ := replay_ok _ _ _ _ _ h MOk.nil
  simp only [List.length_nil, Nat.mul_zero, Nat.zero_add] at h3
  exact ⟨h1, h2, h3⟩

/-- A store that was just read. -/
def Fit (t : Int) (m : Mp) (e : Int) (st : St) : Prop := st.turn = t ∧ st.stuck = false ∧ (e = 0 → st.m = m)

theorem load_any (bd bs : Nat) (d : Dk) (U : Nat → Prop) (w : World) (hS : Sys w U bd bs d (newSt d.turn)) (hok : d.Ok) (hfl : d.files.length ≤ 3000000) :
    Calls Tryz.prog 79 #[.pointer (some ⟨bs, 0, none⟩)] w fun e w' => e = .returned (.int .i64 (loadX d).1) ∧ (∃ st2, Fit d.turn (loadX d).2.2 (loadX d).1 st2 ∧ Sys w' (Nw U w) bd bs (loadX d).2.1 st2) ∧ Kp U w w' := by
  cases hd : d.dead
  · cases ho : (nmsOf d.files).all oursB
    · have e : loadX d = (5, d, []) := by simp [loadX, hd, ho]
      rw [e]
      refine (load_bad bd bs d _ U w hS hok (by omega) hd ho).mono ?_
      rintro e w' ⟨rfl, hb⟩
      exact ⟨rfl, ⟨_, ⟨rfl, rfl, fun h => by cases h⟩, (hS.below hb).mono (fun _ _ s => .inl s)⟩, Kp.of_below hb⟩
    · cases hf : getF logN d.files with
      | none =>
        have e : loadX d = (0, d, []) := by simp [loadX, hd, ho, hf]
        have hno : logN ∉ nmsOf d.files := fun h => by
          obtain ⟨x, hx, e⟩ := List.mem_map.1 h
          have := getF_none_not hf x hx
          exact this e
        rw [e]
        refine (load_none bd bs d _ U w hS hok (by omega) hd ho hno).mono ?_
        rintro e w' ⟨rfl, hb⟩
        exact ⟨rfl, ⟨_, ⟨rfl, rfl, fun _ => rfl⟩, (hS.below hb).mono (fun _ _ s => .inl s)⟩, Kp.of_below hb⟩
      | some f =>
        cases hr : rep f.bytes [] with
        | none =>
          have e : loadX d = (5, d, []) := by simp [loadX, hd, ho, hf, hr]
          rw [e]
          refine (load_broken bd bs d _ U w hS hok (by omega) hd ho f hf rfl hr).mono ?_
          rintro e w' ⟨rfl, ⟨m5, h5⟩, k⟩
          exact ⟨rfl, ⟨_, ⟨rfl, rfl, fun h => by cases h⟩, h5⟩, k⟩
        | some x =>
          obtain ⟨m, n⟩ := x
          by_cases hlt : n < f.bytes.length
          · have e : loadX d = ((rewriteX d m).1, (rewriteX d m).2, m) := by simp [loadX, hd, ho, hf, hr, hlt]
            rw [e]
            refine (load_cut bd bs d _ U w hS hok hfl hd ho f hf rfl m n hr hlt).mono ?_
            rintro e w' ⟨rfl, h5, k⟩
            exact ⟨rfl, ⟨_, ⟨rfl, rfl, fun _ => rfl⟩, h5⟩, k⟩
          · have e : loadX d = ((secureX d ⟨d.turn, m, false, false⟩ f.bytes.length).1, (secureX d ⟨d.turn, m, false, false⟩ f.bytes.length).2.1, m) := by simp [loadX, hd, ho, hf, hr, hlt]
            have hn : n = f.bytes.length := by have := (rep_len hr).2.1; omega
            rw [e]
            refine (load_log bd bs d _ U w hS hok (by omega) hd ho f hf rfl m (by rw [hr, hn])).mono ?_
            rintro e w' ⟨rfl, h5, k⟩
            obtain ⟨s1, s2, s3⟩ := secureX_st d { newSt d.turn with m := m } f.bytes.length
            exact ⟨rfl, ⟨_, ⟨s2, s3, fun _ => s1⟩, h5⟩, k⟩
  · have e : loadX d = (4, d, []) := by simp [loadX, hd]
    rw [e]
    refine (load_dead bd bs d _ U w hS hd).mono ?_
    rintro e w' ⟨rfl, hb⟩
    exact ⟨rfl, ⟨_, ⟨rfl, rfl, fun h => by cases h⟩, (hS.below hb).mono (fun _ _ s => .inl s)⟩, Kp.of_below hb⟩

end Go.Proofs.YtfghgmojnffgnaaGreat

/- The program's Open, whatever lies on the disk; a disk on which no fuse burns. -/
namespace Go.Proofs.YtfghgmojnffgnaaGreat
open Go.RowKit Go.Maps Go.Sort

def turned (d : Dk) : Dk := { d with turn := d.turn + 1 }
theorem turned_ok {d : Dk} (h : d.Ok) : (turned d).Ok := ⟨h.quota, h.used, h.left0, h.left1, h.safe, h.rise, h.name⟩
/-- What Open answers, the disk that it leaves, and the store's map. -/
def openX (d : Dk) : Int × Dk × Mp := (if (loadX (turned d)).2.1.dead then 4 else (loadX (turned d)).1, (loadX (turned d)).2.1, (loadX (turned d)).2.2)

theorem sOpen_any (bd : Nat) (d : Dk) (p : Int) (S : Nat → Prop) (w : World) (hP : ProgAt w S bd d) (hok : d.Ok) (hfl : d.files.length ≤ 3000000) (ht0 : 0 ≤ d.turn) (ht1 : d.turn ≤ 4611686018427387904) (hp0 : 0 ≤ p) (hp2 : p ≤ 2) :
    Calls Tryz.prog 42 #[.pointer (some ⟨bd, 0, none⟩), .int .i64 p] w (OpenP bd S w (loadX (turned d)).2.1 (loadX (turned d)).1 (Fit (d.turn + 1) (loadX (turned d)).2.2 (loadX (turned d)).1)) :=
  sOpen_gen bd d p S w hP ht0 ht1 hp0 hp2 _ _ _ (fun _ hP1 => load_any bd _ (turned d) _ _ (sys_new hP1) (turned_ok hok) hfl)

def OpenQ (bx : Nat) (S : Nat → Prop) (w : World) (d : Dk) (e : Ending) (w' : World) : Prop :=
  Kp S w w' ∧ (((openX d).1 = 0 ∧ ∃ bz st2, e = .returned (.tuple #[.pointer (some ⟨bz, 0, none⟩), .int .i64 0]) ∧ Shop w' (Nw S w) bx bz (openX d).2.1 st2 ∧ st2.turn = d.turn + 1 ∧ st2.stuck = false ∧ st2.m = (openX d).2.2) ∨
    ((openX d).1 ≠ 0 ∧ e = .returned (.tuple #[.pointer none, .int .i64 (openX d).1]) ∧ XAt w' (Nw S w) bx (openX d).2.1))

set_option maxHeartbeats 1000000 in
theorem xOpen_any (bx : Nat) (d : Dk) (p : Int) (S : Nat → Prop) (w : World) (hX : XAt w S bx d) (hok : d.Ok) (hfl : d.files.length ≤ 3000000) (ht0 : 0 ≤ d.turn) (ht1 : d.turn ≤ 4611686018427387904) (hp0 : 0 ≤ p) (hp2 : p ≤ 2) :
    Calls Tryz.prog 21 #[.pointer (some ⟨bx, 0, none⟩), .int .i64 p] w (OpenQ bx S w d) := by
  obtain ⟨bd, h1, h2, hP⟩ := hX
  have hO := sOpen_any bd d p _ w hP hok hfl ht0 ht1 hp0 hp2
  obtain ⟨c0, z0⟩ := cells1 h1
  go_enter Tryz.func21, Tryz.ntmps21
  go_wp2_with (go_at_call 42; refine hO.mono ?_)
  rintro e w1 ⟨k, (⟨ha, hz, bs, st2, rfl, ⟨g1, g2, g3⟩, hS⟩ | ⟨hne, rfl, hP'⟩)⟩
  · go_wp2
    go_ret2
    obtain ⟨a, b⟩ := shop_new h1 h2 hS k
    exact ⟨b, .inl ⟨by simp [openX, ha, hz], _, st2, rfl, a, g1, g2, g3 hz⟩⟩
  · have hne' : Hid ((openX d).1 ≠ 0) := hne
    have HE : Hid ((if (loadX (turned d)).2.1.dead then 4 else (loadX (turned d)).1) = (openX d).1) := rfl
    rw [HE.out] at hne ⊢
    generalize hR : (openX d).1 = R at *
    go_wp2
    go_ret2
    obtain ⟨a, b⟩ := x_step h1 h2 hP' k
    exact ⟨b, .inr ⟨by rw [hR]; exact hne'.out, by rw [hR]; rfl, a⟩⟩

end Go.Proofs.YtfghgmojnffgnaaGreat

/- A disk on which no fuse burns: plain mathematics. -/
namespace Go.Proofs.YtfghgmojnffgnaaGreat
open Go.RowKit Go.Maps Go.Sort

structure Calm (d : Dk) : Prop where
  ok : d.Ok
  alive : d.dead = false
  left : d.left = -1
def hasF (n : Nm) (d : Dk) : Prop := (getF n d.files).isSome = true
theorem getF_upd {α : Type} (n : Nm) (f : α → α) : ∀ fs : List (Nm × α), getF n (upd n f fs) = (getF n fs).map f
  | [] => rfl
  | x :: r => by
    have ih := getF_upd n f r
    unfold upd at ih ⊢
    simp only [List.map_cons]
    by_cases h : x.1 = n
    · rw [if_pos h]; simp [getF, h]
    · rw [if_neg h]; simp only [getF]; rw [if_neg h, if_neg h]; exact ih
theorem Calm.burn {d : Dk} (h : Calm d) : d.burn.left = -1 ∧ d.burn.dead = false := by
  constructor
  · show max (d.left - 1) (-1) = -1
    rw [h.left]; rfl
  · exact h.alive
theorem Calm.write {d : Dk} (h : Calm d) (n : Nm) (c : List UInt8) : Calm (d.write n c).2 ∧ (d.write n c).2.turn = d.turn ∧ ((d.write n c).1 = 0 ∧ hasF n (d.write n c).2 ∨ (d.write n c).1 = 1 ∧ nameOk n = false ∨ (d.write n c).1 = 3) ∧ (hasF n d → hasF n (d.write n c).2) := by
  have hk := (write_ok h.ok n c).1
  unfold Dk.write at hk ⊢
  rw [if_neg (by simp [h.alive])] at hk ⊢
  by_cases h1 : nameOk n = false
  · rw [if_pos h1] at hk ⊢; exact ⟨h, rfl, .inr (.inl ⟨rfl, h1⟩), id⟩
  rw [if_neg h1] at hk ⊢
  by_cases h2 : d.quota < used d.files + c.length
  · rw [if_pos h2] at hk ⊢; exact ⟨h, rfl, .inr (.inr rfl), id⟩
  rw [if_neg h2, if_neg (by simp [h.left])] at hk ⊢
  have hh : hasF n { d.burn with files := if (getF n d.files).isSome then upd n (addB c) d.files else ins (n, ⟨c, 0⟩) d.files } := by
    unfold hasF
    simp only
    split
    · rename_i e; rw [getF_upd]; simpa using e
    · rename_i e
      rw [getF_ins h.ok.rise (by simpa using e)]
      rfl
  exact ⟨⟨hk, h.burn.2, h.burn.1⟩, rfl, .inl ⟨rfl, hh⟩, fun _ => hh⟩
theorem Calm.remove {d : Dk} (h : Calm d) (n : Nm) : Calm (d.remove n).2 ∧ (d.remove n).2.turn = d.turn := by
  have hk := (remove_ok h.ok n).1
  unfold Dk.remove at hk ⊢
  rw [if_neg (by simp [h.alive])] at hk ⊢
  by_cases h1 : (getF n d.files).isNone
  · rw [if_pos h1] at hk ⊢; exact ⟨h, rfl⟩
  rw [if_neg h1, if_neg (by simp [h.left])] at hk ⊢
  exact ⟨⟨hk, h.burn.2, h.burn.1⟩, rfl⟩
theorem Calm.sync {d : Dk} (h : Calm d) {n : Nm} (hn : hasF n d) : (d.sync n).1 = 0 ∧ Calm (d.sync n).2 ∧ (d.sync n).2.turn = d.turn ∧ hasF n (d.sync n).2 := by
  have hk := (sync_ok h.ok n).1
  unfold Dk.sync at hk ⊢
  rw [if_neg (by simp [h.alive]), if_neg (by unfold hasF at hn; simpa [Option.isNone_iff_eq_none, Option.isSome_iff_ne_none] using hn), if_neg (by simp [h.left])] at hk ⊢
  refine ⟨rfl, ⟨hk, h.burn.2, h.burn.1⟩, rfl, ?_⟩
  unfold hasF at hn ⊢
  simp only
  rw [getF_upd]
  simpa using hn
theorem Calm.rename {d : Dk} (h : Calm d) {n m : Nm} (hn : hasF n d) (hm : nameOk m = true) : (d.rename n m).1 = 0 ∧ Calm (d.rename n m).2 ∧ (d.rename n m).2.turn = d.turn := by
  have hk := (rename_ok h.ok n m).1
  obtain ⟨f, hf⟩ := Option.isSome_iff_exists.1 hn
  unfold Dk.rename at hk ⊢
  rw [if_neg (by simp [h.alive]), if_neg (by simp [hm]), hf] at hk ⊢
  simp only at hk ⊢
  rw [if_neg (by simp [h.left])] at hk ⊢
  exact ⟨rfl, ⟨hk, h.burn.2, h.burn.1⟩, rfl⟩
theorem newName : nameOk newN = true := by decide
theorem Calm.put : ∀ (bs : List (List Ox)) {d : Dk}, Calm d → hasF newN d → ((putAll d bs).1 = 0 ∨ (putAll d bs).1 = 3) ∧ Calm (putAll d bs).2 ∧ (putAll d bs).2.turn = d.turn ∧ hasF newN (putAll d bs).2
  | [], _, h, hn => ⟨.inl rfl, h, rfl, hn⟩
  | b :: r, d, h, hn => by
    obtain ⟨h1, h2, h3, h4⟩ := h.write newN (encode b)
    simp only [putAll]
    by_cases e : (d.write newN (encode b)).1 = 0
    · rw [if_pos e]
      obtain ⟨k1, k2, k3, k4⟩ := Calm.put r h1 (h4 hn)
      exact ⟨k1, k2, k3.trans h2, k4⟩
    · rw [if_neg e]
      refine ⟨?_, h1, h2, h4 hn⟩
      rcases h3 with ⟨h3, _⟩ | ⟨_, h3⟩ | h3
      · exact .inl h3
      · rw [newName] at h3; cases h3
      · exact .inr h3
theorem Calm.beg {d : Dk} (h : Calm d) (bs : List (List Ox)) : ((begW d bs).1 = 0 ∨ (begW d bs).1 = 3) ∧ Calm (begW d bs).2 ∧ (begW d bs).2.turn = d.turn := by
  obtain ⟨h1, h2, h3, h4⟩ := h.write newN []
  unfold begW
  by_cases e : (d.write newN []).1 = 0
  · rw [if_pos e]
    have hn : hasF newN (d.write newN []).2 := by
      rcases h3 with ⟨_, h3⟩ | ⟨h3, _⟩ | h3
      · exact h3
      · rw [e] at h3; cases h3
      · rw [e] at h3; cases h3
    obtain ⟨k1, k2, k3, k4⟩ := Calm.put bs h1 hn
    unfold midW
    by_cases e2 : (putAll (d.write newN []).2 bs).1 = 0
    · rw [if_pos e2]
      obtain ⟨s1, s2, s3, s4⟩ := k2.sync k4
      unfold finW
      rw [if_pos s1]
      obtain ⟨r1, r2, r3⟩ := s2.rename s4 logName
      exact ⟨.inl r1, r2, r3.trans (s3.trans (k3.trans h2))⟩
    · rw [if_neg e2]; exact ⟨k1, k2, k3.trans h2⟩
  · rw [if_neg e]
    refine ⟨?_, h1, h2⟩
    rcases h3 with ⟨h3, _⟩ | ⟨_, h3⟩ | h3
    · exact .inl h3
    · rw [newName] at h3; cases h3
    · exact .inr h3
theorem Calm.rewrite {d : Dk} (h : Calm d) (m : Mp) : ((rewriteX d m).1 = 0 ∨ (rewriteX d m).1 = 3) ∧ Calm (rewriteX d m).2 ∧ (rewriteX d m).2.turn = d.turn := by
  obtain ⟨h1, h2⟩ := h.remove newN
  obtain ⟨k1, k2, k3⟩ := h1.beg (chunksOf (opsOf m))
  obtain ⟨r1, r2⟩ := k2.remove newN
  exact ⟨k1, r1, r2.trans (k3.trans h2)⟩
theorem Calm.secure {d : Dk} (h : Calm d) (hn : hasF logN d) (m : Mp) (n : Nat) : (secureX d ⟨d.turn, m, false, false⟩ n).1 = 0 ∧ Calm (secureX d ⟨d.turn, m, false, false⟩ n).2.1 ∧ (secureX d ⟨d.turn, m, false, false⟩ n).2.1.turn = d.turn := by
  obtain ⟨f, hf⟩ := Option.isSome_iff_exists.1 hn
  have hs : d.safe logN = (f.safe, 0) := by simp [Dk.safe, h.alive, hf]
  rw [secureX_ok hs]
  obtain ⟨s1, s2, s3, s4⟩ := h.sync hn
  by_cases hlt : f.safe < n
  · rw [syncX_loose (d := d) (st := { turn := d.turn, m := m, loose := decide (f.safe < n), stuck := false }) (d2 := (d.sync logN).2) h.alive rfl rfl (by simpa using hlt) (by rw [← s1])]
    exact ⟨rfl, s2, s3⟩
  · rw [syncX_tight (d := d) (st := { turn := d.turn, m := m, loose := decide (f.safe < n), stuck := false }) h.alive rfl rfl (by simpa using hlt)]
    exact ⟨rfl, h, rfl⟩
theorem Calm.load {d : Dk} (h : Calm d) : ((loadX d).1 = 0 ∨ (loadX d).1 = 3 ∨ (loadX d).1 = 5) ∧ Calm (loadX d).2.1 ∧ (loadX d).2.1.turn = d.turn ∧ MOk (loadX d).2.2 ∧ (loadX d).2.2.length ≤ 524288 := by
  unfold loadX
  rw [if_neg (by simp [h.alive])]
  split
  · exact ⟨.inr (.inr rfl), h, rfl, MOk.nil, by simp⟩
  split
  · exact ⟨.inl rfl, h, rfl, MOk.nil, by simp⟩
  rename_i f hf
  split
  · exact ⟨.inr (.inr rfl), h, rfl, MOk.nil, by simp⟩
  rename_i m n hr
  obtain ⟨r1, r2, r3⟩ := rep_len hr
  have hbl := bytes_le h.ok hf
  split
  · obtain ⟨k1, k2, k3⟩ := h.rewrite m
    exact ⟨k1.imp id .inl, k2, k3, r1, by show m.length ≤ _; omega⟩
  · obtain ⟨k1, k2, k3⟩ := h.secure (by unfold hasF; rw [hf]; rfl) m f.bytes.length
    exact ⟨.inl k1, k2, k3, r1, by show m.length ≤ _; omega⟩
theorem Calm.open {d : Dk} (h : Calm d) : ((openX d).1 = 0 ∨ (openX d).1 = 3 ∨ (openX d).1 = 5) ∧ Calm (openX d).2.1 ∧ (openX d).2.1.turn = d.turn + 1 ∧ MOk (openX d).2.2 ∧ (openX d).2.2.length ≤ 524288 := by
  have ht : Calm (turned d) := ⟨turned_ok h.ok, h.alive, h.left⟩
  obtain ⟨h1, h2, h3, h4, h5⟩ := ht.load
  have e : openX d = ((loadX (turned d)).1, (loadX (turned d)).2.1, (loadX (turned d)).2.2) := by unfold openX; rw [h2.alive]; simp
  rw [e]
  exact ⟨h1, h2, h3, h4, h5⟩

theorem xScan_shop (bx bz : Nat) (d : Dk) (st : St) (U : Nat → Prop) (lim : Int) (w : World) (hS : Shop w U bx bz d st) (hm : MOk st.m) (hl : st.m.length ≤ 4194304) (hr : ready d.turn d.dead st = 0) (hl0 : 0 ≤ lim) (hl1 : lim ≤ 9223372036854775807) :
    Calls Tryz.prog 40 #[.pointer (some ⟨bz, 0, none⟩), str [], str [], .int .i64 lim] w fun e w' => ∃ v, e = .returned (.tuple #[v, .int .i64 0]) ∧ Below w.heap.size w w' ∧ OwnP w' w.heap.size v (st.m.take lim.toNat) := by
  obtain ⟨bd, bs, h1, h2, h3, h4, h5⟩ := hS.ex
  obtain ⟨S, T, bm, u1, u2, u3, hP, hT⟩ := h5.ex
  obtain ⟨dm, dr, df, hd, hsd⟩ := hP.raw
  have hsc := xScan_ok h2 hT hd hr [] [] lim hl0 hl1 hm.rise (fun x hx => by
    have a := hm.key x hx
    have b := hm.val x hx
    simp only [keyOk, Bool.and_eq_true, decide_eq_true_eq] at a
    omega) hl
  rw [range_all] at hsc
  exact hsc

end Go.Proofs.YtfghgmojnffgnaaGreat
