/- The program's store: Open, whatever lies on the disk, and whatever it answers. -/
import Derived.Test.YtfghgmojnffgnaaOpenB
namespace Go.Proofs.Ytfghgmojnffgnaa
open Go.RowKit Go.Maps Go.Sort

/-- What store.Open answers: a store, or an error. -/
def OpenP (bd : Nat) (S : Nat → Prop) (w : World) (d2 : Dk) (eL : Int) (G : St → Prop) (e : Ending) (w' : World) : Prop :=
  Kp S w w' ∧ ((d2.dead = false ∧ eL = 0 ∧ ∃ bs st2, e = .returned (.tuple #[.pointer (some ⟨bs, 0, none⟩), .int .i64 0]) ∧ G st2 ∧ Sys w' (Nw S w) bd bs d2 st2) ∨
    ((if d2.dead then 4 else eL) ≠ 0 ∧ e = .returned (.tuple #[.pointer none, .int .i64 (if d2.dead then 4 else eL)]) ∧ ProgAt w' (Nw S w) bd d2))

theorem getF_none_not {α : Type} {n : Nm} : ∀ {fs : List (Nm × α)}, getF n fs = none → ∀ x ∈ fs, x.1 ≠ n
  | [], _, x, hx => by cases hx
  | y :: r, h, x, hx => by
    simp only [getF] at h
    split at h
    · cases h
    · rename_i hne
      rcases List.mem_cons.1 hx with rfl | hx
      · exact hne
      · exact getF_none_not h x hx

set_option maxHeartbeats 2000000 in
set_option maxRecDepth 20000 in
theorem sOpen_gen (bd : Nat) (d : Dk) (p : Int) (S : Nat → Prop) (w : World) (hP : ProgAt w S bd d) (ht0 : 0 ≤ d.turn) (ht1 : d.turn ≤ 4611686018427387904) (hp0 : 0 ≤ p) (hp2 : p ≤ 2) (eL : Int) (d2 : Dk) (G : St → Prop)
    (hL : ∀ w1, ProgAt w1 S bd { d with turn := d.turn + 1 } → Calls Try.prog 55 #[.pointer (some ⟨w1.heap.size + 1, 0, none⟩)] (opened w1 bd (d.turn + 1)) fun e w' => e = .returned (.int .i64 eL) ∧ (∃ st2, G st2 ∧ Sys w' (Nw (Nw S w1) (opened w1 bd (d.turn + 1))) bd (w1.heap.size + 1) d2 st2) ∧ Kp (Nw S w1) (opened w1 bd (d.turn + 1)) w') :
    Calls Try.prog 34 #[.pointer (some ⟨bd, 0, none⟩), .int .i64 p] w (OpenP bd S w d2 eL G) := by
  have hTk := dTake_any bd d S w hP ht0 ht1
  obtain ⟨dm, dr, df, hd, hsd⟩ := hP.raw
  have hmm := @run_makeMap Try.prog
  have hfin : ∀ (w1 w2 : World) (st2 : St), Kp (fun i => i = bd) w w1 → Sys w2 (Nw (Nw S w1) (opened w1 bd (d.turn + 1))) bd (w1.heap.size + 1) d2 st2 → Kp (Nw S w1) (opened w1 bd (d.turn + 1)) w2 → Sys w2 (Nw S w) bd (w1.heap.size + 1) d2 st2 ∧ Kp S w w2 := fun w1 w2 st2 k1 hS2 k2 => by
    have hs1 := k1.size
    have hs2 := k2.size
    simp only [World.size_alloc] at hs2
    refine ⟨hS2.mono (fun k hk s => ?_), ?_⟩
    · rcases s with (s | s) | s
      · exact .inl s
      · exact .inr (Nat.le_trans hs1 s)
      · simp only [World.size_alloc] at s; exact .inr (by omega)
    · refine (((k1.mono (T := S) (fun i e => by rw [e]; exact hsd)).alloc _).alloc _).trans k2 (fun i hi s => ?_)
      rcases s with s | s
      · exact s
      · omega
  cases hal : d2.dead
  · by_cases hz : eL = 0
    · subst hz
      go_enter Try.func34, Try.ntmps34
      go_wp2_with (first
        | (go_at_call 54; refine hTk.mono ?_; rintro e w1 ⟨rfl, hP1, k1⟩; clear hTk)
        | (go_at_call 55; refine (hL w1 hP1).mono ?_; rintro e w2 ⟨rfl, ⟨st2, hG, hS2⟩, k2⟩; obtain ⟨m2, r2, f2, hd2⟩ := hS2.disk; rw [hal] at hd2)
        | (go_at_call 56; refine (isDead_any hd2).mono ?_; rintro e w3 ⟨rfl, rfl⟩))
      go_ret2
      obtain ⟨a, b⟩ := hfin _ _ _ k1 hS2 k2
      exact ⟨b, .inl ⟨hal, rfl, _, _, rfl, hG, a⟩⟩
    · have hz' : Hid (eL ≠ 0) := hz
      go_enter Try.func34, Try.ntmps34
      go_wp2_with (first
        | (go_at_call 54; refine hTk.mono ?_; rintro e w1 ⟨rfl, hP1, k1⟩; clear hTk)
        | (go_at_call 55; refine (hL w1 hP1).mono ?_; rintro e w2 ⟨rfl, ⟨st2, hG, hS2⟩, k2⟩; obtain ⟨m2, r2, f2, hd2⟩ := hS2.disk; rw [hal] at hd2)
        | (go_at_call 56; refine (isDead_any hd2).mono ?_; rintro e w3 ⟨rfl, rfl⟩))
      go_ret2
      obtain ⟨a, b⟩ := hfin _ _ _ k1 hS2 k2
      obtain ⟨S', T', bm', v1, _, _, hP', _⟩ := a.ex
      exact ⟨b, .inr ⟨by rw [hal]; exact hz'.out, by rw [hal]; rfl, hP'.mono (fun k _ s => v1 k s)⟩⟩
  · go_enter Try.func34, Try.ntmps34
    go_wp2_with (first
      | (go_at_call 54; refine hTk.mono ?_; rintro e w1 ⟨rfl, hP1, k1⟩; clear hTk)
      | (go_at_call 55; refine (hL w1 hP1).mono ?_; rintro e w2 ⟨rfl, ⟨st2, hG, hS2⟩, k2⟩; obtain ⟨m2, r2, f2, hd2⟩ := hS2.disk; rw [hal] at hd2)
      | (go_at_call 56; refine (isDead_any hd2).mono ?_; rintro e w3 ⟨rfl, rfl⟩))
    go_ret2
    obtain ⟨a, b⟩ := hfin _ _ _ k1 hS2 k2
    obtain ⟨S', T', bm', v1, _, _, hP', _⟩ := a.ex
    exact ⟨b, .inr ⟨by rw [hal]; simp, by rw [hal]; rfl, hP'.mono (fun k _ s => v1 k s)⟩⟩

/-- What load answers, the disk that it leaves, and the map that it finds. -/
def loadX (d : Dk) : Int × Dk × Mp :=
  if d.dead then (4, d, []) else if (nmsOf d.files).all oursB = false then (5, d, []) else
  match getF logN d.files with
  | none => (0, d, [])
  | some f => match rep f.bytes [] with
    | none => (5, d, [])
    | some (m, n) => if n < f.bytes.length then ((rewriteX d m).1, (rewriteX d m).2, m) else ((secureX d ⟨d.turn, m, false, false⟩ f.bytes.length).1, (secureX d ⟨d.turn, m, false, false⟩ f.bytes.length).2.1, m)

theorem secureX_st (d : Dk) (st : St) (n : Nat) : (secureX d st n).2.2.m = st.m ∧ (secureX d st n).2.2.turn = st.turn ∧ (secureX d st n).2.2.stuck = st.stuck := by
  unfold secureX syncX
  split
  · exact ⟨rfl, rfl, rfl⟩
  · split
    · exact ⟨rfl, rfl, rfl⟩
    · split
      · exact ⟨rfl, rfl, rfl⟩
      · split <;> exact ⟨rfl, rfl, rfl⟩
theorem rep_len {t : List UInt8} {m : Mp} {n : Nat} (h : rep t [] = some (m, n)) : MOk m ∧ n ≤ t.length ∧ 2 * m.length ≤ n := by
  obtain ⟨h1, h2, h3⟩ := replay_ok _ _ _ _ _ h MOk.nil
  simp only [List.length_nil, Nat.mul_zero, Nat.zero_add] at h3
  exact ⟨h1, h2, h3⟩

/-- A store that was just read. -/
def Fit (t : Int) (m : Mp) (e : Int) (st : St) : Prop := st.turn = t ∧ st.stuck = false ∧ (e = 0 → st.m = m)

theorem load_any (bd bs : Nat) (d : Dk) (U : Nat → Prop) (w : World) (hS : Sys w U bd bs d (newSt d.turn)) (hok : d.Ok) (hfl : d.files.length ≤ 3000000) :
    Calls Try.prog 55 #[.pointer (some ⟨bs, 0, none⟩)] w fun e w' => e = .returned (.int .i64 (loadX d).1) ∧ (∃ st2, Fit d.turn (loadX d).2.2 (loadX d).1 st2 ∧ Sys w' (Nw U w) bd bs (loadX d).2.1 st2) ∧ Kp U w w' := by
  cases hd : d.dead
  · cases ho : (nmsOf d.files).all oursB
    · have e : loadX d = (5, d, []) := by simp [loadX, hd, ho]
      rw [e]
      refine (load_bad bd bs d _ U w hS hok (by omega) hd ho).mono ?_
      rintro e w' ⟨rfl, hb⟩
      exact ⟨rfl, ⟨_, ⟨rfl, rfl, fun h => by cases h⟩, (hS.below hb).mono (fun _ _ s => .inl s)⟩, Kp.of_below hb⟩
    · cases hf : getF logN d.files with
      | none =>
        have e : loadX d = (0, d, []) := by simp [loadX, hd, ho, hf]
        have hno : logN ∉ nmsOf d.files := fun h => by
          obtain ⟨x, hx, e⟩ := List.mem_map.1 h
          have := getF_none_not hf x hx
          exact this e
        rw [e]
        refine (load_none bd bs d _ U w hS hok (by omega) hd ho hno).mono ?_
        rintro e w' ⟨rfl, hb⟩
        exact ⟨rfl, ⟨_, ⟨rfl, rfl, fun _ => rfl⟩, (hS.below hb).mono (fun _ _ s => .inl s)⟩, Kp.of_below hb⟩
      | some f =>
        cases hr : rep f.bytes [] with
        | none =>
          have e : loadX d = (5, d, []) := by simp [loadX, hd, ho, hf, hr]
          rw [e]
          refine (load_broken bd bs d _ U w hS hok (by omega) hd ho f hf rfl hr).mono ?_
          rintro e w' ⟨rfl, ⟨m5, h5⟩, k⟩
          exact ⟨rfl, ⟨_, ⟨rfl, rfl, fun h => by cases h⟩, h5⟩, k⟩
        | some x =>
          obtain ⟨m, n⟩ := x
          by_cases hlt : n < f.bytes.length
          · have e : loadX d = ((rewriteX d m).1, (rewriteX d m).2, m) := by simp [loadX, hd, ho, hf, hr, hlt]
            rw [e]
            refine (load_cut bd bs d _ U w hS hok hfl hd ho f hf rfl m n hr hlt).mono ?_
            rintro e w' ⟨rfl, h5, k⟩
            exact ⟨rfl, ⟨_, ⟨rfl, rfl, fun _ => rfl⟩, h5⟩, k⟩
          · have e : loadX d = ((secureX d ⟨d.turn, m, false, false⟩ f.bytes.length).1, (secureX d ⟨d.turn, m, false, false⟩ f.bytes.length).2.1, m) := by simp [loadX, hd, ho, hf, hr, hlt]
            have hn : n = f.bytes.length := by have := (rep_len hr).2.1; omega
            rw [e]
            refine (load_log bd bs d _ U w hS hok (by omega) hd ho f hf rfl m (by rw [hr, hn])).mono ?_
            rintro e w' ⟨rfl, h5, k⟩
            obtain ⟨s1, s2, s3⟩ := secureX_st d { newSt d.turn with m := m } f.bytes.length
            exact ⟨rfl, ⟨_, ⟨s2, s3, fun _ => s1⟩, h5⟩, k⟩
  · have e : loadX d = (4, d, []) := by simp [loadX, hd]
    rw [e]
    refine (load_dead bd bs d _ U w hS hd).mono ?_
    rintro e w' ⟨rfl, hb⟩
    exact ⟨rfl, ⟨_, ⟨rfl, rfl, fun h => by cases h⟩, (hS.below hb).mono (fun _ _ s => .inl s)⟩, Kp.of_below hb⟩

end Go.Proofs.Ytfghgmojnffgnaa

/- The program's Open, whatever lies on the disk; a disk on which no fuse burns. -/
namespace Go.Proofs.Ytfghgmojnffgnaa
open Go.RowKit Go.Maps Go.Sort

def turned (d : Dk) : Dk := { d with turn := d.turn + 1 }
theorem turned_ok {d : Dk} (h : d.Ok) : (turned d).Ok := ⟨h.quota, h.used, h.left0, h.left1, h.safe, h.rise, h.name⟩
/-- What Open answers, the disk that it leaves, and the store's map. -/
def openX (d : Dk) : Int × Dk × Mp := (if (loadX (turned d)).2.1.dead then 4 else (loadX (turned d)).1, (loadX (turned d)).2.1, (loadX (turned d)).2.2)

theorem sOpen_any (bd : Nat) (d : Dk) (p : Int) (S : Nat → Prop) (w : World) (hP : ProgAt w S bd d) (hok : d.Ok) (hfl : d.files.length ≤ 3000000) (ht0 : 0 ≤ d.turn) (ht1 : d.turn ≤ 4611686018427387904) (hp0 : 0 ≤ p) (hp2 : p ≤ 2) :
    Calls Try.prog 34 #[.pointer (some ⟨bd, 0, none⟩), .int .i64 p] w (OpenP bd S w (loadX (turned d)).2.1 (loadX (turned d)).1 (Fit (d.turn + 1) (loadX (turned d)).2.2 (loadX (turned d)).1)) :=
  sOpen_gen bd d p S w hP ht0 ht1 hp0 hp2 _ _ _ (fun _ hP1 => load_any bd _ (turned d) _ _ (sys_new hP1) (turned_ok hok) hfl)

def OpenQ (bx : Nat) (S : Nat → Prop) (w : World) (d : Dk) (e : Ending) (w' : World) : Prop :=
  Kp S w w' ∧ (((openX d).1 = 0 ∧ ∃ bz st2, e = .returned (.tuple #[.pointer (some ⟨bz, 0, none⟩), .int .i64 0]) ∧ Shop w' (Nw S w) bx bz (openX d).2.1 st2 ∧ st2.turn = d.turn + 1 ∧ st2.stuck = false ∧ st2.m = (openX d).2.2) ∨
    ((openX d).1 ≠ 0 ∧ e = .returned (.tuple #[.pointer none, .int .i64 (openX d).1]) ∧ XAt w' (Nw S w) bx (openX d).2.1))

set_option maxHeartbeats 1000000 in
theorem xOpen_any (bx : Nat) (d : Dk) (p : Int) (S : Nat → Prop) (w : World) (hX : XAt w S bx d) (hok : d.Ok) (hfl : d.files.length ≤ 3000000) (ht0 : 0 ≤ d.turn) (ht1 : d.turn ≤ 4611686018427387904) (hp0 : 0 ≤ p) (hp2 : p ≤ 2) :
    Calls Try.prog 13 #[.pointer (some ⟨bx, 0, none⟩), .int .i64 p] w (OpenQ bx S w d) := by
  obtain ⟨bd, h1, h2, hP⟩ := hX
  have hO := sOpen_any bd d p _ w hP hok hfl ht0 ht1 hp0 hp2
  obtain ⟨c0, z0⟩ := cells1 h1
  go_enter Try.func13, Try.ntmps13
  go_wp2_with (go_at_call 34; refine hO.mono ?_)
  rintro e w1 ⟨k, (⟨ha, hz, bs, st2, rfl, ⟨g1, g2, g3⟩, hS⟩ | ⟨hne, rfl, hP'⟩)⟩
  · go_wp2
    go_ret2
    obtain ⟨a, b⟩ := shop_new h1 h2 hS k
    exact ⟨b, .inl ⟨by simp [openX, ha, hz], _, st2, rfl, a, g1, g2, g3 hz⟩⟩
  · have hne' : Hid ((openX d).1 ≠ 0) := hne
    have HE : Hid ((if (loadX (turned d)).2.1.dead then 4 else (loadX (turned d)).1) = (openX d).1) := rfl
    rw [HE.out] at hne ⊢
    generalize hR : (openX d).1 = R at *
    go_wp2
    go_ret2
    obtain ⟨a, b⟩ := x_step h1 h2 hP' k
    exact ⟨b, .inr ⟨by rw [hR]; exact hne'.out, by rw [hR]; rfl, a⟩⟩

end Go.Proofs.Ytfghgmojnffgnaa
