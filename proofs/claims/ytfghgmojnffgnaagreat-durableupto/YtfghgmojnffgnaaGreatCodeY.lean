/- The program's store: load and Open, where the log is whole. -/
import Derived.Test.YtfghgmojnffgnaaGreatCodeX
namespace Go.Proofs.YtfghgmojnffgnaaGreat
open Go.RowKit Go.Maps Go.Sort

set_option maxHeartbeats 2000000 in
set_option maxRecDepth 20000 in
theorem load_none (bd bs : Nat) (d : Dk) (st : St) (U : Nat → Prop) (w : World) (hS : Sys w U bd bs d st) (hok : d.Ok) (hfl : d.files.length ≤ 4194302) (hal : d.dead = false) (hour : (nmsOf d.files).all oursB = true) (hno : logN ∉ nmsOf d.files) :
    Calls Tryz.prog 79 #[.pointer (some ⟨bs, 0, none⟩)] w fun e w' => e = .returned (.int .i64 0) ∧ Below w.heap.size w w' := by
  obtain ⟨S, T, bm, u1, u2, u3, hP, hT⟩ := hS.ex
  have hnl : (nmsOf d.files).length = d.files.length := nms_len d.files
  have hN := dNames_any bd d S w hP hok (by omega) hal
  obtain ⟨c0, c1, c2, c3, c4, f0, f1, f2, f3, f4⟩ := cells5 hT.raw
  generalize nmsOf d.files = NL at *
  have hour' : Hid (NL.all oursB = true) := hour
  have hno' : Hid (decide (logN ∈ NL) = false) := by simpa [Hid] using hno
  clear hour hno
  go_enter Tryz.func79, Tryz.ntmps79
  go_wp2_with (first
    | (go_at_call 91; refine hN.mono ?_; rintro e w1 ⟨v, rfl, hb1, ho1⟩; clear hN)
    | (go_at_call 124; refine (areOurs_any v NL _ w1 ho1 (by omega)).mono ?_; rintro e w2 ⟨he, rfl⟩; rw [hour'.out] at he; subst he)
    | (go_at_call 125; refine (contains_any v NL logN _ _ ho1 (by omega)).mono ?_; rintro e w3 ⟨he, rfl⟩; rw [hno'.out] at he; subst he))
  go_ret
  exact ⟨rfl, hb1⟩

set_option maxHeartbeats 2000000 in
set_option maxRecDepth 20000 in
theorem load_log (bd bs : Nat) (d : Dk) (st : St) (U : Nat → Prop) (w : World) (hS : Sys w U bd bs d st) (hok : d.Ok) (hfl : d.files.length ≤ 4194302) (hal : d.dead = false) (hour : (nmsOf d.files).all oursB = true) (f : Fl) (hf : getF logN d.files = some f) (hst : st.m = []) (m' : Mp) (hrep : rep f.bytes [] = some (m', f.bytes.length)) :
    Calls Tryz.prog 79 #[.pointer (some ⟨bs, 0, none⟩)] w fun e w' => e = .returned (.int .i64 (secureX d { st with m := m' } f.bytes.length).1) ∧ Sys w' (Nw U w) bd bs (secureX d { st with m := m' } f.bytes.length).2.1 (secureX d { st with m := m' } f.bytes.length).2.2 ∧ Kp U w w' := by
  obtain ⟨S, T, bm, u1, u2, u3, hP, hT⟩ := hS.ex
  have hnl : (nmsOf d.files).length = d.files.length := nms_len d.files
  have hN := dNames_any bd d S w hP hok (by omega) hal
  have hbl := bytes_le hok hf
  have hmem : logN ∈ nmsOf d.files := by
    have := getF_mem hf
    exact List.mem_map.2 ⟨_, this, rfl⟩
  have hUm := u2 _ hT.tm
  obtain ⟨c0, c1, c2, c3, c4, f0, f1, f2, f3, f4⟩ := cells5 hT.raw
  generalize nmsOf d.files = NL at *
  have hour' : Hid (NL.all oursB = true) := hour
  have hno' : Hid (decide (logN ∈ NL) = true) := by simpa [Hid] using hmem
  have hrd : d.read logN = (f.bytes, 0) := by simp [Dk.read, hal, hf]
  have hmok : MOk st.m := by rw [hst]; exact MOk.nil
  have hrp : ∀ w1, StAt w1 T bs bd bm st → Calls Tryz.prog 126 #[.pointer (some ⟨bs, 0, none⟩), str f.bytes] w1 fun e w' => e = .returned (.tuple #[.int .i64 f.bytes.length, .int .i64 0]) ∧ StAt w' T bs bd bm { st with m := m' } ∧ Kp (fun i => i = bm) w1 w' := fun w1 hT1 =>
    (replay_any bs bd bm st T f.bytes w1 hT1 hmok hbl (by rw [hst]; rfl)).mono (by
      rintro e w5 ⟨m5, hT5, k5, (⟨n5, hr5, rfl⟩ | ⟨hr5, _⟩)⟩
      · rw [hst, hrep] at hr5
        obtain ⟨rfl, rfl⟩ : m' = m5 ∧ f.bytes.length = n5 := by simpa using hr5
        exact ⟨rfl, hT5, k5⟩
      · rw [hst, hrep] at hr5; cases hr5)
  clear hour hmem
  go_enter Tryz.func79, Tryz.ntmps79
  go_wp2_with (first
    | (go_at_call 91; refine hN.mono ?_; rintro e w1 ⟨v, rfl, hb1, ho1⟩; clear hN; have hP1 := hP.below hb1; have hT1 := hT.below hb1; have hRd := dRead_any bd d logN S w1 hP1 (by decide); rw [hrd] at hRd; obtain ⟨g0, g1, g2, g3, g4, _⟩ := cells5 hT1.raw)
    | (go_at_call 124; refine (areOurs_any v NL _ w1 ho1 (by omega)).mono ?_; rintro e w2 ⟨he, rfl⟩; rw [hour'.out] at he; subst he)
    | (go_at_call 125; refine (contains_any v NL logN _ _ ho1 (by omega)).mono ?_; rintro e w3 ⟨he, rfl⟩; rw [hno'.out] at he; subst he)
    | (go_at_call 89; refine hRd.mono ?_; rintro e w4 ⟨rfl, rfl⟩; clear hRd)
    | (go_at_call 126; refine (hrp _ hT1).mono ?_; rintro e w5 ⟨rfl, hT5, k5⟩; have hS5 : Sys w5 U bd bs d { st with m := m' } := Sys.of u1 u2 u3 (hP1.kept k5 (fun i s e => by rw [e] at s; exact u3 _ s hT1.tm)) hT5)
    | (go_at_call 128; refine (secure_any bd bs d { st with m := m' } U f.bytes.length w5 hS5 hok).mono ?_; rintro e w6 ⟨rfl, hS6, k6⟩))
  go_ret
  refine ⟨rfl, hS6.mono (fun _ _ s => s.imp id (fun h => Nat.le_trans (Nat.le_trans hb1.size k5.size) h)), ((kp_below (Kp.refl U w) hb1).trans k5 (fun i _ e => by rw [e]; exact hUm)).trans k6 (fun _ _ s => s)⟩


/-- A new store. -/
def newSt (t : Int) : St := ⟨t, [], false, false⟩

abbrev opened (w1 : World) (bd : Nat) (t : Int) : World := (w1.alloc (.map #[] 0)).alloc (.cells #[.pointer (some ⟨bd, 0, none⟩), .int .i64 t, .map (some w1.heap.size), .bool false, .bool false] 126)
theorem sys_new {w1 : World} {S : Nat → Prop} {bd : Nat} {d : Dk} {t : Int} (hP : ProgAt w1 S bd d) : Sys (opened w1 bd t) (Nw S w1) bd (w1.heap.size + 1) d (newSt t) := by
  have hb : Below w1.heap.size w1 (opened w1 bd t) := ((Below.refl _ w1).alloc (Nat.le_refl _) _).alloc (by simp) _
  refine Sys.of (S := fun k => S k ∧ k < w1.heap.size) (T := fun k => w1.heap.size ≤ k) (bm := w1.heap.size) (fun k s => .inl s.1) (fun k s => .inr s) (fun k s t => by have := s.2; omega) ?_ ⟨?_, ?_, by simp, by simp⟩
  · exact (hP.mono (fun k hk s => ⟨s, hk⟩)).below hb
  · have := block_new (w1.alloc (.map #[] 0)) (.cells #[.pointer (some ⟨bd, 0, none⟩), .int .i64 t, .map (some w1.heap.size), .bool false, .bool false] 126)
    rw [World.size_alloc] at this
    exact this
  · exact (World.ownsMap_made w1 Tryz.prog 9 Rv).alloc _
theorem Sys.disk {w : World} {U : Nat → Prop} {bd bs : Nat} {d : Dk} {st : St} (h : Sys w U bd bs d st) : ∃ m r f : Value, w.heap[bd]? = some (.cells #[m, r, f, .bool d.dead, .int .i64 d.turn] 129) := by
  obtain ⟨S, T, bm, _, _, _, hP, _⟩ := h.ex
  obtain ⟨m, r, f, h, _⟩ := hP.raw
  exact ⟨m, r, f, h⟩

set_option maxHeartbeats 2000000 in
set_option maxRecDepth 20000 in
/-- Open: what load does is done; then it is asked whether the disk is dead. -/
theorem sOpen_of (bd : Nat) (d : Dk) (p : Int) (S : Nat → Prop) (w : World) (hP : ProgAt w S bd d) (ht0 : 0 ≤ d.turn) (ht1 : d.turn ≤ 4611686018427387904) (hp0 : 0 ≤ p) (hp2 : p ≤ 2) (d2 : Dk) (st2 : St) (hal : d2.dead = false)
    (hL : ∀ w1, ProgAt w1 S bd { d with turn := d.turn + 1 } → Calls Tryz.prog 79 #[.pointer (some ⟨w1.heap.size + 1, 0, none⟩)] (opened w1 bd (d.turn + 1)) fun e w' => e = .returned (.int .i64 0) ∧ Sys w' (Nw (Nw S w1) (opened w1 bd (d.turn + 1))) bd (w1.heap.size + 1) d2 st2 ∧ Kp (Nw S w1) (opened w1 bd (d.turn + 1)) w') :
    Calls Tryz.prog 42 #[.pointer (some ⟨bd, 0, none⟩), .int .i64 p] w fun e w' => ∃ bs, e = .returned (.tuple #[.pointer (some ⟨bs, 0, none⟩), .int .i64 0]) ∧ Sys w' (Nw S w) bd bs d2 st2 ∧ Kp S w w' := by
  have hTk := dTake_any bd d S w hP ht0 ht1
  obtain ⟨dm, dr, df, hd, hsd⟩ := hP.raw
  have hmm := @run_makeMap Tryz.prog
  go_enter Tryz.func42, Tryz.ntmps42
  go_wp2_with (first
    | (go_at_call 78; refine hTk.mono ?_; rintro e w1 ⟨rfl, hP1, k1⟩; clear hTk)
    | (go_at_call 79; refine (hL w1 hP1).mono ?_; rintro e w2 ⟨rfl, hS2, k2⟩; obtain ⟨m2, r2, f2, hd2⟩ := hS2.disk; rw [hal] at hd2)
    | (go_at_call 71; refine (isDead_any hd2).mono ?_; rintro e w3 ⟨rfl, rfl⟩))
  go_ret2
  have hs1 := k1.size
  have hs2 := k2.size
  simp only [World.size_alloc] at hs2
  refine ⟨_, rfl, hS2.mono (fun k hk s => ?_), ?_⟩
  · rcases s with (s | s) | s
    · exact .inl s
    · exact .inr (Nat.le_trans hs1 s)
    · simp only [World.size_alloc] at s; exact .inr (by omega)
  · refine (((k1.mono (T := S) (fun i e => by rw [e]; exact hsd)).alloc _).alloc _).trans k2 (fun i hi s => ?_)
    rcases s with s | s
    · exact s
    · omega

theorem sOpen_none (bd : Nat) (d : Dk) (p : Int) (S : Nat → Prop) (w : World) (hP : ProgAt w S bd d) (hok : d.Ok) (hfl : d.files.length ≤ 4194302) (hal : d.dead = false) (ht0 : 0 ≤ d.turn) (ht1 : d.turn ≤ 4611686018427387904) (hp0 : 0 ≤ p) (hp2 : p ≤ 2) (hour : (nmsOf d.files).all oursB = true) (hno : logN ∉ nmsOf d.files) :
    Calls Tryz.prog 42 #[.pointer (some ⟨bd, 0, none⟩), .int .i64 p] w fun e w' => ∃ bs, e = .returned (.tuple #[.pointer (some ⟨bs, 0, none⟩), .int .i64 0]) ∧ Sys w' (Nw S w) bd bs { d with turn := d.turn + 1 } (newSt (d.turn + 1)) ∧ Kp S w w' :=
  sOpen_of bd d p S w hP ht0 ht1 hp0 hp2 _ _ hal (fun w1 hP1 => (load_none bd _ _ _ _ _ (sys_new hP1) ⟨hok.quota, hok.used, hok.left0, hok.left1, hok.safe, hok.rise, hok.name⟩ hfl hal hour hno).mono (by
    rintro e w2 ⟨rfl, hb⟩
    exact ⟨rfl, ((sys_new hP1).below hb).mono (fun _ _ s => .inl s), Kp.of_below hb⟩))

/-- The disk and the store behind an Open that finds a whole log. -/
def reopened (d : Dk) (m : Mp) (f : Fl) : Int × Dk × St := secureX { d with turn := d.turn + 1 } ⟨d.turn + 1, m, false, false⟩ f.bytes.length

theorem sOpen_log (bd : Nat) (d : Dk) (p : Int) (S : Nat → Prop) (w : World) (hP : ProgAt w S bd d) (hok : d.Ok) (hfl : d.files.length ≤ 4194302) (hal : d.dead = false) (ht0 : 0 ≤ d.turn) (ht1 : d.turn ≤ 4611686018427387904) (hp0 : 0 ≤ p) (hp2 : p ≤ 2) (hour : (nmsOf d.files).all oursB = true)
    (f : Fl) (hf : getF logN d.files = some f) (m' : Mp) (hrep : rep f.bytes [] = some (m', f.bytes.length)) (hz : (reopened d m' f).1 = 0) (hal2 : (reopened d m' f).2.1.dead = false) :
    Calls Tryz.prog 42 #[.pointer (some ⟨bd, 0, none⟩), .int .i64 p] w fun e w' => ∃ bs, e = .returned (.tuple #[.pointer (some ⟨bs, 0, none⟩), .int .i64 0]) ∧ Sys w' (Nw S w) bd bs (reopened d m' f).2.1 (reopened d m' f).2.2 ∧ Kp S w w' :=
  sOpen_of bd d p S w hP ht0 ht1 hp0 hp2 _ _ hal2 (fun w1 hP1 => (load_log bd _ _ _ _ _ (sys_new hP1) ⟨hok.quota, hok.used, hok.left0, hok.left1, hok.safe, hok.rise, hok.name⟩ hfl hal hour f hf rfl m' hrep).mono (by
    rintro e w2 ⟨rfl, hS, k⟩
    refine ⟨?_, hS, k⟩
    have : (secureX { d with turn := d.turn + 1 } { newSt (d.turn + 1) with m := m' } f.bytes.length).1 = 0 := hz
    rw [this]))

end Go.Proofs.YtfghgmojnffgnaaGreat
