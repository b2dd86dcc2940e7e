/- The program's store: load and Open, whatever lies on the disk. -/
import Derived.Test.YtfghgmojnffgnaaRewC
namespace Go.Proofs.Ytfghgmojnffgnaa
open Go.RowKit Go.Maps Go.Sort

set_option maxHeartbeats 1000000 in
set_option maxRecDepth 20000 in
theorem load_dead (bd bs : Nat) (d : Dk) (st : St) (U : Nat → Prop) (w : World) (hS : Sys w U bd bs d st) (hal : d.dead = true) :
    Calls Try.prog 55 #[.pointer (some ⟨bs, 0, none⟩)] w fun e w' => e = .returned (.int .i64 4) ∧ Below w.heap.size w w' := by
  obtain ⟨S, T, bm, u1, u2, u3, hP, hT⟩ := hS.ex
  have hN := dNames_dead bd d S w hP hal
  obtain ⟨c0, c1, c2, c3, c4, f0, f1, f2, f3, f4⟩ := cells5 hT.raw
  go_enter Try.func55, Try.ntmps55
  go_wp2_with (go_at_call 51; refine hN.mono ?_; rintro e w1 ⟨rfl, rfl⟩; clear hN)
  go_ret
  exact ⟨rfl, Below.refl _ _⟩

set_option maxHeartbeats 1000000 in
set_option maxRecDepth 20000 in
theorem load_bad (bd bs : Nat) (d : Dk) (st : St) (U : Nat → Prop) (w : World) (hS : Sys w U bd bs d st) (hok : d.Ok) (hfl : d.files.length ≤ 4194302) (hal : d.dead = false) (hour : (nmsOf d.files).all oursB = false) :
    Calls Try.prog 55 #[.pointer (some ⟨bs, 0, none⟩)] w fun e w' => e = .returned (.int .i64 5) ∧ Below w.heap.size w w' := by
  obtain ⟨S, T, bm, u1, u2, u3, hP, hT⟩ := hS.ex
  have hnl : (nmsOf d.files).length = d.files.length := nms_len d.files
  have hN := dNames_any bd d S w hP hok (by omega) hal
  obtain ⟨c0, c1, c2, c3, c4, f0, f1, f2, f3, f4⟩ := cells5 hT.raw
  generalize nmsOf d.files = NL at *
  have hour' : Hid (NL.all oursB = false) := hour
  clear hour
  go_enter Try.func55, Try.ntmps55
  go_wp2_with (first
    | (go_at_call 51; refine hN.mono ?_; rintro e w1 ⟨v, rfl, hb1, ho1⟩; clear hN)
    | (go_at_call 71; refine (areOurs_any v NL _ w1 ho1 (by omega)).mono ?_; rintro e w2 ⟨he, rfl⟩; rw [hour'.out] at he; subst he))
  go_ret
  exact ⟨rfl, hb1⟩

set_option maxHeartbeats 2000000 in
set_option maxRecDepth 20000 in
/-- A log that no store has written. -/
theorem load_broken (bd bs : Nat) (d : Dk) (st : St) (U : Nat → Prop) (w : World) (hS : Sys w U bd bs d st) (hok : d.Ok) (hfl : d.files.length ≤ 4194302) (hal : d.dead = false) (hour : (nmsOf d.files).all oursB = true) (f : Fl) (hf : getF logN d.files = some f) (hst : st.m = []) (hrep : rep f.bytes [] = none) :
    Calls Try.prog 55 #[.pointer (some ⟨bs, 0, none⟩)] w fun e w' => e = .returned (.int .i64 5) ∧ (∃ m5, Sys w' (Nw U w) bd bs d { st with m := m5 }) ∧ Kp U w w' := by
  obtain ⟨S, T, bm, u1, u2, u3, hP, hT⟩ := hS.ex
  have hnl : (nmsOf d.files).length = d.files.length := nms_len d.files
  have hN := dNames_any bd d S w hP hok (by omega) hal
  have hbl := bytes_le hok hf
  have hmem : logN ∈ nmsOf d.files := List.mem_map.2 ⟨_, getF_mem hf, rfl⟩
  have hUm := u2 _ hT.tm
  obtain ⟨c0, c1, c2, c3, c4, f0, f1, f2, f3, f4⟩ := cells5 hT.raw
  generalize nmsOf d.files = NL at *
  have hour' : Hid (NL.all oursB = true) := hour
  have hno' : Hid (decide (logN ∈ NL) = true) := by simpa [Hid] using hmem
  have hrd : d.read logN = (f.bytes, 0) := by simp [Dk.read, hal, hf]
  have hmok : MOk st.m := by rw [hst]; exact MOk.nil
  have hrp : ∀ w1, StAt w1 T bs bd bm st → Calls Try.prog 73 #[.pointer (some ⟨bs, 0, none⟩), str f.bytes] w1 fun e w' => e = .returned (.tuple #[.int .i64 0, .int .i64 5]) ∧ (∃ m5, StAt w' T bs bd bm { st with m := m5 }) ∧ Kp (fun i => i = bm) w1 w' := fun w1 hT1 =>
    (replay_any bs bd bm st T f.bytes w1 hT1 hmok hbl (by rw [hst]; rfl)).mono (by
      rintro e w5 ⟨m5, hT5, k5, (⟨n5, hr5, rfl⟩ | ⟨hr5, rfl⟩)⟩
      · rw [hst, hrep] at hr5; cases hr5
      · exact ⟨rfl, ⟨m5, hT5⟩, k5⟩)
  clear hour hmem
  go_enter Try.func55, Try.ntmps55
  go_wp2_with (first
    | (go_at_call 51; refine hN.mono ?_; rintro e w1 ⟨v, rfl, hb1, ho1⟩; clear hN; have hP1 := hP.below hb1; have hT1 := hT.below hb1; have hRd := dRead_any bd d logN S w1 hP1 (by decide); rw [hrd] at hRd; obtain ⟨g0, g1, g2, g3, g4, _⟩ := cells5 hT1.raw)
    | (go_at_call 71; refine (areOurs_any v NL _ w1 ho1 (by omega)).mono ?_; rintro e w2 ⟨he, rfl⟩; rw [hour'.out] at he; subst he)
    | (go_at_call 72; refine (contains_any v NL logN _ _ ho1 (by omega)).mono ?_; rintro e w3 ⟨he, rfl⟩; rw [hno'.out] at he; subst he)
    | (go_at_call 52; refine hRd.mono ?_; rintro e w4 ⟨rfl, rfl⟩; clear hRd)
    | (go_at_call 73; refine (hrp _ hT1).mono ?_; rintro e w5 ⟨rfl, ⟨m5, hT5⟩, k5⟩))
  go_ret
  refine ⟨rfl, ⟨m5, (Sys.of u1 u2 u3 (hP1.kept k5 (fun i s e => by rw [e] at s; exact u3 _ s hT1.tm)) hT5).mono (fun _ _ s => .inl s)⟩, (kp_below (Kp.refl U w) hb1).trans k5 (fun i _ e => by rw [e]; exact hUm)⟩

set_option maxHeartbeats 2000000 in
set_option maxRecDepth 20000 in
/-- A log whose end is cut off. -/
theorem load_cut (bd bs : Nat) (d : Dk) (st : St) (U : Nat → Prop) (w : World) (hS : Sys w U bd bs d st) (hok : d.Ok) (hfl : d.files.length ≤ 3000000) (hal : d.dead = false) (hour : (nmsOf d.files).all oursB = true) (f : Fl) (hf : getF logN d.files = some f) (hst : st.m = []) (m' : Mp) (n : Nat) (hrep : rep f.bytes [] = some (m', n)) (hlt : n < f.bytes.length) :
    Calls Try.prog 55 #[.pointer (some ⟨bs, 0, none⟩)] w fun e w' => e = .returned (.int .i64 (rewriteX d m').1) ∧ Sys w' (Nw U w) bd bs (rewriteX d m').2 { st with m := m' } ∧ Kp U w w' := by
  obtain ⟨S, T, bm, u1, u2, u3, hP, hT⟩ := hS.ex
  have hnl : (nmsOf d.files).length = d.files.length := nms_len d.files
  have hN := dNames_any bd d S w hP hok (by omega) hal
  have hbl := bytes_le hok hf
  have hmem : logN ∈ nmsOf d.files := List.mem_map.2 ⟨_, getF_mem hf, rfl⟩
  have hUm := u2 _ hT.tm
  obtain ⟨hmo, _, hm2⟩ := replay_ok _ _ _ _ _ hrep MOk.nil
  simp only [List.length_nil, Nat.mul_zero, Nat.zero_add] at hm2
  obtain ⟨c0, c1, c2, c3, c4, f0, f1, f2, f3, f4⟩ := cells5 hT.raw
  generalize nmsOf d.files = NL at *
  have hour' : Hid (NL.all oursB = true) := hour
  have hno' : Hid (decide (logN ∈ NL) = true) := by simpa [Hid] using hmem
  have hrd : d.read logN = (f.bytes, 0) := by simp [Dk.read, hal, hf]
  have hmok : MOk st.m := by rw [hst]; exact MOk.nil
  have hrp : ∀ w1, StAt w1 T bs bd bm st → Calls Try.prog 73 #[.pointer (some ⟨bs, 0, none⟩), str f.bytes] w1 fun e w' => e = .returned (.tuple #[.int .i64 n, .int .i64 0]) ∧ StAt w' T bs bd bm { st with m := m' } ∧ Kp (fun i => i = bm) w1 w' := fun w1 hT1 =>
    (replay_any bs bd bm st T f.bytes w1 hT1 hmok hbl (by rw [hst]; rfl)).mono (by
      rintro e w5 ⟨m5, hT5, k5, (⟨n5, hr5, rfl⟩ | ⟨hr5, _⟩)⟩
      · rw [hst, hrep] at hr5
        obtain ⟨rfl, rfl⟩ : m' = m5 ∧ n = n5 := by simpa using hr5
        exact ⟨rfl, hT5, k5⟩
      · rw [hst, hrep] at hr5; cases hr5)
  clear hour hmem
  go_enter Try.func55, Try.ntmps55
  go_wp2_with (first
    | (go_at_call 51; refine hN.mono ?_; rintro e w1 ⟨v, rfl, hb1, ho1⟩; clear hN; have hP1 := hP.below hb1; have hT1 := hT.below hb1; have hRd := dRead_any bd d logN S w1 hP1 (by decide); rw [hrd] at hRd; obtain ⟨g0, g1, g2, g3, g4, _⟩ := cells5 hT1.raw)
    | (go_at_call 71; refine (areOurs_any v NL _ w1 ho1 (by omega)).mono ?_; rintro e w2 ⟨he, rfl⟩; rw [hour'.out] at he; subst he)
    | (go_at_call 72; refine (contains_any v NL logN _ _ ho1 (by omega)).mono ?_; rintro e w3 ⟨he, rfl⟩; rw [hno'.out] at he; subst he)
    | (go_at_call 52; refine hRd.mono ?_; rintro e w4 ⟨rfl, rfl⟩; clear hRd)
    | (go_at_call 73; refine (hrp _ hT1).mono ?_; rintro e w5 ⟨rfl, hT5, k5⟩; have hS5 : Sys w5 U bd bs d { st with m := m' } := Sys.of u1 u2 u3 (hP1.kept k5 (fun i s e => by rw [e] at s; exact u3 _ s hT1.tm)) hT5)
    | (go_at_call 74; refine (rewrite_any bd bs d { st with m := m' } U w5 hS5 hok hfl hmo (by show m'.length ≤ _; omega)).mono ?_; rintro e w6 ⟨rfl, hS6, k6⟩))
  go_ret
  refine ⟨rfl, hS6.mono (fun _ _ s => s.imp id (fun h => Nat.le_trans (Nat.le_trans hb1.size k5.size) h)), ((kp_below (Kp.refl U w) hb1).trans k5 (fun i _ e => by rw [e]; exact hUm)).trans k6 (fun _ _ s => s)⟩

end Go.Proofs.Ytfghgmojnffgnaa
