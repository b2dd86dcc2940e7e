import Derived.Test.YtoabedkcieindabGreatDoorQkAF
import Derived.Lib.ConvBytes
import Derived.Lib.SmallJoins
import Derived.Laws.Strings3
import Derived.Laws.Closers25
import Derived.Laws.Closers25b
import Derived.Test.YtoabedkcieindabGreatDoorQkAP
namespace Go.Proofs.YtoabedkcieindabGreatDoor
open Go.RowKit Go.Maps Go.Sort
def step36 (s : Option Nat) (c : UInt8) : Option Nat := match s, val36 c with | some n, some d => some (n * 36 + d) | _, _ => none
theorem par_fold (l : List UInt8) : par36 l = l.foldl step36 (some 0) := rfl
theorem step_some : ∀ (b : List UInt8) (s : Option Nat) {n : Nat}, b.foldl step36 s = some n → ∃ m, s = some m ∧ m ≤ n
  | [], s, n, h => ⟨n, h, Nat.le_refl _⟩
  | c :: r, s, n, h => by
    obtain ⟨m, h1, h2⟩ := step_some r (step36 s c) h
    cases s with
    | none => simp [step36] at h1
    | some k =>
      cases hv : val36 c with
      | none => simp [step36, hv] at h1
      | some d => simp only [step36, hv, Option.some.injEq] at h1; exact ⟨k, rfl, by omega⟩
theorem par_take (l : List UInt8) {n : Nat} (h : par36 l = some n) (k : Nat) : ∃ m, par36 (l.take k) = some m ∧ m ≤ n := by
  rw [par_fold, ← List.take_append_drop k l, List.foldl_append] at h
  exact step_some _ _ h
theorem par_step {l : List UInt8} {n k : Nat} (h : par36 l = some n) (hk : k < l.length) {m : Nat} (hm : par36 (l.take k) = some m) : ∃ d, val36 l[k] = some d ∧ par36 (l.take (k + 1)) = some (m * 36 + d) ∧ m * 36 + d ≤ n := by
  obtain ⟨m', h1, h2⟩ := par_take l h (k + 1)
  rw [List.take_succ_eq_append_getElem hk, par_snoc, hm] at h1
  cases hv : val36 l[k] with
  | none => simp [hv] at h1
  | some d =>
    simp only [hv, Option.some.injEq] at h1
    refine ⟨d, rfl, ?_, by omega⟩
    rw [List.take_succ_eq_append_getElem hk, par_snoc, hm, hv]
theorem val36_is {c : UInt8} {d : Nat} (h : val36 c = some d) : (48 ≤ c.toNat ∧ c.toNat ≤ 57 ∧ d = c.toNat - 48) ∨ (97 ≤ c.toNat ∧ c.toNat ≤ 122 ∧ d = c.toNat - 87) := by
  unfold val36 at h
  split at h
  · rename_i h1; left; exact ⟨h1.1, h1.2, by simpa using h.symm⟩
  · split at h
    · rename_i h1; right; exact ⟨h1.1, h1.2, by simpa using h.symm⟩
    · cases h
theorem or32 (c : Nat) (h1 : 97 ≤ c) (h2 : c ≤ 122) : bits .or .u8 (c : Int) 32 = (c : Int) := by
  have : ∀ d : Fin 26, bits .or .u8 ((97 + d.1 : Nat) : Int) 32 = ((97 + d.1 : Nat) : Int) := by decide
  have := this ⟨c - 97, by omega⟩
  rwa [show 97 + (c - 97) = c by omega] at this
set_option maxHeartbeats 400000 in
theorem slower_any (c : Nat) (h1 : 97 ≤ c) (h2 : c ≤ 122) (w : World) :
    Calls Tryz.prog 360 #[.int .u8 c] w fun e w' => e = .returned (.int .u8 c) ∧ w' = w := by
  have ho := or32 c h1 h2
  go_enter Tryz.func360, Tryz.ntmps360
  go_wp2
  go_ret
  exact ⟨rfl, rfl⟩
set_option maxHeartbeats 4000000 in
set_option maxRecDepth 100000 in
theorem iParseUint_any (l : List UInt8) (n : Nat) (w : World) (h0 : l ≠ []) (hl : l.length ≤ 1048576) (hp : par36 l = some n) (hn : n < 9223372036854775808) :
    Calls Tryz.prog 351 #[str l, .int .i64 36, .int .i64 64] w fun e w' => e = .returned (.tuple #[.int .u64 n, .nilIface]) ∧ Below w.heap.size w w' := by
  have hlp : 0 < l.length := List.length_pos_iff.2 h0
  have hz : (⟨l.toArray⟩ : ByteArray).size = l.length := rfl
  have hemp : (⟨l.toArray⟩ : ByteArray).toList.isEmpty = false := by
    rw [← decide_eq_emptyBytes]
    exact decide_eq_false (fun h => by have h1 := congrArg ByteArray.size h; have h2 : ByteArray.empty.size = 0 := rfl; omega)
  have hcv := Lib.run_convert_string_bytes (P := Tryz.prog) w 9 123 5 ⟨l.toArray⟩ (u := .string) Tryz.underlying9 Tryz.underlying123 Tryz.underlying5
  have hB : ∀ j, j < l.length → (Lib.bytesWorld w 5 ⟨l.toArray⟩).cell? ⟨w.heap.size, j, none⟩ = some (.int .u8 (l.getD j 0).toNat) := fun j hj => by simpa using Lib.bytesWorld_cell w 5 ⟨l.toArray⟩ j (by rw [hz]; exact hj)
  have hbw : Below w.heap.size w (Lib.bytesWorld w 5 ⟨l.toArray⟩) := Go.Joins.below_bytesWorld _ w _ _ (Nat.le_refl _)
  obtain ⟨W1, hW1⟩ : ∃ W1, W1 = Lib.bytesWorld w 5 ⟨l.toArray⟩ := ⟨_, rfl⟩
  rw [← hW1] at hcv hB hbw
  clear hW1
  rw [hz] at hcv
  have hmv : IntKind.u64.wrap (IntKind.u64.wrap 18446744073709551616 - 1) = 18446744073709551615 := by
    rw [IntKind.wrap_u64, IntKind.wrap_u64]
    decide
  have hie : l.isEmpty = false := by simpa using h0
  go_enter Tryz.func351, Tryz.ntmps351
  go_wp2
  go_loop [12, 13, 101] (fun vu vn vi => ∃ (k : Nat) (a : Int), vu = .bool false ∧ vn = .int .u64 a ∧ vi = .int .i64 k ∧ k ≤ l.length ∧ Hid (∃ m : Nat, a = (m : Int) ∧ par36 (l.take k) = some m ∧ m ≤ n)) (fun _ _ vi => l.length - (intOf vi).toNat)
  case atStart => exact ⟨0, 0, rfl, rfl, rfl, by omega, ⟨0, rfl, rfl, Nat.zero_le _⟩⟩
  case round =>
    obtain ⟨k, a, rfl, rfl, rfl, hk, hh⟩ := hrel
    obtain ⟨m, ha, hpm, hmn⟩ := hh.out
    clear hh
    by_cases hlt : k < l.length
    · have hc := hB k hlt
      have hget : l.getD k 0 = l[k] := by simp [List.getD, hlt]
      rw [hget] at hc
      obtain ⟨d, hd, hpd, hdn⟩ := par_step hp hlt hpm
      have hvd := val36_is hd
      generalize l[k] = c at *
      have hc256 : c.toNat < 256 := c.toNat_lt
      have HN : Hid (∃ m' : Nat, a * 36 + (d : Int) = (m' : Int) ∧ par36 (l.take (k + 1)) = some m' ∧ m' ≤ n) := ⟨m * 36 + d, by rw [ha]; omega, hpd, hdn⟩
      have a0 : 0 ≤ a := by omega
      have a1 : a < 256204778801521551 := by omega
      have a2 : a * 36 + (d : Int) < 9223372036854775808 := by omega
      clear hB hget hpd hdn hpm hp hd ha hmn
      rcases hvd with ⟨h1, h2, rfl⟩ | ⟨h1, h2, rfl⟩
      · have ed : ((c.toNat - 48 : Nat) : Int) = (c.toNat : Int) - 48 := by omega
        rw [ed] at HN a2
        go_wp2
        refine ⟨⟨k + 1, a * 36 + ((c.toNat : Int) - 48), rfl, (by first | rfl | (congr 1; omega)), (by first | rfl | (congr 1; omega)), by omega, HN⟩, by simp [intOf]; omega⟩
      · have ed : ((c.toNat - 87 : Nat) : Int) = (c.toNat : Int) - 87 := by omega
        rw [ed] at HN a2
        go_wp2_with (go_at_call 360; refine (slower_any c.toNat h1 h2 _).mono ?_; rintro e w' ⟨rfl, rfl⟩)
        refine ⟨⟨k + 1, a * 36 + ((c.toNat : Int) - 87), rfl, (by first | rfl | (congr 1; omega)), (by first | rfl | (congr 1; omega)), by omega, HN⟩, by simp [intOf]; omega⟩
    · rw [List.take_of_length_le (by omega), hp] at hpm
      have hmn' : m = n := by simpa using hpm.symm
      subst hmn'
      subst ha
      clear hB hpm hp
      go_wp2
      go_ret2
      exact ⟨rfl, hbw⟩
set_option maxHeartbeats 1000000 in
set_option maxRecDepth 20000 in
theorem iParseInt_any (c : UInt8) (r : List UInt8) (n : Nat) (w : World) (hl : r.length ≤ 1048575) (hp : par36 (c :: r) = some n) (hn : n < 9223372036854775808) :
    Calls Tryz.prog 324 #[str (c :: r), .int .i64 36, .int .i64 64] w fun e w' => e = .returned (.tuple #[.int .i64 n, .nilIface]) ∧ Below w.heap.size w w' := by
  have hc := par_step hp (k := 0) (by simp) (m := 0) rfl
  obtain ⟨d, hd, _⟩ := hc
  have hcd := val36_is hd
  simp only [List.getElem_cons_zero] at hcd
  have n1 : ((c.toNat : Int) == 43) = false := by simp; omega
  have n2 : ((c.toNat : Int) == 45) = false := by simp; omega
  have hU := iParseUint_any (c :: r) n w (by simp) (by simp; omega) hp hn
  clear hcd hd hp
  obtain ⟨a, ha⟩ : ∃ a : Int, a = (n : Int) := ⟨_, rfl⟩
  rw [← ha] at hU ⊢
  have a0 : 0 ≤ a := by omega
  have a1 : a < 9223372036854775808 := by omega
  clear ha hn
  have hz : (⟨(c :: r).toArray⟩ : ByteArray).size = r.length + 1 := rfl
  have ha0 : (⟨(c :: r).toArray⟩ : ByteArray)[0]'(by rw [hz]; omega) = c := rfl
  go_enter Tryz.func324, Tryz.ntmps324
  go_wp2_with (go_at_call 351; refine hU.mono ?_; rintro e w1 ⟨rfl, hb⟩)
  go_ret2
  exact ⟨rfl, hb⟩
set_option maxHeartbeats 1000000 in
set_option maxRecDepth 20000 in
theorem ParseInt_any (c : UInt8) (r : List UInt8) (n : Nat) (w : World) (hl : r.length ≤ 1048575) (hp : par36 (c :: r) = some n) (hn : n < 9223372036854775808) :
    Calls Tryz.prog 264 #[str (c :: r), .int .i64 36, .int .i64 64] w fun e w' => e = .returned (.tuple #[.int .i64 n, .nilIface]) ∧ Below w.heap.size w w' := by
  have hU := iParseInt_any c r n w hl hp hn
  clear hp
  go_enter Tryz.func264, Tryz.ntmps264
  go_wp2_with (go_at_call 324; refine hU.mono ?_; rintro e w1 ⟨rfl, hb⟩)
  go_ret2
  exact ⟨rfl, hb⟩
end Go.Proofs.YtoabedkcieindabGreatDoor

namespace Go.Proofs.YtoabedkcieindabGreatDoor
open Go.RowKit Go.Maps Go.Sort
set_option maxHeartbeats 1000000 in
theorem HasPrefix_any (s p : List UInt8) (w : World) (_ : s.length ≤ 1048576) (_ : p.length ≤ 1048576) :
    Calls Tryz.prog 350 #[str s, str p] w fun e w' => e = .returned (.bool (p.isPrefixOf s)) ∧ w' = w := by
  have h1 : (⟨s.toArray⟩ : ByteArray).size = s.length := rfl
  have h2 : (⟨p.toArray⟩ : ByteArray).size = p.length := rfl
  by_cases hle : p.length ≤ s.length
  · have hex : (⟨s.toArray⟩ : ByteArray).extract 0 p.length = ⟨(s.take p.length).toArray⟩ := by rw [ext_bytes]; simp
    have HP : Hid (p.isPrefixOf s = (s.take p.length == p)) := by
      show _ = _
      rw [Bool.eq_iff_iff, List.isPrefixOf_iff_prefix, beq_iff_eq, List.prefix_iff_eq_take]
      exact eq_comm
    go_enter Tryz.func350, Tryz.ntmps350
    go_wp2
    go_ret
    rw [HP.out]
    exact ⟨rfl, rfl⟩
  · have HP : Hid (p.isPrefixOf s = false) := by
      show _ = _
      rw [Bool.eq_false_iff, Ne, List.isPrefixOf_iff_prefix]
      intro h
      exact hle h.length_le
    go_enter Tryz.func350, Tryz.ntmps350
    go_wp2
    go_ret
    rw [HP.out]
    exact ⟨rfl, rfl⟩
set_option maxHeartbeats 1000000 in
theorem iCutPrefix_yes (p r : List UInt8) (w : World) (hs : r.length ≤ 1000000) (hp : p.length ≤ 1000) :
    Calls Tryz.prog 323 #[str (p ++ r), str p] w fun e w' => e = .returned (.tuple #[str r, .bool true]) ∧ w' = w := by
  have h1 : (⟨(p ++ r).toArray⟩ : ByteArray).size = p.length + r.length := by show (p ++ r).length = _; simp
  have h2 : (⟨p.toArray⟩ : ByteArray).size = p.length := rfl
  have hex : (⟨(p ++ r).toArray⟩ : ByteArray).extract p.length (p.length + r.length) = ⟨r.toArray⟩ := by rw [ext_bytes]; congr 1; simp
  have hH := HasPrefix_any (p ++ r) p w (by simp; omega) (by omega)
  have hpp : p.isPrefixOf (p ++ r) = true := by simp [List.isPrefixOf_iff_prefix]
  rw [hpp] at hH
  clear hpp
  generalize p ++ r = s at *
  go_enter Tryz.func323, Tryz.ntmps323
  go_wp2_with (go_at_call 350; refine hH.mono ?_; rintro e w1 ⟨rfl, rfl⟩)
  go_ret2
  exact ⟨rfl, rfl⟩
set_option maxHeartbeats 1000000 in
theorem iCutPrefix_no (p s : List UInt8) (w : World) (hs : s.length ≤ 1000000) (hp : p.length ≤ 1000) (hn : p.isPrefixOf s = false) :
    Calls Tryz.prog 323 #[str s, str p] w fun e w' => e = .returned (.tuple #[str s, .bool false]) ∧ w' = w := by
  have hH := HasPrefix_any s p w (by omega) (by omega)
  rw [hn] at hH
  clear hn
  go_enter Tryz.func323, Tryz.ntmps323
  go_wp2_with (go_at_call 350; refine hH.mono ?_; rintro e w1 ⟨rfl, rfl⟩)
  go_ret2
  exact ⟨rfl, rfl⟩
set_option maxHeartbeats 1000000 in
theorem CutPrefix_yes (p r : List UInt8) (w : World) (hs : r.length ≤ 1000000) (hp : p.length ≤ 1000) :
    Calls Tryz.prog 263 #[str (p ++ r), str p] w fun e w' => e = .returned (.tuple #[str r, .bool true]) ∧ w' = w := by
  have hH := iCutPrefix_yes p r w hs hp
  generalize p ++ r = s at *
  go_enter Tryz.func263, Tryz.ntmps263
  go_wp2_with (go_at_call 323; refine hH.mono ?_; rintro e w1 ⟨rfl, rfl⟩)
  go_ret2
  exact ⟨rfl, rfl⟩
set_option maxHeartbeats 1000000 in
theorem CutPrefix_no (p s : List UInt8) (w : World) (hs : s.length ≤ 1000000) (hp : p.length ≤ 1000) (hn : p.isPrefixOf s = false) :
    Calls Tryz.prog 263 #[str s, str p] w fun e w' => e = .returned (.tuple #[str s, .bool false]) ∧ w' = w := by
  have hH := iCutPrefix_no p s w hs hp hn
  clear hn
  go_enter Tryz.func263, Tryz.ntmps263
  go_wp2_with (go_at_call 323; refine hH.mono ?_; rintro e w1 ⟨rfl, rfl⟩)
  go_ret2
  exact ⟨rfl, rfl⟩
set_option maxHeartbeats 1000000 in
theorem numberOf_own (p : List UInt8) (n : Nat) (w : World) (hp : p.length ≤ 1000) (hn : n < 9223372036854775808) :
    Calls Tryz.prog 183 #[str (p ++ fmt36 n), str p] w fun e w' => e = .returned (.tuple #[.int .i64 n, .bool true]) ∧ Below w.heap.size w w' := by
  have hl := fmt_len n
  have hpar := fmt_par hn
  have hF := fun w => FormatInt_any n w hn
  have hC := CutPrefix_yes p (fmt36 n) w (by omega) hp
  generalize fmt36 n = T at *
  cases T with
  | nil => simp at hl
  | cons c r =>
    have hP := fun w => ParseInt_any c r n w (by simp at hl; omega) hpar hn
    clear hpar hl
    generalize p ++ c :: r = s at *
    generalize c :: r = T at *
    obtain ⟨a, ha⟩ : ∃ a : Int, a = (n : Int) := ⟨_, rfl⟩
    rw [← ha] at hP hF ⊢
    have a0 : 0 ≤ a := by omega
    have a1 : a < 9223372036854775808 := by omega
    clear ha hn
    go_enter Tryz.func183, Tryz.ntmps183
    go_wp2_with (first
      | (go_at_call 263; refine hC.mono ?_; rintro e w1 ⟨rfl, rfl⟩)
      | (go_at_call 264; refine (hP _).mono ?_; rintro e w2 ⟨rfl, hb2⟩)
      | (go_at_call 111; refine (hF _).mono ?_; rintro e w3 ⟨rfl, hb3⟩))
    go_ret2
    exact ⟨rfl, hb2.trans (hb3.mono hb2.size)⟩
set_option maxHeartbeats 1000000 in
theorem numberOf_no (p s : List UInt8) (w : World) (hs : s.length ≤ 1000000) (hp : p.length ≤ 1000) (hn : p.isPrefixOf s = false) :
    Calls Tryz.prog 183 #[str s, str p] w fun e w' => e = .returned (.tuple #[.int .i64 0, .bool false]) ∧ w' = w := by
  have hC := CutPrefix_no p s w hs hp hn
  clear hn
  go_enter Tryz.func183, Tryz.ntmps183
  go_wp2_with (go_at_call 263; refine hC.mono ?_; rintro e w1 ⟨rfl, rfl⟩)
  go_ret2
  exact ⟨rfl, rfl⟩
def Our (s : Nm) : Prop := s = manN ∨ s = begN ∨ ∃ k, k < 9223372036854775808 ∧ (s = lgN k ∨ s = tbN k)
theorem Our.ours {s : Nm} (h : Our s) : oursN s = true := by
  unfold oursN
  rcases h with rfl | rfl | ⟨k, hk, rfl | rfl⟩
  · simp
  · simp
  · simp [lgN, numOf_fmt logP hk]
  · simp [tbN, numOf_fmt tabP hk]
abbrev logL : Value := .string ⟨#[108, 111, 103, 46]⟩
abbrev tabL : Value := .string ⟨#[116, 97, 98, 108, 101, 46]⟩
set_option maxHeartbeats 1000000 in
set_option maxRecDepth 20000 in
theorem isOurs_any (s : Nm) (w : World) (h : Our s) :
    Calls Tryz.prog 184 #[str s] w fun e w' => e = .returned (.bool true) ∧ Below w.heap.size w w' := by
  rcases h with rfl | rfl | ⟨k, hk, rfl | rfl⟩
  · have h1 : Calls Tryz.prog 183 #[.string ⟨#[109, 97, 110, 105, 102, 101, 115, 116]⟩, logL] w _ := numberOf_no logP manN w (by decide) (by decide) (by decide)
    have h2 : Calls Tryz.prog 183 #[.string ⟨#[109, 97, 110, 105, 102, 101, 115, 116]⟩, tabL] w _ := numberOf_no tabP manN w (by decide) (by decide) (by decide)
    show Calls Tryz.prog 184 #[.string ⟨#[109, 97, 110, 105, 102, 101, 115, 116]⟩] w _
    go_enter Tryz.func184, Tryz.ntmps184
    go_wp2_with (first
      | (go_at_call 183; refine h1.mono ?_; rintro e w1 ⟨rfl, rfl⟩; clear h1)
      | (go_at_call 183; refine h2.mono ?_; rintro e w1 ⟨rfl, rfl⟩))
    go_ret
    exact ⟨rfl, Below.refl _ _⟩
  · have h1 : Calls Tryz.prog 183 #[.string ⟨#[98, 101, 103, 117, 110]⟩, logL] w _ := numberOf_no logP begN w (by decide) (by decide) (by decide)
    have h2 : Calls Tryz.prog 183 #[.string ⟨#[98, 101, 103, 117, 110]⟩, tabL] w _ := numberOf_no tabP begN w (by decide) (by decide) (by decide)
    show Calls Tryz.prog 184 #[.string ⟨#[98, 101, 103, 117, 110]⟩] w _
    go_enter Tryz.func184, Tryz.ntmps184
    go_wp2_with (first
      | (go_at_call 183; refine h1.mono ?_; rintro e w1 ⟨rfl, rfl⟩; clear h1)
      | (go_at_call 183; refine h2.mono ?_; rintro e w1 ⟨rfl, rfl⟩))
    go_ret
    exact ⟨rfl, Below.refl _ _⟩
  · have hl := (fmt_len k).2
    have h1 : Calls Tryz.prog 183 #[str (logP ++ fmt36 k), logL] w _ := numberOf_own logP k w (by decide) hk
    have h2 : ∀ w, Calls Tryz.prog 183 #[str (lgN k), tabL] w _ := fun w => numberOf_no tabP (lgN k) w (by unfold lgN; simp [logP]; omega) (by decide) (by simp [lgN, tabP, logP, List.isPrefixOf])
    unfold lgN at *
    generalize logP ++ fmt36 k = s at *
    go_enter Tryz.func184, Tryz.ntmps184
    go_wp2_with (first
      | (go_at_call 183; refine h1.mono ?_; rintro e w1 ⟨rfl, hb1⟩; clear h1)
      | (go_at_call 183; refine (h2 _).mono ?_; rintro e w2 ⟨rfl, rfl⟩))
    go_ret
    exact ⟨rfl, hb1⟩
  · have hl := (fmt_len k).2
    have h1 : ∀ w, Calls Tryz.prog 183 #[str (tabP ++ fmt36 k), tabL] w _ := fun w => numberOf_own tabP k w (by decide) hk
    have h2 : ∀ w, Calls Tryz.prog 183 #[str (tbN k), logL] w _ := fun w => numberOf_no logP (tbN k) w (by unfold tbN; simp [tabP]; omega) (by decide) (by simp [tbN, tabP, logP, List.isPrefixOf])
    unfold tbN at *
    generalize tabP ++ fmt36 k = s at *
    go_enter Tryz.func184, Tryz.ntmps184
    go_wp2_with (first
      | (go_at_call 183; refine (h2 _).mono ?_; rintro e w2 ⟨rfl, rfl⟩; clear h2)
      | (go_at_call 183; refine (h1 _).mono ?_; rintro e w1 ⟨rfl, hb1⟩))
    go_ret
    exact ⟨rfl, hb1⟩
end Go.Proofs.YtoabedkcieindabGreatDoor

namespace Go.Proofs.YtoabedkcieindabGreatDoor
open Go.RowKit Go.Maps Go.Sort Go.Shelf
def needsN (log : Nat) (tabs : List Tb) (n : Nm) : Bool := n == manN || n == lgN log || tabs.any fun t => n == tbN t.number
set_option maxHeartbeats 400000 in
set_option maxRecDepth 20000 in
theorem isNeeded_any (T log : Nat) (s : Sl) (l : List Tr) (n : Nm) (w : World) (h6 : w.cell? ⟨T, 6, none⟩ = some (.int .i64 log)) (h4 : w.cell? ⟨T, 4, none⟩ = some (slV s)) (hs : TrAt w s l) (hlg : log < 9223372036854775808) (hnum : ∀ x ∈ l, x.1.number < 9223372036854775808) (hl : l.length ≤ 1000) :
    Calls Tryz.prog 186 #[.pointer (some ⟨T, 0, none⟩), str n] w fun e w' => e = .returned (.bool (needsN log (l.map (·.1)) n)) ∧ Below w.heap.size w w' := by
  obtain ⟨sa, sn, sc⟩ := s
  obtain rfl : sn = l.length := hs.len
  rw [show slV (sa, l.length, sc) = .slice sa l.length sc from rfl] at h4
  have hL := logName_any log w hlg
  by_cases h1 : n = manN
  · subst h1
    have HN : Hid (needsN log (l.map (·.1)) manN = true) := by show _ = _; simp [needsN]
    go_enter Tryz.func186, Tryz.ntmps186
    go_wp2
    go_ret
    exact ⟨by rw [HN.out]; rfl, Below.refl _ _⟩
  · have e1 : (n == [109, 97, 110, 105, 102, 101, 115, 116]) = false := by simpa [manN] using h1
    by_cases h2 : n = lgN log
    · have HN : Hid (needsN log (l.map (·.1)) n = true) := by show _ = _; simp [needsN, h2]
      subst h2
      go_enter Tryz.func186, Tryz.ntmps186
      go_wp2_with (go_at_call 63; refine hL.mono ?_; rintro e w1 ⟨rfl, hb1⟩)
      go_ret
      exact ⟨by rw [HN.out]; rfl, hb1⟩
    · have e2 : (n == lgN log) = false := by simpa using h2
      go_enter Tryz.func186, Tryz.ntmps186
      go_wp2_with (go_at_call 63; refine hL.mono ?_; rintro e w1 ⟨rfl, hb1⟩; have h41 := cell_below hb1 h4)
      go_loopw [23] (fun i wr => ∃ k : Nat, k ≤ l.length ∧ i = .int .i64 k ∧ Below w.heap.size w wr ∧ ((l.map (·.1)).take k).any (fun t => n == tbN t.number) = false) (fun i _ => l.length - (intOf i).toNat)
      case atStart => exact ⟨0, Nat.zero_le _, rfl, hb1, by simp⟩
      case round =>
        obtain ⟨k, hk, rfl, hb, hno⟩ := hrel
        by_cases hlt : k < l.length
        · have hsr := hs.below hb
          obtain ⟨g, off, e, d0⟩ := hsr.row k hlt 0 _ rfl
          obtain ⟨_, _, e', d1⟩ := hsr.row k hlt 1 _ rfl
          obtain ⟨_, _, e'', d2⟩ := hsr.row k hlt 2 _ rfl
          simp only at e e' e''
          subst e
          cases e'; cases e''
          simp only [Nat.add_zero] at d0
          rw [← Nat.add_assoc] at d1 d2
          have hTn := fun (W : World) => tableName_any l[k].1.number W (hnum _ (List.getElem_mem hlt))
          have HS : Hid (((l.map (·.1)).take (k + 1)).any (fun t => n == tbN t.number) = (n == tbN l[k].1.number)) := by
            show _ = _
            rw [List.take_succ_eq_append_getElem (by simpa using hlt), List.any_append, hno]; simp
          clear hno
          by_cases h3 : n = tbN l[k].1.number
          · have HN : Hid (needsN log (l.map (·.1)) n = true) := by
              show _ = _
              unfold needsN
              have : (l.map (·.1)).any (fun t => n == tbN t.number) = true := List.any_eq_true.2 ⟨l[k].1, List.mem_map.2 ⟨_, List.getElem_mem hlt, rfl⟩, by simp [h3]⟩
              rw [this]; simp
            have e3 : (n == tbN l[k].1.number) = true := by simpa using h3
            clear HS
            go_wp2_with (go_at_call 203; refine (hTn _).mono ?_; rintro e w2 ⟨rfl, hb2⟩)
            go_ret
            exact ⟨by rw [HN.out]; rfl, hb.trans (((Below.refl _ wr).alloc (Nat.le_refl _) _).mono hb.size |>.trans (hb2.mono (by have := hb.size; simp; omega)))⟩
          · have e3 : (n == tbN l[k].1.number) = false := by simpa using h3
            have HF : Hid (((l.map (·.1)).take (k + 1)).any (fun t => n == tbN t.number) = false) := by show _ = _; rw [HS.out]; simpa using h3
            clear HS
            go_wp2_with (go_at_call 203; refine (hTn _).mono ?_; rintro e w2 ⟨rfl, hb2⟩)
            go_roundw
            case rel => exact ⟨k + 1, by omega, by go_num, hb.trans (((Below.refl _ wr).alloc (Nat.le_refl _) _).mono hb.size |>.trans (hb2.mono (by have := hb.size; simp; omega))), HF.out⟩
            case measure => simp [intOf]; omega
        · have HN : Hid (needsN log (l.map (·.1)) n = false) := by
            show _ = _
            rw [List.take_of_length_le (by simp; omega)] at hno
            unfold needsN
            rw [hno]
            simp [h1, h2]
          clear hno
          go_wp2
          go_ret
          exact ⟨by rw [HN.out]; rfl, hb⟩
end Go.Proofs.YtoabedkcieindabGreatDoor

namespace Go.Proofs.YtoabedkcieindabGreatDoor
open Go.RowKit Go.Maps Go.Sort Go.Shelf
theorem progBelow {w w' : World} {S : Nat → Prop} {b : Nat} {d : Dk} (h : ProgAt w S b d) (k : Below w.heap.size w w') : ProgAt w' S b d := h.kept (T := fun _ => False) (Kp.of_below k) (fun _ _ f => f)
def sweepO (log : Nat) (tabs : List Tb) : List Nm → Dk → Int × Dk
  | [], d => (0, d)
  | n :: r, d => if needsN log tabs n then sweepO log tabs r d else if (d.remove n).1 ≠ 0 then d.remove n else sweepO log tabs r (d.remove n).2
theorem sweepF_own (s : Ls) : ∀ (ns : List Nm) (d : Dk), (∀ n ∈ ns, Our n) → sweepF s ns d = sweepO s.log s.tabs ns d
  | [], _, _ => rfl
  | n :: r, d, h => by
    rw [sweepF, sweepO, (h n (by simp)).ours]
    have hr : ∀ n ∈ r, Our n := fun m hm => h m (by simp [hm])
    simp only [Bool.not_true, Bool.false_or, sweepF_own s r _ hr]
    rfl
set_option maxHeartbeats 400000 in
set_option maxRecDepth 20000 in
theorem sweep_any (T bd log : Nat) (s : Sl) (l : List Tr) (d : Dk) (S : Nat → Prop) (w : World) (h0 : w.cell? ⟨T, 0, none⟩ = some (.pointer (some ⟨bd, 0, none⟩))) (h4 : w.cell? ⟨T, 4, none⟩ = some (slV s)) (h6 : w.cell? ⟨T, 6, none⟩ = some (.int .i64 log)) (hT : ¬ S T) (hs : TrAt w s l) (hsS : ∀ a, s.1 = some a → 0 < l.length → ¬ S a.block)
    (hP : ProgAt w S bd d) (hok : d.Ok) (hfl : d.files.length ≤ 1000000) (hda : d.dead = false) (hour : ∀ n ∈ nmsOf d.files, Our n) (hlen : ∀ n ∈ nmsOf d.files, n.length ≤ 1000) (hlg : log < 9223372036854775808) (hnum : ∀ x ∈ l, x.1.number < 9223372036854775808) (hl : l.length ≤ 1000) :
    Calls Tryz.prog 116 #[.pointer (some ⟨T, 0, none⟩)] w fun e w' => e = .returned (.int .i64 (sweepO log (l.map (·.1)) (nmsOf d.files) d).1) ∧ ProgAt w' (Nw S w) bd (sweepO log (l.map (·.1)) (nmsOf d.files) d).2 ∧ Kp S w w' := by
  have hN := dNames_any bd d S w hP hok (by omega) hda
  have hTl := World.block_lt_of_cell? w _ h0
  generalize hNS : nmsOf d.files = NS at *
  have hnl : NS.length ≤ 1000000 := by rw [← hNS]; simpa [nmsOf] using hfl
  clear hNS
  have hP0 : ProgAt w (fun k => S k ∧ k < w.heap.size) bd d := hP.mono (fun k hk s => ⟨s, hk⟩)
  go_enter Tryz.func116, Tryz.ntmps116
  go_wp2_with (go_at_call 34; refine hN.mono ?_; rintro e w1 ⟨v1, rfl, hb1, ho1⟩; obtain ⟨a1, c1, rfl, hcel⟩ := ownS_shape ho1)
  go_loopw [21] (fun i wr => ∃ (k : Nat) (dk : Dk), k ≤ NS.length ∧ i = .int .i64 k ∧ dk.Ok ∧ sweepO log (l.map (·.1)) NS d = sweepO log (l.map (·.1)) (NS.drop k) dk ∧ ProgAt wr (Nw (fun k => S k ∧ k < w.heap.size) w1) bd dk ∧ Kp (fun k => S k ∧ k < w.heap.size) w1 wr) (fun i _ => NS.length - (intOf i).toNat)
  case atStart => exact ⟨0, d, Nat.zero_le _, rfl, hok, rfl, (progBelow hP0 hb1).nw, Kp.refl _ _⟩
  case round =>
    obtain ⟨k, dk, hk, rfl, hokk, hsw, hPk, hkp⟩ := hrel
    have hz1 := hb1.size
    have keep : ∀ (b : Nat), b < w.heap.size → ¬ S b → wr.heap[b]? = w.heap[b]? := fun b hb hs => (hkp.block b (by omega) (fun h => hs h.1)).trans (hb1.block b hb)
    have h0r : wr.cell? ⟨T, 0, none⟩ = some (.pointer (some ⟨bd, 0, none⟩)) := (World.cell?_of_block (keep T hTl hT)).trans h0
    have h4r : wr.cell? ⟨T, 4, none⟩ = some (slV s) := (World.cell?_of_block (keep T hTl hT)).trans h4
    have h6r : wr.cell? ⟨T, 6, none⟩ = some (.int .i64 log) := (World.cell?_of_block (keep T hTl hT)).trans h6
    have hsr : TrAt wr s l := ⟨hs.len, hs.cap, hs.nil, hs.pl, fun i hi j u hu => by
      obtain ⟨g, off, e, c⟩ := hs.row i hi j u hu
      exact ⟨g, off, e, by rw [World.cell?_of_block (keep g (World.block_lt_of_cell? w _ c) (hsS _ e (by omega)))]; exact c⟩⟩
    have HSW : Hid (sweepO log (l.map (·.1)) NS d = sweepO log (l.map (·.1)) (NS.drop k) dk) := hsw
    clear hsw
    have kpw : Kp S w wr := (Kp.of_below (S := S) hb1).trans hkp (fun i hi s => s.1)
    by_cases hlt : k < NS.length
    · obtain ⟨g, rfl, hgb, cg⟩ := hcel k hlt
      have cgr : wr.cell? ⟨g, k, none⟩ = some (encS NS[k]) := (World.cell?_of_block (hkp.block g (World.block_lt_of_cell? w1 _ cg) (fun h => by omega))).trans cg
      have hO := fun (W : World) => isOurs_any NS[k] W (hour _ (List.getElem_mem hlt))
      have hNd := fun (W : World) (h : Below wr.heap.size wr W) => isNeeded_any T log s l NS[k] W (cell_below h h6r) (cell_below h h4r) (hsr.below h) hlg hnum hl
      have HD : Hid (sweepO log (l.map (·.1)) (NS.drop k) dk = if needsN log (l.map (·.1)) NS[k] then sweepO log (l.map (·.1)) (NS.drop (k + 1)) dk else if (dk.remove NS[k]).1 ≠ 0 then dk.remove NS[k] else sweepO log (l.map (·.1)) (NS.drop (k + 1)) (dk.remove NS[k]).2) := by
        show _ = _
        rw [List.drop_eq_getElem_cons hlt, sweepO]
      have hnk := hlen _ (List.getElem_mem hlt)
      clear hcel
      by_cases hnd : needsN log (l.map (·.1)) NS[k] = true
      · rw [hnd] at hNd
        go_wp2_with (first
          | (go_at_call 184; refine (hO _).mono ?_; rintro e w2 ⟨rfl, hb2⟩)
          | (go_at_call 186; refine (hNd _ hb2).mono ?_; rintro e w3 ⟨rfl, hb3⟩))
        have hb23 : Below wr.heap.size wr w3 := hb2.trans (hb3.mono hb2.size)
        go_roundw
        case rel => exact ⟨k + 1, dk, by omega, by go_num, hokk, by rw [HSW.out, HD.out, if_pos hnd], progBelow hPk hb23, hkp.trans (T := fun _ => False) (Kp.of_below hb23) (fun _ _ f => f.elim)⟩
        case measure => simp [intOf]; omega
      · have hnd' : needsN log (l.map (·.1)) NS[k] = false := by simpa using hnd
        rw [hnd'] at hNd
        have hR := fun (W : World) (h : Below wr.heap.size wr W) => dRemove_any bd dk NS[k] _ W (progBelow hPk h) hokk (by unfold maxLen; omega)
        have hro := (remove_ok hokk NS[k]).1
        have fin : ∀ {w3 w4 : World}, Below wr.heap.size wr w3 → ProgAt w4 (Nw (Nw (fun k => S k ∧ k < w.heap.size) w1) w3) bd (dk.remove NS[k]).2 → Kp (Nw (fun k => S k ∧ k < w.heap.size) w1) w3 w4 → ProgAt w4 (Nw (fun k => S k ∧ k < w.heap.size) w1) bd (dk.remove NS[k]).2 ∧ Kp (fun k => S k ∧ k < w.heap.size) w1 w4 := fun {w3 w4} hb h k3 => by
          have hz3 : w1.heap.size ≤ w3.heap.size := Nat.le_trans hkp.size hb.size
          refine ⟨h.mono (fun k _ h => h.elim id (fun h => .inr (Nat.le_trans hz3 h))), (hkp.trans (T := fun _ => False) (Kp.of_below hb) (fun _ _ f => f.elim)).trans k3 (fun i hi s => s.elim id (fun h => ?_))⟩
          omega
        by_cases hr : (dk.remove NS[k]).1 = 0
        · rw [hr] at hR
          go_wp2_with (first
            | (go_at_call 184; refine (hO _).mono ?_; rintro e w2 ⟨rfl, hb2⟩)
            | (go_at_call 186; refine (hNd _ hb2).mono ?_; rintro e w3 ⟨rfl, hb3⟩; have hb23 : Below wr.heap.size wr w3 := hb2.trans (hb3.mono hb2.size); have h03 := cell_below hb23 h0r)
            | (go_at_call 140; refine (hR _ hb23).mono ?_; rintro e w4 ⟨rfl, hP4, k4⟩))
          obtain ⟨f1, f2⟩ := fin hb23 hP4 k4
          go_roundw
          case rel => exact ⟨k + 1, _, by omega, by go_num, hro, by rw [HSW.out, HD.out, if_neg hnd, if_neg (by simpa using hr)], f1, f2⟩
          case measure => simp [intOf]; omega
        · have HQ : Hid (sweepO log (l.map (·.1)) NS d = dk.remove NS[k]) := by show _ = _; rw [HSW.out, HD.out, if_neg hnd, if_pos hr]
          clear HSW HD
          obtain ⟨rr, hrr⟩ : ∃ rr, (dk.remove NS[k]).1 = rr := ⟨_, rfl⟩
          rw [hrr] at hR hr
          have HRR : Hid ((dk.remove NS[k]).1 = rr) := hrr
          clear hrr
          go_wp2_with (first
            | (go_at_call 184; refine (hO _).mono ?_; rintro e w2 ⟨rfl, hb2⟩)
            | (go_at_call 186; refine (hNd _ hb2).mono ?_; rintro e w3 ⟨rfl, hb3⟩; have hb23 : Below wr.heap.size wr w3 := hb2.trans (hb3.mono hb2.size); have h03 := cell_below hb23 h0r)
            | (go_at_call 140; refine (hR _ hb23).mono ?_; rintro e w4 ⟨rfl, hP4, k4⟩))
          obtain ⟨f1, f2⟩ := fin hb23 hP4 k4
          go_ret
          exact ⟨by rw [HQ.out, HRR.out]; rfl, by rw [HQ.out]; exact f1.mono (fun k _ h => h.elim (fun h => .inl h.1) (fun h => .inr (Nat.le_trans hz1 h))), (Kp.of_below (S := S) hb1).trans f2 (fun i hi s => s.1)⟩
    · have E : Hid (NS.drop k = []) := List.drop_eq_nil_of_le (by omega)
      rw [E.out] at HSW
      go_wp2
      go_ret
      exact ⟨by rw [HSW.out]; rfl, by rw [HSW.out]; exact hPk.mono (fun k _ h => h.elim (fun h => .inl h.1) (fun h => .inr (Nat.le_trans hz1 h))), kpw⟩
end Go.Proofs.YtoabedkcieindabGreatDoor
