/- isNameByte, isName (the program's); named (the document's): is it a name? -/
import Derived.Test.YtaaommapcdecoaaGreatMem
namespace Go.Proofs.YtaaommapcdecoaaGreat
open Go.RowKit

theorem take_snocB (s : ByteArray) (k : Nat) (h : k < s.size) : s.data.toList.take (k + 1) = s.data.toList.take k ++ [s[k]] := by
  rw [List.take_succ_eq_append_getElem (by simpa using h)]; rfl
theorem ret_bool {a b : Bool} (h : a = b) : Ending.returned (.bool a) = .returned (.bool b) := by rw [h]
theorem ret_int {k : IntKind} {a b : Int} (h : a = b) : Ending.returned (.int k a) = .returned (.int k b) := by rw [h]

theorem nameByte_iff (c : UInt8) : nameByte c = true ↔ ((97 ≤ (c.toNat : Int) ∧ (c.toNat : Int) ≤ 122) ∨ (48 ≤ (c.toNat : Int) ∧ (c.toNat : Int) ≤ 57)) ∨ (c.toNat : Int) = 46 := by
  unfold nameByte
  simp [UInt8.le_iff_toNat_le, ← UInt8.toNat_inj]
  omega

set_option maxHeartbeats 400000 in
theorem isNameByte_any (c : UInt8) (w : World) :
    Calls Tryz.prog 116 #[.int .u8 c.toNat] w fun e w' => e = .returned (.bool (nameByte c)) ∧ w' = w := by
  have hb := nameByte_iff c
  have hc : c.toNat < 256 := c.toNat_lt
  obtain ⟨m, hm⟩ : ∃ m : Nat, m = c.toNat := ⟨_, rfl⟩
  obtain ⟨q, hq⟩ : ∃ q : Bool, q = nameByte c := ⟨_, rfl⟩
  rw [← hm] at hb ⊢; rw [← hm] at hc; rw [← hq] at hb ⊢
  clear hm hq
  have H : Hid (q = true ↔ ((97 ≤ (m : Int) ∧ (m : Int) ≤ 122) ∨ (48 ≤ (m : Int) ∧ (m : Int) ≤ 57)) ∨ (m : Int) = 46) := hb
  clear hb
  go_enter Tryz.func116, Tryz.ntmps116
  go_wp2
  all_goals go_ret
  all_goals (refine ⟨ret_bool ?_, rfl⟩; rw [Bool.eq_iff_iff, H.out]; simp; try omega)

theorem nameOk_bad {l : Nm} {k : Nat} (h : k < l.length) (hb : nameByte l[k] = false) : nameOk l = false := by
  unfold nameOk
  have : l.all nameByte = false := by
    rw [List.all_eq_false]
    exact ⟨l[k], List.getElem_mem h, by simp [hb]⟩
  simp [this]
theorem nameOk_all {l : Nm} (h1 : 1 ≤ l.length) (h2 : l.length ≤ 20) (h : l.all nameByte = true) : nameOk l = true := by
  unfold nameOk; simp only [h, h1, h2, decide_true, Bool.and_self]
theorem nameOk_len {l : Nm} (h : ¬ (1 ≤ l.length ∧ l.length ≤ 20)) : nameOk l = false := by
  unfold nameOk
  by_cases h1 : 1 ≤ l.length
  · have : ¬ l.length ≤ 20 := fun h2 => h ⟨h1, h2⟩
    simp [this]
  · simp [h1]

set_option maxHeartbeats 400000 in
theorem isName_any (s : ByteArray) (w : World) (hs : s.size ≤ maxLen) :
    Calls Tryz.prog 75 #[.string s] w fun e w' => e = .returned (.bool (nameOk s.data.toList)) ∧ w' = w := by
  unfold maxLen at hs
  by_cases h1 : 1 ≤ s.size ∧ s.size ≤ 20
  · obtain ⟨h1, h2⟩ := h1
    go_enter Tryz.func75, Tryz.ntmps75
    go_wp2
    go_loop [14] (fun i => ∃ k : Nat, k ≤ s.size ∧ i = .int .i64 k ∧ (s.data.toList.take k).all nameByte = true) (fun i => s.size - (intOf i).toNat)
    case atStart => exact ⟨0, Nat.zero_le _, rfl, rfl⟩
    case round =>
      obtain ⟨k, hk, rfl, hr⟩ := hrel
      have HR : Hid ((s.data.toList.take k).all nameByte = true) := hr
      clear hr
      by_cases hlt : k < s.size
      · go_wp2_with (go_at_call 116; refine (isNameByte_any _ _).mono ?_; rintro e w' ⟨rfl, rfl⟩)
        · have hb : (!nameByte s[k]) = true := by assumption
          go_ret
          exact ⟨ret_bool (nameOk_bad (l := s.data.toList) (k := k) (by simpa using hlt) (by simp only [Bool.not_eq_true'] at hb; exact hb)).symm, rfl⟩
        · have hb : (!nameByte s[k]) = false := by assumption
          go_round
          case rel => exact ⟨k + 1, by omega, by go_num, by rw [take_snocB s k hlt, List.all_append, HR.out]; simpa using hb⟩
          case measure => simp [intOf]; omega
      · go_wp2
        go_ret
        exact ⟨ret_bool (nameOk_all (by simpa using h1) (by simpa using h2) (by have := HR.out; rwa [List.take_of_length_le (by simp; omega)] at this)).symm, rfl⟩
  · have h0 : s.size < 1 ∨ 20 < s.size := by omega
    have E := nameOk_len (l := s.data.toList) (by simpa using h1)
    have E' : Hid (nameOk s.data.toList = false) := E
    clear E h1
    rcases h0 with h0 | h0
    all_goals
      go_enter Tryz.func75, Tryz.ntmps75
      go_wp2
      go_ret
      exact ⟨ret_bool E'.out.symm, rfl⟩

set_option maxHeartbeats 1000000 in
theorem named_any (s : ByteArray) (w : World) (hs : s.size ≤ maxLen) :
    Calls Tryz.prog 36 #[.string s] w fun e w' => e = .returned (.bool (nameOk s.data.toList)) ∧ w' = w := by
  unfold maxLen at hs
  go_enter Tryz.func36, Tryz.ntmps36
  go_wp2
  go_loop [3] (fun i => ∃ k : Nat, k ≤ s.size ∧ k ≤ 21 ∧ i = .int .i64 k ∧ (s.data.toList.take k).all nameByte = true) (fun i => s.size - (intOf i).toNat)
  case atStart => exact ⟨0, Nat.zero_le _, Nat.zero_le _, rfl, rfl⟩
  case round =>
    obtain ⟨k, hk, hk2, rfl, hr⟩ := hrel
    have HR : Hid ((s.data.toList.take k).all nameByte = true) := hr
    clear hr
    by_cases hlt : k < s.size ∧ k ≤ 20
    · obtain ⟨hlt, hlt2⟩ := hlt
      have hb := nameByte_iff s[k]
      have hm : (0 : Int) ≤ (s[k].toNat : Int) := by omega
      rcases (by omega : (97 ≤ (s[k].toNat : Int) ∧ (s[k].toNat : Int) ≤ 122) ∨ (48 ≤ (s[k].toNat : Int) ∧ (s[k].toNat : Int) ≤ 57) ∨ ((s[k].toNat : Int) = 46) ∨ ((s[k].toNat : Int) < 46) ∨ ((s[k].toNat : Int) = 47) ∨ (58 ≤ (s[k].toNat : Int) ∧ (s[k].toNat : Int) ≤ 96) ∨ 123 ≤ (s[k].toNat : Int)) with ⟨c1, c2⟩ | ⟨c1, c2⟩ | c1 | c1 | c1 | ⟨c1, c2⟩ | c1
      iterate 3
        · have H : Hid (nameByte s[k] = true) := hb.2 (by omega)
          clear hb
          go_wp2
          all_goals
            go_round
            case rel => exact ⟨k + 1, by omega, by omega, by go_num, by rw [take_snocB s k hlt, List.all_append, HR.out]; simpa using H.out⟩
            case measure => simp [intOf]; omega
      iterate 4
        · have H : Hid (nameByte s[k] = false) := Bool.eq_false_iff.2 (fun h => by have := hb.1 h; omega)
          clear hb
          have c3 : ((s[k].toNat : Int) != 46) = true := by simp; omega
          try have c4 : decide ((s[k].toNat : Int) ≤ 57) = false := by simp; omega
          try have c5 : decide ((s[k].toNat : Int) ≤ 122) = false := by simp; omega
          go_wp2
          all_goals go_ret
          all_goals exact ⟨ret_bool (nameOk_bad (l := s.data.toList) (k := k) (by simpa using hlt) H.out).symm, rfl⟩
    · by_cases h1 : 1 ≤ s.size ∧ s.size ≤ 20
      · obtain ⟨h1, h2⟩ := h1
        have hlt' : ¬ k < s.size := by omega
        have E' : Hid (nameOk s.data.toList = true) := nameOk_all (by simpa using h1) (by simpa using h2) (by have := HR.out; rwa [List.take_of_length_le (by simp; omega)] at this)
        clear hlt
        go_wp2
        go_ret
        exact ⟨ret_bool (by first | (rw [E'.out]; done) | (rw [E'.out]; simp; done) | (rw [E'.out]; simp; omega)), rfl⟩
      · have E' : Hid (nameOk s.data.toList = false) := nameOk_len (l := s.data.toList) (by simpa using h1)
        by_cases hl : k < s.size
        all_goals
          by_cases h0 : 1 ≤ s.size
          all_goals
            go_wp2
            all_goals go_ret
            all_goals exact ⟨ret_bool (by first | (rw [E'.out]; done) | (rw [E'.out]; simp; done) | (rw [E'.out]; simp; omega)), rfl⟩
end Go.Proofs.YtaaommapcdecoaaGreat
