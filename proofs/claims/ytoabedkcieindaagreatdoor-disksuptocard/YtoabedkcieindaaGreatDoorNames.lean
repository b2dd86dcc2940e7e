/- isNameByte, isName (the program's); named (the document's): is it a name? -/
import Derived.Test.YtoabedkcieindaaGreatDoorBase
namespace Go.Proofs.YtoabedkcieindaaGreatDoor
open Go.RowKit

set_option maxHeartbeats 1000000 in
theorem named_any (s : ByteArray) (w : World) (hs : s.size ≤ maxLen) :
    Calls Tryz.prog 122 #[.string s] w fun e w' => e = .returned (.bool (nameOk s.data.toList)) ∧ w' = w := by
  unfold maxLen at hs
  go_enter Tryz.func122, Tryz.ntmps122
  go_wp2
  go_loop [3] (fun i => ∃ k : Nat, k ≤ s.size ∧ k ≤ 21 ∧ i = .int .i64 k ∧ (s.data.toList.take k).all nameByte = true) (fun i => s.size - (intOf i).toNat)
  case atStart => exact ⟨0, Nat.zero_le _, Nat.zero_le _, rfl, rfl⟩
  case round =>
    obtain ⟨k, hk, hk2, rfl, hr⟩ := hrel
    have HR : Hid ((s.data.toList.take k).all nameByte = true) := hr
    clear hr
    by_cases hlt : k < s.size ∧ k ≤ 20
    · obtain ⟨hlt, hlt2⟩ := hlt
      have hb := nameByte_iff s[k]
      have hm : (0 : Int) ≤ (s[k].toNat : Int) := by omega
      rcases (by omega : (97 ≤ (s[k].toNat : Int) ∧ (s[k].toNat : Int) ≤ 122) ∨ (48 ≤ (s[k].toNat : Int) ∧ (s[k].toNat : Int) ≤ 57) ∨ ((s[k].toNat : Int) = 46) ∨ ((s[k].toNat : Int) < 46) ∨ ((s[k].toNat : Int) = 47) ∨ (58 ≤ (s[k].toNat : Int) ∧ (s[k].toNat : Int) ≤ 96) ∨ 123 ≤ (s[k].toNat : Int)) with ⟨c1, c2⟩ | ⟨c1, c2⟩ | c1 | c1 | c1 | ⟨c1, c2⟩ | c1
      iterate 3
        · have H : Hid (nameByte s[k] = true) := hb.2 (by omega)
          clear hb
          go_wp2
          all_goals
            go_round
            case rel => exact ⟨k + 1, by omega, by omega, by go_num, by rw [take_snocB s k hlt, List.all_append, HR.out]; simpa using H.out⟩
            case measure => simp [intOf]; omega
      iterate 4
        · have H : Hid (nameByte s[k] = false) := Bool.eq_false_iff.2 (fun h => by have := hb.1 h; omega)
          clear hb
          have c3 : ((s[k].toNat : Int) != 46) = true := by simp; omega
          try have c4 : decide ((s[k].toNat : Int) ≤ 57) = false := by simp; omega
          try have c5 : decide ((s[k].toNat : Int) ≤ 122) = false := by simp; omega
          go_wp2
          all_goals go_ret
          all_goals exact ⟨ret_bool (nameOk_bad (l := s.data.toList) (k := k) (by simpa using hlt) H.out).symm, rfl⟩
    · by_cases h1 : 1 ≤ s.size ∧ s.size ≤ 20
      · obtain ⟨h1, h2⟩ := h1
        have hlt' : ¬ k < s.size := by omega
        have E' : Hid (nameOk s.data.toList = true) := nameOk_all (by simpa using h1) (by simpa using h2) (by have := HR.out; rwa [List.take_of_length_le (by simp; omega)] at this)
        clear hlt
        go_wp2
        go_ret
        exact ⟨ret_bool (by first | (rw [E'.out]; done) | (rw [E'.out]; simp; done) | (rw [E'.out]; simp; omega)), rfl⟩
      · have E' : Hid (nameOk s.data.toList = false) := nameOk_len (l := s.data.toList) (by simpa using h1)
        by_cases hl : k < s.size
        all_goals
          by_cases h0 : 1 ≤ s.size
          all_goals
            go_wp2
            all_goals go_ret
            all_goals exact ⟨ret_bool (by first | (rw [E'.out]; done) | (rw [E'.out]; simp; done) | (rw [E'.out]; simp; omega)), rfl⟩

end Go.Proofs.YtoabedkcieindaaGreatDoor
