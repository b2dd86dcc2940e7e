/- The program's store: areOurs, slices.Contains. -/
import Derived.Test.YtfghgmojnffgnaaGreatCodeW
namespace Go.Proofs.YtfghgmojnffgnaaGreat
open Go.RowKit Go.Maps Go.Sort

def oursB (n : Nm) : Bool := (n == logN) || (n == newN)

set_option maxHeartbeats 2000000 in
theorem areOurs_any (v : Value) (l : List Nm) (base : Nat) (w : World) (ho : OwnS w base v l) (hl : l.length ≤ 4194304) :
    Calls Tryz.prog 124 #[v] w fun e w' => e = .returned (.bool (l.all oursB)) ∧ w' = w := by
  obtain ⟨a, cap, rfl, hc⟩ := ownS_shape ho
  go_enter Tryz.func124, Tryz.ntmps124
  go_wp2
  go_loop [7] (fun i => ∃ k : Nat, k ≤ l.length ∧ i = .int .i64 k ∧ (l.take k).all oursB = true) (fun i => l.length - (intOf i).toNat)
  case atStart => exact ⟨0, Nat.zero_le _, rfl, rfl⟩
  case round =>
    obtain ⟨k, hk, rfl, hr⟩ := hrel
    have HR : Hid ((l.take k).all oursB = true) := hr
    clear hr
    by_cases hlt : k < l.length
    · obtain ⟨g, rfl, _, hcell⟩ := hc k hlt
      unfold encS at hcell
      clear hc
      go_wp2
      · have hk1 : oursB l[k] = true := by simp [oursB, logN, *]
        go_round
        case rel => exact ⟨k + 1, by omega, by go_num, by rw [List.take_succ_eq_append_getElem hlt, List.all_append, HR.out]; simpa using hk1⟩
        case measure => simp [intOf]; omega
      · have hk0 : oursB l[k] = false := by
          have h2 : (!l[k] == [108, 111, 103]) = true ∧ (!l[k] == [108, 111, 103, 46, 110, 101, 119]) = true := by assumption
          simp only [Bool.not_eq_true'] at h2
          simp only [oursB, logN, newN, h2.1, h2.2, Bool.or_self]
        go_ret
        refine ⟨ret_bool ?_, rfl⟩
        symm
        rw [List.all_eq_false]
        exact ⟨l[k], List.getElem_mem hlt, by simp [hk0]⟩
      · have hk1 : oursB l[k] = true := by
          have h2 : (!l[k] == [108, 111, 103]) = false ∨ (!l[k] == [108, 111, 103, 46, 110, 101, 119]) = false := by assumption
          simp only [Bool.not_eq_false'] at h2
          rcases h2 with h2 | h2
          · simp only [oursB, logN, h2, Bool.true_or]
          · simp only [oursB, newN, h2, Bool.or_true]
        go_round
        case rel => exact ⟨k + 1, by omega, by go_num, by rw [List.take_succ_eq_append_getElem hlt, List.all_append, HR.out]; simpa using hk1⟩
        case measure => simp [intOf]; omega
    · have HE : Hid (l.all oursB = true) := by have := HR.out; rwa [List.take_of_length_le (by omega)] at this
      go_wp2
      go_ret
      exact ⟨ret_bool HE.out.symm, rfl⟩


set_option maxHeartbeats 2000000 in
theorem index_any (v : Value) (l : List Nm) (n : Nm) (base : Nat) (w : World) (ho : OwnS w base v l) (hl : l.length ≤ 4194304) :
    Calls Tryz.prog 167 #[v, str n] w fun e w' => ∃ i : Int, e = .returned (.int .i64 i) ∧ w' = w ∧ (0 ≤ i ↔ n ∈ l) := by
  obtain ⟨a, cap, rfl, hc⟩ := ownS_shape ho
  go_enter Tryz.func167, Tryz.ntmps167
  go_wp2
  go_loop [8] (fun i => ∃ k : Nat, k ≤ l.length ∧ i = .int .i64 k ∧ n ∉ l.take k) (fun i => l.length - (intOf i).toNat)
  case atStart => exact ⟨0, Nat.zero_le _, rfl, by simp⟩
  case round =>
    obtain ⟨k, hk, rfl, hr⟩ := hrel
    have HR : Hid (n ∉ l.take k) := hr
    clear hr
    by_cases hlt : k < l.length
    · obtain ⟨g, rfl, _, hcell⟩ := hc k hlt
      unfold encS at hcell
      clear hc
      go_wp2
      · have he : n = l[k] := by have h : (n == l[k]) = true := by assumption
                                 simpa using h
        go_ret
        exact ⟨k, rfl, rfl, fun _ => by rw [he]; exact List.getElem_mem hlt, fun _ => by omega⟩
      · have he : ¬ n = l[k] := by have h : (n == l[k]) = false := by assumption
                                   simpa using h
        go_round
        case rel =>
          refine ⟨k + 1, by omega, by go_num, ?_⟩
          rw [List.take_succ_eq_append_getElem hlt, List.mem_append]
          rintro (h | h)
          · exact HR.out h
          · exact he (by simpa using h)
        case measure => simp [intOf]; omega
    · have HE : Hid (n ∉ l) := by have := HR.out; rwa [List.take_of_length_le (by omega)] at this
      go_wp2
      go_ret
      exact ⟨_, rfl, rfl, fun h => absurd h (by decide), fun h => absurd h HE.out⟩

set_option maxHeartbeats 2000000 in
theorem contains_any (v : Value) (l : List Nm) (n : Nm) (base : Nat) (w : World) (ho : OwnS w base v l) (hl : l.length ≤ 4194304) :
    Calls Tryz.prog 125 #[v, str n] w fun e w' => e = .returned (.bool (decide (n ∈ l))) ∧ w' = w := by
  have hi := index_any v l n base w ho hl
  obtain ⟨a, cap, rfl, hc⟩ := ownS_shape ho
  go_enter Tryz.func125, Tryz.ntmps125
  go_wp2_with (go_at_call 167; refine hi.mono ?_; rintro e w1 ⟨i, rfl, rfl, hin⟩)
  go_ret
  exact ⟨ret_bool (by simp), rfl⟩

end Go.Proofs.YtfghgmojnffgnaaGreat
