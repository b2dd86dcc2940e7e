/- The statement's own small functions: num, pick, text, sameTexts. -/
import Derived.Test.YtoabedkcieindaaGreatDoorCodeJ2
import Derived.Test.YtoabedkcieindaaGreatDoorRefF
namespace Go.Proofs.YtoabedkcieindaaGreatDoor
open Go.RowKit Go.Maps Go.Sort

set_option maxHeartbeats 400000 in
theorem num_any (a : Int) (w : World) : Calls Tryz.prog 78 #[.int .i64 a] w fun e w' => e = .returned (.int .i64 a) ∧ w' = w := by
  go_enter Tryz.func78, Tryz.ntmps78
  go_wp2
  go_ret
  exact ⟨rfl, rfl⟩

/-- The byte of a number below 26. -/
def letter (m : Nat) : UInt8 := UInt8.ofNat (97 + m % 26)
def textOf (m : Nat) : List UInt8 := [109, 97, 114, 107, 32, letter m, letter (m / 26)]
theorem letter_toNat (m : Nat) : (letter m).toNat = 97 + m % 26 := by
  unfold letter
  rw [UInt8.toNat_ofNat']
  omega

set_option maxHeartbeats 400000 in
set_option maxRecDepth 20000 in
theorem text_any (m : Nat) (hm : m ≤ 1099511627776) (w : World) : Calls Tryz.prog 95 #[.int .i64 m] w fun e w' => e = .returned (.string ⟨(textOf m).toArray⟩) ∧ Below w.heap.size w w' := by
  have l0 := letter_toNat m
  have l1 := letter_toNat (m / 26)
  have hcv : (convert 91 9 (.slice (some ⟨w.heap.size, 0, none⟩) 2 2)).run Tryz.prog (w.alloc (.cells #[encB (letter m), encB (letter (m / 26))] 5)) = .ok (.string ⟨[letter m, letter (m / 26)].toArray⟩) (w.alloc (.cells #[encB (letter m), encB (letter (m / 26))] 5)) :=
    conv_bytes (l := [letter m, letter (m / 26)]) (base := 0) (World.ownsRow_lit (size := 1) w #[encB (letter m), encB (letter (m / 26))] 2 (Nat.zero_le _) (by unfold maxLen; omega) rfl)
  unfold encB at hcv
  rw [l0, l1] at hcv
  have e0 : ((97 + m % 26 : Nat) : Int) = 97 + (m : Int) % 26 := by omega
  have e1 : ((97 + m / 26 % 26 : Nat) : Int) = 97 + (m : Int) / 26 % 26 := by omega
  rw [e0, e1] at hcv
  clear e0 e1 l0 l1
  go_enter Tryz.func95, Tryz.ntmps95
  go_wp2
  go_ret
  exact ⟨rfl, (Below.refl _ _).alloc (Nat.le_refl _) _⟩

/-- A slice that holds these texts: its cells. -/
def Strp (w : World) (a : Option Addr) (l : List (List UInt8)) : Prop := ∀ i (_ : i < l.length), ∃ g, a = some ⟨g, 0, none⟩ ∧ w.cell? ⟨g, i, none⟩ = some (encS l[i])

set_option maxHeartbeats 1000000 in
set_option maxRecDepth 20000 in
theorem sameTexts_any (a b : Option Addr) (ca cb : Nat) (l : List (List UInt8)) (w : World) (hl : l.length ≤ 4194304) (ha : Strp w a l) (hb : Strp w b l) :
    Calls Tryz.prog 89 #[.slice a l.length ca, .slice b l.length cb] w fun e w' => e = .returned (.bool true) ∧ ∃ n, w' = w.drewN n := by
  go_enter Tryz.func89, Tryz.ntmps89
  go_wp2
  go_loopw [5] (fun i wr => ∃ j n : Nat, j ≤ l.length ∧ i = .int .i64 j ∧ wr = w.drewN n) (fun i _ => l.length - (intOf i).toNat)
  case atStart => exact ⟨0, 0, Nat.zero_le _, rfl, rfl⟩
  case round =>
    obtain ⟨j, n, hj, rfl, rfl⟩ := hrel
    by_cases hlt : j < l.length
    · obtain ⟨g, rfl, hc⟩ := ha j hlt
      obtain ⟨g', rfl, hc'⟩ := hb j hlt
      unfold encS at hc hc'
      clear ha hb
      go_wp2
      go_quiet (fail)
      go_wp2
      go_roundw
      case rel => exact ⟨j + 1, _, by omega, by go_num, rfl⟩
      case measure => simp [intOf]; omega
    · go_wp2
      go_ret
      exact ⟨rfl, _, rfl⟩

set_option maxHeartbeats 1000000 in
theorem pick_any (c n : Int) (w : World) (hc0 : -9223372036854775808 ≤ c) (hc1 : c ≤ 9223372036854775807) (hn : 0 < n) (hn2 : n ≤ 4194304) :
    Calls Tryz.prog 91 #[.int .i64 c, .int .i64 n] w fun e w' => ∃ r : Int, e = .returned (.int .i64 r) ∧ 0 ≤ r ∧ r < n ∧ w' = w := by
  by_cases h : c < 0
  · have HM : Hid (-(c + 1).tmod n = (-(c + 1)) % n) := by
      show _ = _
      rw [← Int.neg_tmod, Int.tmod_eq_emod_of_nonneg (by omega)]
    go_enter Tryz.func91, Tryz.ntmps91
    go_wp2
    go_ret
    exact ⟨_, rfl, by rw [HM.out]; exact Int.emod_nonneg _ (by omega), by rw [HM.out]; exact Int.emod_lt_of_pos _ hn, rfl⟩
  · go_enter Tryz.func91, Tryz.ntmps91
    go_wp2
    go_ret
    exact ⟨_, rfl, Int.emod_nonneg _ (by omega), Int.emod_lt_of_pos _ hn, rfl⟩

end Go.Proofs.YtoabedkcieindaaGreatDoor
