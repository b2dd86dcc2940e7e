/- The document's own disk (strataref): its files as a row of cells; used, burnt, find, put, without. -/
import Derived.Test.YtoabedkcieindaaGreatDoorNames
import Derived.Deep.QuietTactic
import Derived.BigQuiet
namespace Go.Proofs.YtoabedkcieindaaGreatDoor
open Go.RowKit

theorem Tryz.info172 : (Tryz.prog.info? 172).map (fun i => (i.zero, i.size, i.bytes)) = some (some (.agg #[.string ByteArray.empty, .string ByteArray.empty, .int .i64 0]), 3, 40) := by kernel_rfl

set_option maxHeartbeats 1000000 in
set_option maxRecDepth 20000 in
theorem without_any (p : Option Addr) (cap : Nat) (fs : List (Nm × Fl)) (k : Nat) (w : World) (hn : fs.length ≤ 4194304) (hk : k < fs.length) (hp : Rowp w p fs) :
    Calls Tryz.prog 128 #[.slice p fs.length cap, .int .i64 k] w fun e w' => ∃ v, e = .returned v ∧ Below w.heap.size w w' ∧ w'.ownsRow w.heap.size 172 3 v (fs.eraseIdx k).length ((fs.eraseIdx k).flatMap fcells) := by
  obtain ⟨i0, hi, hz0, hz1, hz2⟩ := info_parts Tryz.info172
  go_enter Tryz.func128, Tryz.ntmps128
  go_wp2
  go_loopw [5, 6] (fun v i wr => ∃ j : Nat, j ≤ fs.length ∧ i = .int .i64 j ∧ Below w.heap.size w wr ∧ wr.ownsRow w.heap.size 172 3 v ((fs.take j).eraseIdx k).length (((fs.take j).eraseIdx k).flatMap fcells)) (fun _ i _ => fs.length - (intOf i).toNat)
  case atStart => exact ⟨0, Nat.zero_le _, rfl, Below.refl _ _, by simpa using World.ownsRow_nil _ _ _ _⟩
  case round =>
    obtain ⟨j, hj, rfl, hbl, hown⟩ := hrel
    have hll : ((fs.take j).eraseIdx k).length ≤ 4194304 := Nat.le_trans (List.length_eraseIdx_le _ _) (by simp; omega)
    by_cases hlt : j < fs.length
    · obtain ⟨g, rfl, d0, d1, d2⟩ := hp j hlt
      have hg : g < w.heap.size := World.block_lt_of_cell? w ⟨g, j * 3, none⟩ d0
      have e0 := (hbl.cell (p := ⟨g, j * 3, none⟩) hg).trans d0
      have e1 := (hbl.cell (p := ⟨g, j * 3 + 1, none⟩) hg).trans d1
      have e2 := (hbl.cell (p := ⟨g, j * 3 + 2, none⟩) hg).trans d2
      have hsz := hbl.size
      clear d0 d1 d2 hp
      by_cases hjk : j = k
      · go_wp2
        go_roundw
        case rel => exact ⟨j + 1, by omega, by go_num, hbl, by rw [erase_snoc fs j k hlt, if_pos hjk]; exact hown⟩
        case measure => simp [intOf]; omega
      · go_wp2_with (first
          | (at_builtin; refine wpList_append_own _ rfl (.tmp 16) (.tmp 21) 166 rfl w.heap.size 172 i0 _ 3 40 Tryz.underlying166 hi hz0 hz1 hz2 rfl (by decide) _ _ _ rfl (hown.alloc _) ⟨wr.heap.size, 0, none⟩ 1 1 (fcells fs[j]) rfl rfl (by intro i u hu; match i, hu with | 0, hu => simp [fcells] at hu; subst hu; simp [Addr.add] | 1, hu => simp [fcells] at hu; subst hu; simp [Addr.add] | 2, hu => simp [fcells] at hu; subst hu; simp [Addr.add]) (by intro u hu; simp [fcells] at hu; rcases hu with rfl | rfl | rfl <;> rfl) (by unfold maxLen; omega) (by omega) (by simp; omega) ?_; intro v' w1 hown' hgrow _)
          | go_in)
        have HO : Hid (w1.ownsRow w.heap.size 172 3 v' (((List.take (j + 1) fs).eraseIdx k).length) ((((List.take (j + 1) fs).eraseIdx k)).flatMap fcells)) := by
          rw [erase_snoc fs j k hlt, if_neg hjk]; simpa [List.flatMap_append, Hid] using hown'
        have HB : Hid (Below w.heap.size w w1) := (hbl.alloc hsz _).grown hgrow (by simp; omega) (fun q hq => (hown.lt q hq).1)
        clear hown' hgrow hown e0 e1 e2
        go_wp2
        go_roundw
        case rel => exact ⟨j + 1, by omega, by go_num, HB.out, HO.out⟩
        case measure => simp [intOf]; omega
    · have : j = fs.length := by omega
      subst this
      rw [List.take_length] at hown
      go_wp2
      go_ret
      exact ⟨_, rfl, hbl, hown⟩


set_option maxHeartbeats 400000 in
theorem burnt_any (b : Nat) (q v : Value) (left : Int) (w : World) (h0 : -1 ≤ left) (h1 : left ≤ 9223372036854775807) (hb : w.heap[b]? = some (.cells #[q, v, .int .i64 left, .bool false] 168)) :
    Calls Tryz.prog 124 #[.pointer (some ⟨b, 0, none⟩)] w fun e w' => e = .returned (.bool (isNil left)) ∧ Kp (fun i => i = b) w w' ∧
      w'.heap[b]? = some (.cells (burntCells q v left) 168) := by
  obtain ⟨c0, c1, c2, c3, f0, f1, f2, f3⟩ := cells4 hb
  have HB : Hid (w.heap[b]? = some (.cells #[q, v, .int .i64 left, .bool false] 168)) := hb
  clear hb
  rcases (by omega : left = 0 ∨ 0 < left ∨ left = -1) with hl | hl | hl
  · subst hl
    go_enter Tryz.func124, Tryz.ntmps124
    go_wp2
    go_ret
    exact ⟨rfl, Kp.set1 _ _ _ _, by rw [block_set HB.out]; rfl⟩
  · go_enter Tryz.func124, Tryz.ntmps124
    go_wp2
    go_ret
    refine ⟨ret_bool (decide_eq_false (by omega)).symm, Kp.set1 _ _ _ _, ?_⟩
    rw [block_set HB.out, burntCells, if_neg (by omega), Int.max_eq_left (by omega)]; rfl
  · subst hl
    go_enter Tryz.func124, Tryz.ntmps124
    go_wp2
    go_ret
    exact ⟨rfl, Kp.refl _ _, by rw [HB.out]; rfl⟩

set_option maxHeartbeats 400000 in
theorem used_any (b cap : Nat) (p : Option Addr) (q l d : Value) (fs : List (Nm × Fl)) (w : World) (hn : fs.length ≤ 4194304) (hu : used fs ≤ 1048576) (hb : w.heap[b]? = some (.cells #[q, .slice p fs.length cap, l, d] 168)) (hp : Rowp w p fs) :
    Calls Tryz.prog 123 #[.pointer (some ⟨b, 0, none⟩)] w fun e w' => e = .returned (.int .i64 (used fs)) ∧ w' = w := by
  obtain ⟨c0, c1, c2, c3, f0, f1, f2, f3⟩ := cells4 hb
  clear hb
  go_enter Tryz.func123, Tryz.ntmps123
  go_wp2
  go_loop [3, 4] (fun n i => ∃ k : Nat, k ≤ fs.length ∧ i = .int .i64 k ∧ n = .int .i64 (used (fs.take k))) (fun _ i => fs.length - (intOf i).toNat)
  case atStart => exact ⟨0, Nat.zero_le _, rfl, rfl⟩
  case round =>
    obtain ⟨k, hk, rfl, rfl⟩ := hrel
    have h1 := used_take fs k
    by_cases hlt : k < fs.length
    · obtain ⟨g, rfl, d0, d1, d2⟩ := hp k hlt
      have HS : Hid (used (fs.take (k + 1)) = used (fs.take k) + fs[k].2.bytes.length) := used_snoc fs k hlt
      have h2 : used (fs.take k) + fs[k].2.bytes.length ≤ 1048576 := by have := used_take fs (k + 1); have := HS.out; omega
      clear hp
      go_wp2
      go_round
      case rel => exact ⟨k + 1, by omega, by go_num, by rw [HS.out]; go_num⟩
      case measure => simp [intOf]; omega
    · have : k = fs.length := by omega
      subst this
      go_wp2
      go_ret
      exact ⟨rfl, rfl⟩

set_option maxHeartbeats 400000 in
theorem yfind_any (b cap : Nat) (p : Option Addr) (q l d : Value) (fs : List (Nm × Fl)) (n : Nm) (w : World) (hn : fs.length ≤ 4194304) (hb : w.heap[b]? = some (.cells #[q, .slice p fs.length cap, l, d] 168)) (hp : Rowp w p fs) :
    Calls Tryz.prog 125 #[.pointer (some ⟨b, 0, none⟩), .string ⟨n.toArray⟩] w fun e w' => ∃ r : Int, e = .returned (.int .i64 r) ∧ w' = w ∧ Found fs n r := by
  obtain ⟨c0, c1, c2, c3, f0, f1, f2, f3⟩ := cells4 hb
  clear hb
  go_enter Tryz.func125, Tryz.ntmps125
  go_wp2
  go_loop [5] (fun i => ∃ k : Nat, k ≤ fs.length ∧ i = .int .i64 k ∧ ∀ j (h : j < k) (h' : j < fs.length), fs[j].1 ≠ n) (fun i => fs.length - (intOf i).toNat)
  case atStart => exact ⟨0, Nat.zero_le _, rfl, fun j h => by omega⟩
  case round =>
    obtain ⟨k, hk, rfl, hne⟩ := hrel
    have HN : Hid (∀ j (h : j < k) (h' : j < fs.length), fs[j].1 ≠ n) := hne
    clear hne
    by_cases hlt : k < fs.length
    · obtain ⟨g, rfl, d0, d1, d2⟩ := hp k hlt
      clear hp
      go_wp2
      · have he : (fs[k].1 == n) = true := by assumption
        go_ret
        have he' : fs[k].1 = n := by simpa using he
        exact ⟨k, rfl, rfl, .inr ⟨k, hlt, rfl, he', getF_at hlt he' (fun j hj => HN.out j hj (by omega))⟩⟩
      · have he : (fs[k].1 == n) = false := by assumption
        go_round
        case rel => exact ⟨k + 1, by omega, by go_num, fun j h h' => by
          by_cases e : j = k
          · subst e; simpa using he
          · exact HN.out j (by omega) h'⟩
        case measure => simp [intOf]; omega
    · go_wp2
      go_ret
      exact ⟨-1, rfl, rfl, .inl ⟨rfl, getF_none (fun j hj => HN.out j (by omega) hj)⟩⟩

end Go.Proofs.YtoabedkcieindaaGreatDoor
