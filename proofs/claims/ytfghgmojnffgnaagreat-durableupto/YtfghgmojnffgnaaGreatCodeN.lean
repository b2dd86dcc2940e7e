/- The program's memory: between. -/
import Derived.Test.YtfghgmojnffgnaaGreatCodeM
import Derived.Maps.RangeWalk
import Derived.Sort.KeysCollected
import Derived.Sort.OwnSorted
import Derived.Maps.AppendAt
namespace Go.Proofs.YtfghgmojnffgnaaGreat
open Go.RowKit Go.Maps Go.Sort

def okB (lo hi n : Nm) : Bool := !bytesBefore n lo && (hi == [] || bytesBefore n hi)
def keysB (lo hi : Nm) (m : Mp) : List Nm := (nmsOf m).filter (okB lo hi)

theorem keys_datM (m : Mp) : strKeys (datM m) = nmsOf m := by
  show (m.map entM).map (fun p => strOf p.1) = m.map (·.1)
  rw [List.map_map]
  rfl
theorem sorted_keysB {m : Mp} (h : rising m) {ss : List (List UInt8)} (hp : ss.Perm (nmsOf m)) (lo hi : Nm) : (ss.filter (okB lo hi)).mergeSort (fun x y => decide (x ≤ y)) = keysB lo hi m := by
  rw [mergeSort_of_perm (hp.filter (okB lo hi))]
  apply List.mergeSort_of_pairwise
  refine List.Pairwise.filter _ ?_
  unfold nmsOf
  rw [List.pairwise_map]
  exact h.imp (fun hab => by simpa using before_le hab)
theorem sizeM (m : Mp) : Maps.size (datM m) = m.length := by simp [datM, Maps.size]
theorem invS (key : Value) (kl : Lit) (h : keyOf Tryz.prog 9 key = some kl) : ∃ x, key = encStr x := by
  obtain ⟨x, hx, _⟩ := Maps.keyOf_str Tryz.underlying9 h; exact ⟨x, hx⟩
theorem invV (v : Value) (y : DataW Unit × List MemPlace) (h : Rv v = some y) : ∃ c : Nm, v = ver c := by
  unfold Rv at h
  split at h
  · rename_i a
    split at h
    · rename_i s hs
      have : a = #[.string s] := by rw [← Array.toList_inj, hs]
      exact ⟨s.data.toList, by rw [this]⟩
    · cases h
  · cases h

theorem filt_no {lo hi x : Nm} (h : okB lo hi x = false) (ss : List (List UInt8)) : (ss ++ [x]).filter (okB lo hi) = ss.filter (okB lo hi) := by simp [List.filter_append, h]
theorem filt_yes {lo hi x : Nm} (h : okB lo hi x = true) (ss : List (List UInt8)) : (ss ++ [x]).filter (okB lo hi) = ss.filter (okB lo hi) ++ [x] := by simp [List.filter_append, h]

set_option maxHeartbeats 2000000 in
set_option maxRecDepth 20000 in
theorem between_any (bm : Nat) (m : Mp) (lo hi : Nm) (w : World) (hm : MAt w bm m) (hr : rising m) (hml : m.length ≤ 4194304) :
    Calls Tryz.prog 166 #[.map (some bm), str lo, str hi] w fun e w' => ∃ v, e = .returned v ∧ Below w.heap.size w w' ∧ OwnS w' w.heap.size v (keysB lo hi m) := by
  obtain ⟨i0, hi0, hz0, hz1, hz2⟩ := info_parts Tryz.info9
  have hbl := hm.lt
  go_enter Tryz.func166, Tryz.ntmps166
  go_wp2_with (first
    | (at_range; refine wpList_range_own _ rfl _ 124 rfl 9 135 keyedS Tryz.underlying124 _ bm m.length _ rfl hm ?_; intro w0 hrg0 hg0 hs0)
    | go_in)
  go_frame
  go_loopw [7] (fun v wr => ∃ (left : Lit → Bool) (cnt : Nat) (ss : List (List UInt8)), wr.ranges Tryz.prog 9 Rv bm w.heap.size m.length (datM m) left cnt ∧ ss.length + cnt ≤ m.length ∧
      wr.ownsRow w.heap.size 9 1 v (ss.filter (okB lo hi)).length ((ss.filter (okB lo hi)).map encStr) ∧ Collected (datM m) left ss ∧ Below w.heap.size w wr)
    (fun _ wr => wr.rangeLeft bm w.heap.size)
  case atStart =>
    exact ⟨_, _, [], hrg0, by simp [sizeM], World.ownsRow_nil _ _ _ _, Collected.start _, (Below.refl _ _).grown hg0 (Nat.le_refl _) (fun j hj => by cases hj)⟩
  case round =>
    obtain ⟨left, cnt, ss, hrg, hcs, hrow, hC, hnx⟩ := hrel
    go_wp2_with (first
      | (at_next; refine wpList_next_ranges _ rfl _ rfl 9 keyedS Rv encStr ver invS invV bm w.heap.size m.length _ _ _ rfl hrg ?_ ?_)
      | go_in)
    · intro hc0 hl0
      have hS := sorted_keysB hr ((hC.perm hm keyedS Tryz.underlying9 hl0).trans (by rw [keys_datM])) lo hi
      have hlen : (ss.filter (okB lo hi)).length ≤ ss.length := List.length_filter_le _ _
      rcases hrow.2 with ⟨rfl, hn⟩ | ⟨g, cap, cur, rfl, hbase, hb, h1, h2, h3, h4⟩
      · have hnil : ss.filter (okB lo hi) = [] := List.eq_nil_of_length_eq_zero hn
        rw [hnil, List.mergeSort_nil] at hS
        have hc := AnyM.slices_Sort_string_none Tryz.sort163 none 0 wr
        go_wp2_with (go_at_call 163; refine hc.mono ?_; rintro e w' ⟨rfl, rfl⟩)
        go_ret
        exact ⟨_, rfl, hnx, by rw [← hS]; exact World.ownsRow_nil _ _ _ _⟩
      · have hH : Holds encStr wr g 0 (ss.filter (okB lo hi)).toArray := holds_of_block hb (by simpa using h4)
        have hgl : g < wr.heap.size := (Array.getElem?_eq_some_iff.1 hb).1
        have hc := AnyM.slices_Sort_string Tryz.sort163 g 0 cap (ss.filter (okB lo hi)) wr hH hgl (by omega)
        go_wp2_with (go_at_call 163; refine hc.mono ?_; rintro e w' ⟨rfl, nn, os, rfl⟩)
        go_ret
        refine ⟨_, rfl, hnx.grown (grownBy_sorted _) hnx.size (fun j hj => by cases hj; exact hbase), ?_⟩
        have := ownsRow_sorted (n := nn) (os := os) (ss := ss.filter (okB lo hi)) (ts := (ss.filter (okB lo hi)).mergeSort (fun x y => decide (x ≤ y))) (by simp) hbase hb h1 h2 h3
        rw [hS] at this
        have hl2 : (keysB lo hi m).length = (ss.filter (okB lo hi)).length := by rw [← hS]; simp
        unfold OwnS
        rw [hl2]
        exact this
    · intro x c kl yd yp w2 cnt2 hkey hlk hv hat hrg2 hlt hg2 hs2 hen
      obtain ⟨x', ex, rfl, _⟩ := Maps.keyOf_str Tryz.underlying9 hkey
      obtain rfl : x = x' := encStr_inj ex
      have hrow2 := hrow.kept hg2 (Or.inr (row_ne_iter hrow hrg).symm)
      clear hs2
      go_wp2_with (first
        | (at_builtin; refine wpList_append_own _ rfl (.tmp 27) (.tmp 29) 106 rfl w.heap.size 9 i0 _ 1 16 Tryz.underlying106 hi0 hz0 hz1 hz2 rfl (by decide) _ _ _ rfl (hrow2.alloc _) ⟨w2.heap.size, 0, none⟩ 1 1 [encStr x] rfl rfl (cell_one_new _ _ _) (by simp [Value.oneCell', encStr]) (by unfold maxLen at *; have := List.length_filter_le (okB lo hi) ss; omega) (by have := List.length_filter_le (okB lo hi) ss; omega) (by have := hnx.size; have := hg2.size; simp; omega) ?_; intro v' w3 hown' hg3 hnil3; go_frame)
        | go_in)
      · have hk : okB lo hi x = false := by simp [okB, ← less_before, *]
        go_roundw
        case rel => exact ⟨_, cnt2, ss ++ [x], hrg2, by simp; omega, by rw [filt_no hk]; exact hrow2, hC.step hlk hat, hnx.grown hg2 hnx.size (fun j hj => by cases hj; exact Nat.le_refl _)⟩
        case measure => rw [hrg2.left_eq, hrg.left_eq]; exact hlt
      · have hk : okB lo hi x = true := by simp [okB, ← less_before, *]
        have hrg3 := (hrg2.alloc _).kept hg3 (row_ne_low hrow2 hbl) (row_ne_iter hrow2 hrg2)
        go_roundw
        case rel =>
          have hh : hi = [] := by assumption
          rw [← hh]
          refine ⟨_, cnt2, hrg3, ss ++ [x], by simp; omega, by rw [filt_yes hk]; simpa using hown', hC.step hlk hat, ?_⟩
          exact ((hnx.grown hg2 hnx.size (fun j hj => by cases hj; exact Nat.le_refl _)).alloc (by have := hnx.size; have := hg2.size; omega) _).grown hg3 (by have := hnx.size; have := hg2.size; simp; omega) (fun j hj => (hrow2.lt j hj).1)
        case measure => rw [hrg3.left_eq, hrg.left_eq]; exact hlt
      · have hk : okB lo hi x = true := by
          have h1 : ¬ Op.bytesLess x lo = true := by assumption
          have h2 : List.isEmpty hi = true ∨ Op.bytesLess x hi = true := by assumption
          simp only [okB, ← less_before]
          rcases h2 with h2 | h2
          · have : hi = [] := by simpa using h2
            simp [this, h1]
          · simp [h1, h2]
        have hrg3 := (hrg2.alloc _).kept hg3 (row_ne_low hrow2 hbl) (row_ne_iter hrow2 hrg2)
        go_roundw
        case rel =>
          refine ⟨_, cnt2, ss ++ [x], hrg3, by simp; omega, by rw [filt_yes hk]; simpa using hown', hC.step hlk hat, ?_⟩
          exact ((hnx.grown hg2 hnx.size (fun j hj => by cases hj; exact Nat.le_refl _)).alloc (by have := hnx.size; have := hg2.size; omega) _).grown hg3 (by have := hnx.size; have := hg2.size; simp; omega) (fun j hj => (hrow2.lt j hj).1)
        case measure => rw [hrg3.left_eq, hrg.left_eq]; exact hlt
      · have hk : okB lo hi x = false := by
          have h1 : ¬ Op.bytesLess x lo = true := by assumption
          have h2 : List.isEmpty hi = false ∧ Op.bytesLess x hi = false := by assumption
          have h3 : ¬ hi = [] := by assumption
          simp [okB, ← less_before, h2.2, h3]
        go_roundw
        case rel => exact ⟨_, cnt2, ss ++ [x], hrg2, by simp; omega, by rw [filt_no hk]; exact hrow2, hC.step hlk hat, hnx.grown hg2 hnx.size (fun j hj => by cases hj; exact Nat.le_refl _)⟩
        case measure => rw [hrg2.left_eq, hrg.left_eq]; exact hlt

end Go.Proofs.YtfghgmojnffgnaaGreat
