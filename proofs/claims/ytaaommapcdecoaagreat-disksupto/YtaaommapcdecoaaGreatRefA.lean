/- The document's own disk (strataref): its files as a row of cells; used, burnt, find, put, without. -/
import Derived.Test.YtaaommapcdecoaaGreatNames
import Derived.Deep.QuietTactic
import Derived.BigQuiet
namespace Go.Proofs.YtaaommapcdecoaaGreat
open Go.RowKit

theorem cells4 {w : World} {b : Nat} {a0 a1 a2 a3 : Value} {t : TypeId} (hb : w.heap[b]? = some (.cells #[a0, a1, a2, a3] t)) :
    w.cell? ⟨b, 0, none⟩ = some a0 ∧ w.cell? ⟨b, 1, none⟩ = some a1 ∧ w.cell? ⟨b, 2, none⟩ = some a2 ∧ w.cell? ⟨b, 3, none⟩ = some a3 ∧ w.frozen? ⟨b, 0, none⟩ = false ∧ w.frozen? ⟨b, 1, none⟩ = false ∧ w.frozen? ⟨b, 2, none⟩ = false ∧ w.frozen? ⟨b, 3, none⟩ = false :=
  ⟨cell_block hb, cell_block hb, cell_block hb, cell_block hb, frozen_block hb, frozen_block hb, frozen_block hb, frozen_block hb⟩

theorem Kp.set1 (w : World) (b o : Nat) (u : Value) : Kp (fun i => i = b) w (w.setCell ⟨b, o, none⟩ u) := Kp.setCell (S := fun i => i = b) (Kp.refl _ _) (fun _ => rfl) _

def fcells (x : Nm × Fl) : List Value := [.string ⟨x.1.toArray⟩, .string ⟨x.2.bytes.toArray⟩, .int .i64 x.2.safe]

theorem flat_len (fs : List (Nm × Fl)) : (fs.flatMap fcells).length = fs.length * 3 := by
  induction fs with
  | nil => rfl
  | cons x r ih => simp only [List.flatMap_cons, List.length_append, ih, List.length_cons]; simp [fcells]; omega

theorem flat_at (fs : List (Nm × Fl)) : ∀ (k j : Nat) (h : k < fs.length), j < 3 → (fs.flatMap fcells)[k * 3 + j]? = (fcells fs[k])[j]? := by
  induction fs with
  | nil => intro k j h; simp at h
  | cons x r ih =>
    intro k j h hj
    rw [List.flatMap_cons]
    match k, h with
    | 0, _ =>
      rw [List.getElem?_append_left (by simp [fcells]; omega)]
      simp
    | k + 1, h =>
      have e : (k + 1) * 3 + j = (fcells x).length + (k * 3 + j) := by simp [fcells]; omega
      rw [e, List.getElem?_append_right (by omega), Nat.add_sub_cancel_left, ih k j (by simpa using h) hj]
      simp

/-- The slice p, of the files fs, as cells. -/
def Rowp (w : World) (p : Option Addr) (fs : List (Nm × Fl)) : Prop :=
  ∀ k (h : k < fs.length), ∃ g, p = some ⟨g, 0, none⟩ ∧ w.cell? ⟨g, k * 3, none⟩ = some (.string ⟨fs[k].1.toArray⟩) ∧ w.cell? ⟨g, k * 3 + 1, none⟩ = some (.string ⟨fs[k].2.bytes.toArray⟩) ∧ w.cell? ⟨g, k * 3 + 2, none⟩ = some (.int .i64 fs[k].2.safe)

theorem rowp {w : World} {base : Nat} {t : TypeId} {v : Value} {fs : List (Nm × Fl)} (h : w.ownsRow base t 3 v fs.length (fs.flatMap fcells)) :
    ∃ p cap, v = .slice p fs.length cap ∧ Rowp w p fs := by
  rcases h.2 with ⟨hv, hn⟩ | ⟨g, cap, cur, hv, _⟩
  · exact ⟨none, 0, by rw [hv, hn], fun k hk => by omega⟩
  · subst hv
    have hat : ∀ k (_ : k < fs.length) j, j < 3 → w.cell? ⟨g, k * 3 + j, none⟩ = (fcells fs[k])[j]? := fun k hk j hj => by
      rw [h.cellAt (k * 3 + j) (by omega), flat_at fs k j hk hj]
    exact ⟨some ⟨g, 0, none⟩, cap, rfl, fun k hk => ⟨g, rfl, hat k hk 0 (by omega), hat k hk 1 (by omega), hat k hk 2 (by omega)⟩⟩

theorem Tryz.info90 : (Tryz.prog.info? 90).map (fun i => (i.zero, i.size, i.bytes)) = some (some (.agg #[.string ByteArray.empty, .string ByteArray.empty, .int .i64 0]), 3, 40) := by kernel_rfl

theorem erase_snoc (fs : List (Nm × Fl)) (i k : Nat) (h : i < fs.length) : (fs.take (i + 1)).eraseIdx k = if i = k then (fs.take i).eraseIdx k else (fs.take i).eraseIdx k ++ [fs[i]] := by
  rw [List.take_succ_eq_append_getElem h]
  have hl : (fs.take i).length = i := by simp; omega
  split
  · rename_i e; subst e
    rw [List.eraseIdx_append_of_length_le (by omega), hl]
    simp
    rw [List.eraseIdx_of_length_le (by omega)]
  · by_cases hk : k < i
    · rw [List.eraseIdx_append_of_lt_length (by omega)]
    · rw [List.eraseIdx_append_of_length_le (by omega), hl]
      have : k - i ≠ 0 := by omega
      obtain ⟨m, hm⟩ : ∃ m, k - i = m + 1 := ⟨k - i - 1, by omega⟩
      rw [hm, List.eraseIdx_of_length_le (l := fs.take i) (by omega)]
      simp

set_option maxHeartbeats 1000000 in
set_option maxRecDepth 20000 in
theorem without_any (p : Option Addr) (cap : Nat) (fs : List (Nm × Fl)) (k : Nat) (w : World) (hn : fs.length ≤ 4194304) (hk : k < fs.length) (hp : Rowp w p fs) :
    Calls Tryz.prog 43 #[.slice p fs.length cap, .int .i64 k] w fun e w' => ∃ v, e = .returned v ∧ Below w.heap.size w w' ∧ w'.ownsRow w.heap.size 90 3 v (fs.eraseIdx k).length ((fs.eraseIdx k).flatMap fcells) := by
  obtain ⟨i0, hi, hz0, hz1, hz2⟩ := info_parts Tryz.info90
  go_enter Tryz.func43, Tryz.ntmps43
  go_wp2
  go_loopw [5, 6] (fun v i wr => ∃ j : Nat, j ≤ fs.length ∧ i = .int .i64 j ∧ Below w.heap.size w wr ∧ wr.ownsRow w.heap.size 90 3 v ((fs.take j).eraseIdx k).length (((fs.take j).eraseIdx k).flatMap fcells)) (fun _ i _ => fs.length - (intOf i).toNat)
  case atStart => exact ⟨0, Nat.zero_le _, rfl, Below.refl _ _, by simpa using World.ownsRow_nil _ _ _ _⟩
  case round =>
    obtain ⟨j, hj, rfl, hbl, hown⟩ := hrel
    have hll : ((fs.take j).eraseIdx k).length ≤ 4194304 := Nat.le_trans (List.length_eraseIdx_le _ _) (by simp; omega)
    by_cases hlt : j < fs.length
    · obtain ⟨g, rfl, d0, d1, d2⟩ := hp j hlt
      have hg : g < w.heap.size := World.block_lt_of_cell? w ⟨g, j * 3, none⟩ d0
      have e0 := (hbl.cell (p := ⟨g, j * 3, none⟩) hg).trans d0
      have e1 := (hbl.cell (p := ⟨g, j * 3 + 1, none⟩) hg).trans d1
      have e2 := (hbl.cell (p := ⟨g, j * 3 + 2, none⟩) hg).trans d2
      have hsz := hbl.size
      clear d0 d1 d2 hp
      by_cases hjk : j = k
      · go_wp2
        go_roundw
        case rel => exact ⟨j + 1, by omega, by go_num, hbl, by rw [erase_snoc fs j k hlt, if_pos hjk]; exact hown⟩
        case measure => simp [intOf]; omega
      · go_wp2_with (first
          | (at_builtin; refine wpList_append_own _ rfl (.tmp 16) (.tmp 21) 81 rfl w.heap.size 90 i0 _ 3 40 Tryz.underlying81 hi hz0 hz1 hz2 rfl (by decide) _ _ _ rfl (hown.alloc _) ⟨wr.heap.size, 0, none⟩ 1 1 (fcells fs[j]) rfl rfl (by intro i u hu; match i, hu with | 0, hu => simp [fcells] at hu; subst hu; simp [Addr.add] | 1, hu => simp [fcells] at hu; subst hu; simp [Addr.add] | 2, hu => simp [fcells] at hu; subst hu; simp [Addr.add]) (by intro u hu; simp [fcells] at hu; rcases hu with rfl | rfl | rfl <;> rfl) (by unfold maxLen; omega) (by omega) (by simp; omega) ?_; intro v' w1 hown' hgrow _)
          | go_in)
        have HO : Hid (w1.ownsRow w.heap.size 90 3 v' (((List.take (j + 1) fs).eraseIdx k).length) ((((List.take (j + 1) fs).eraseIdx k)).flatMap fcells)) := by
          rw [erase_snoc fs j k hlt, if_neg hjk]; simpa [List.flatMap_append, Hid] using hown'
        have HB : Hid (Below w.heap.size w w1) := (hbl.alloc hsz _).grown hgrow (by simp; omega) (fun q hq => (hown.lt q hq).1)
        clear hown' hgrow hown e0 e1 e2
        go_wp2
        go_roundw
        case rel => exact ⟨j + 1, by omega, by go_num, HB.out, HO.out⟩
        case measure => simp [intOf]; omega
    · have : j = fs.length := by omega
      subst this
      rw [List.take_length] at hown
      go_wp2
      go_ret
      exact ⟨_, rfl, hbl, hown⟩


def burntCells (q v : Value) (left : Int) : Array Value := if left = 0 then #[q, v, .int .i64 left, .bool true] else #[q, v, .int .i64 (max (left - 1) (-1)), .bool false]
def isNil (left : Int) : Bool := decide (left = 0)

set_option maxHeartbeats 400000 in
theorem burnt_any (b : Nat) (q v : Value) (left : Int) (w : World) (h0 : -1 ≤ left) (h1 : left ≤ 9223372036854775807) (hb : w.heap[b]? = some (.cells #[q, v, .int .i64 left, .bool false] 83)) :
    Calls Tryz.prog 38 #[.pointer (some ⟨b, 0, none⟩)] w fun e w' => e = .returned (.bool (isNil left)) ∧ Kp (fun i => i = b) w w' ∧
      w'.heap[b]? = some (.cells (burntCells q v left) 83) := by
  obtain ⟨c0, c1, c2, c3, f0, f1, f2, f3⟩ := cells4 hb
  have HB : Hid (w.heap[b]? = some (.cells #[q, v, .int .i64 left, .bool false] 83)) := hb
  clear hb
  rcases (by omega : left = 0 ∨ 0 < left ∨ left = -1) with hl | hl | hl
  · subst hl
    go_enter Tryz.func38, Tryz.ntmps38
    go_wp2
    go_ret
    exact ⟨rfl, Kp.set1 _ _ _ _, by rw [block_set HB.out]; rfl⟩
  · go_enter Tryz.func38, Tryz.ntmps38
    go_wp2
    go_ret
    refine ⟨ret_bool (decide_eq_false (by omega)).symm, Kp.set1 _ _ _ _, ?_⟩
    rw [block_set HB.out, burntCells, if_neg (by omega), Int.max_eq_left (by omega)]; rfl
  · subst hl
    go_enter Tryz.func38, Tryz.ntmps38
    go_wp2
    go_ret
    exact ⟨rfl, Kp.refl _ _, by rw [HB.out]; rfl⟩

theorem used_snoc (fs : List (Nm × Fl)) (k : Nat) (h : k < fs.length) : used (fs.take (k + 1)) = used (fs.take k) + fs[k].2.bytes.length := by
  rw [List.take_succ_eq_append_getElem h]; simp only [used, List.map_append, List.sum_append]; simp
theorem used_take (fs : List (Nm × Fl)) (k : Nat) : used (fs.take k) ≤ used fs := by
  conv => rhs; rw [← List.take_append_drop k fs]
  simp only [used, List.map_append, List.sum_append]; omega

set_option maxHeartbeats 400000 in
theorem used_any (b cap : Nat) (p : Option Addr) (q l d : Value) (fs : List (Nm × Fl)) (w : World) (hn : fs.length ≤ 4194304) (hu : used fs ≤ 1048576) (hb : w.heap[b]? = some (.cells #[q, .slice p fs.length cap, l, d] 83)) (hp : Rowp w p fs) :
    Calls Tryz.prog 37 #[.pointer (some ⟨b, 0, none⟩)] w fun e w' => e = .returned (.int .i64 (used fs)) ∧ w' = w := by
  obtain ⟨c0, c1, c2, c3, f0, f1, f2, f3⟩ := cells4 hb
  clear hb
  go_enter Tryz.func37, Tryz.ntmps37
  go_wp2
  go_loop [3, 4] (fun n i => ∃ k : Nat, k ≤ fs.length ∧ i = .int .i64 k ∧ n = .int .i64 (used (fs.take k))) (fun _ i => fs.length - (intOf i).toNat)
  case atStart => exact ⟨0, Nat.zero_le _, rfl, rfl⟩
  case round =>
    obtain ⟨k, hk, rfl, rfl⟩ := hrel
    have h1 := used_take fs k
    by_cases hlt : k < fs.length
    · obtain ⟨g, rfl, d0, d1, d2⟩ := hp k hlt
      have HS : Hid (used (fs.take (k + 1)) = used (fs.take k) + fs[k].2.bytes.length) := used_snoc fs k hlt
      have h2 : used (fs.take k) + fs[k].2.bytes.length ≤ 1048576 := by have := used_take fs (k + 1); have := HS.out; omega
      clear hp
      go_wp2
      go_round
      case rel => exact ⟨k + 1, by omega, by go_num, by rw [HS.out]; go_num⟩
      case measure => simp [intOf]; omega
    · have : k = fs.length := by omega
      subst this
      go_wp2
      go_ret
      exact ⟨rfl, rfl⟩

theorem getF_none {α : Type} {n : Nm} {fs : List (Nm × α)} (h : ∀ k (hk : k < fs.length), fs[k].1 ≠ n) : getF n fs = none := by
  induction fs with
  | nil => rfl
  | cons x r ih =>
    have h0 := h 0 (by simp)
    simp only [List.getElem_cons_zero] at h0
    rw [getF, if_neg h0]
    exact ih (fun k hk => by have := h (k + 1) (by simpa using hk); simpa using this)
theorem getF_at {α : Type} {n : Nm} {fs : List (Nm × α)} : ∀ {k : Nat} (hk : k < fs.length), fs[k].1 = n → (∀ j (hj : j < k), (fs[j]'(by omega)).1 ≠ n) → getF n fs = some fs[k].2 := by
  induction fs with
  | nil => intro k hk; simp at hk
  | cons x r ih =>
    intro k hk he hne
    match k, hk with
    | 0, _ => rw [getF, if_pos (by simpa using he)]; simp
    | k + 1, hk =>
      have h0 := hne 0 (by omega)
      simp only [List.getElem_cons_zero] at h0
      rw [getF, if_neg h0]
      have := ih (k := k) (by simpa using hk) (by simpa using he) (fun j hj => by have := hne (j + 1) (by omega); simpa using this)
      simpa using this

/-- r is the place of the file n, or -1. -/
def Found (fs : List (Nm × Fl)) (n : Nm) (r : Int) : Prop :=
  (r = -1 ∧ getF n fs = none) ∨ ∃ k, ∃ h : k < fs.length, r = k ∧ fs[k].1 = n ∧ getF n fs = some fs[k].2

set_option maxHeartbeats 400000 in
theorem yfind_any (b cap : Nat) (p : Option Addr) (q l d : Value) (fs : List (Nm × Fl)) (n : Nm) (w : World) (hn : fs.length ≤ 4194304) (hb : w.heap[b]? = some (.cells #[q, .slice p fs.length cap, l, d] 83)) (hp : Rowp w p fs) :
    Calls Tryz.prog 39 #[.pointer (some ⟨b, 0, none⟩), .string ⟨n.toArray⟩] w fun e w' => ∃ r : Int, e = .returned (.int .i64 r) ∧ w' = w ∧ Found fs n r := by
  obtain ⟨c0, c1, c2, c3, f0, f1, f2, f3⟩ := cells4 hb
  clear hb
  go_enter Tryz.func39, Tryz.ntmps39
  go_wp2
  go_loop [5] (fun i => ∃ k : Nat, k ≤ fs.length ∧ i = .int .i64 k ∧ ∀ j (h : j < k) (h' : j < fs.length), fs[j].1 ≠ n) (fun i => fs.length - (intOf i).toNat)
  case atStart => exact ⟨0, Nat.zero_le _, rfl, fun j h => by omega⟩
  case round =>
    obtain ⟨k, hk, rfl, hne⟩ := hrel
    have HN : Hid (∀ j (h : j < k) (h' : j < fs.length), fs[j].1 ≠ n) := hne
    clear hne
    by_cases hlt : k < fs.length
    · obtain ⟨g, rfl, d0, d1, d2⟩ := hp k hlt
      clear hp
      go_wp2
      · have he : (fs[k].1 == n) = true := by assumption
        go_ret
        have he' : fs[k].1 = n := by simpa using he
        exact ⟨k, rfl, rfl, .inr ⟨k, hlt, rfl, he', getF_at hlt he' (fun j hj => HN.out j hj (by omega))⟩⟩
      · have he : (fs[k].1 == n) = false := by assumption
        go_round
        case rel => exact ⟨k + 1, by omega, by go_num, fun j h h' => by
          by_cases e : j = k
          · subst e; simpa using he
          · exact HN.out j (by omega) h'⟩
        case measure => simp [intOf]; omega
    · go_wp2
      go_ret
      exact ⟨-1, rfl, rfl, .inl ⟨rfl, getF_none (fun j hj => HN.out j (by omega) hj)⟩⟩

/-- One round of put: what is gathered so far. -/
def stepPut (x : Nm × Fl) (st : Bool × List (Nm × Fl)) (y : Nm × Fl) : Bool × List (Nm × Fl) :=
  if st.1 = false ∧ bytesBefore x.1 y.1 = true then (true, st.2 ++ [x, y]) else (st.1, st.2 ++ [y])
def putK (x : Nm × Fl) (fs : List (Nm × Fl)) (k : Nat) : Bool × List (Nm × Fl) := (fs.take k).foldl (stepPut x) (false, [])
theorem putK_succ (x : Nm × Fl) (fs : List (Nm × Fl)) (k : Nat) (h : k < fs.length) : putK x fs (k + 1) = stepPut x (putK x fs k) fs[k] := by
  unfold putK; rw [List.take_succ_eq_append_getElem h, List.foldl_append]; rfl
theorem stepPut_hit {x y : Nm × Fl} (acc : List (Nm × Fl)) (h : bytesBefore x.1 y.1 = true) : stepPut x (false, acc) y = (true, acc ++ [x, y]) := by unfold stepPut; rw [if_pos ⟨rfl, h⟩]
theorem stepPut_miss {x y : Nm × Fl} (acc : List (Nm × Fl)) (h : ¬ bytesBefore x.1 y.1 = true) : stepPut x (false, acc) y = (false, acc ++ [y]) := by unfold stepPut; rw [if_neg (fun c => h c.2)]
theorem stepPut_true {x y : Nm × Fl} (acc : List (Nm × Fl)) : stepPut x (true, acc) y = (true, acc ++ [y]) := by unfold stepPut; rw [if_neg (fun c => by simp at c)]
def finPut (x : Nm × Fl) (st : Bool × List (Nm × Fl)) : List (Nm × Fl) := if st.1 = true then st.2 else st.2 ++ [x]
theorem fold_true (x : Nm × Fl) : ∀ (fs acc : List (Nm × Fl)), fs.foldl (stepPut x) (true, acc) = (true, acc ++ fs)
  | [], acc => by simp
  | y :: r, acc => by rw [List.foldl_cons, stepPut_true, fold_true x r]; simp
theorem fold_false (x : Nm × Fl) : ∀ (fs acc : List (Nm × Fl)), finPut x (fs.foldl (stepPut x) (false, acc)) = acc ++ ins x fs
  | [], acc => by simp [ins, finPut]
  | y :: r, acc => by
    rw [List.foldl_cons, ins]
    by_cases h : bytesBefore x.1 y.1 = true
    · rw [stepPut_hit _ h, fold_true, if_pos h]; simp [finPut]
    · rw [stepPut_miss _ h, if_neg h, fold_false x r]; simp
theorem putK_end (x : Nm × Fl) (fs : List (Nm × Fl)) : finPut x (putK x fs fs.length) = ins x fs := by
  unfold putK; rw [List.take_length, fold_false]; simp
theorem stepPut_len (x : Nm × Fl) (st : Bool × List (Nm × Fl)) (y : Nm × Fl) : (stepPut x st y).2.length + (if (stepPut x st y).1 = true then 0 else 1) ≤ st.2.length + (if st.1 = true then 0 else 1) + 1 := by
  unfold stepPut; split
  · rename_i h; simp [h.1]
  · simp; split <;> simp <;> omega
theorem putK_len (x : Nm × Fl) (fs : List (Nm × Fl)) : ∀ k, k ≤ fs.length → (putK x fs k).2.length + (if (putK x fs k).1 = true then 0 else 1) ≤ k + 1
  | 0, _ => by simp [putK]
  | k + 1, h => by rw [putK_succ x fs k (by omega)]; have := stepPut_len x (putK x fs k) (fs[k]'(by omega)); have := putK_len x fs k (by omega); omega

theorem less_before : ∀ a b : List UInt8, Op.bytesLess a b = bytesBefore a b
  | a, [] => by cases a <;> rfl
  | [], b :: y => rfl
  | a :: x, b :: y => by simp only [Op.bytesLess, bytesBefore, less_before x y]

theorem own_app {w1 : World} {base : Nat} {t : TypeId} {v : Value} {l m : List (Nm × Fl)} {n : Nat} (h : w1.ownsRow base t 3 v n (l.flatMap fcells ++ m.flatMap fcells)) (hn : n = (l ++ m).length) : w1.ownsRow base t 3 v (l ++ m).length ((l ++ m).flatMap fcells) := by
  rw [List.flatMap_append, ← hn]; exact h

end Go.Proofs.YtaaommapcdecoaaGreat
