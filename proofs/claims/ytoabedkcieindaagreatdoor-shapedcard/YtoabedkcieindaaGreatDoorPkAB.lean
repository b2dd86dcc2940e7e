import Derived.Test.YtoabedkcieindaaGreatDoorPkAA
import Derived.Deep.QuietTactic
import Derived.BigQuiet
import Derived.Deep.RegionWith
import Derived.Test.YtoabedkcieindaaGreatDoorLay
import Derived.Sort.KeysCollected
namespace Go.Proofs.YtoabedkcieindaaGreatDoor
open Go.RowKit

theorem take_snocB (s : ByteArray) (k : Nat) (h : k < s.size) : s.data.toList.take (k + 1) = s.data.toList.take k ++ [s[k]] := by
  rw [List.take_succ_eq_append_getElem (by simpa using h)]; rfl
theorem ret_bool {a b : Bool} (h : a = b) : Ending.returned (.bool a) = .returned (.bool b) := by rw [h]
theorem ret_int {k : IntKind} {a b : Int} (h : a = b) : Ending.returned (.int k a) = .returned (.int k b) := by rw [h]

theorem nameByte_iff (c : UInt8) : nameByte c = true ↔ ((97 ≤ (c.toNat : Int) ∧ (c.toNat : Int) ≤ 122) ∨ (48 ≤ (c.toNat : Int) ∧ (c.toNat : Int) ≤ 57)) ∨ (c.toNat : Int) = 46 := by
  unfold nameByte
  simp [UInt8.le_iff_toNat_le, ← UInt8.toNat_inj]
  omega

set_option maxHeartbeats 400000 in
theorem isNameByte_any (c : UInt8) (w : World) :
    Calls Tryz.prog 171 #[.int .u8 c.toNat] w fun e w' => e = .returned (.bool (nameByte c)) ∧ w' = w := by
  have hb := nameByte_iff c
  have hc : c.toNat < 256 := c.toNat_lt
  obtain ⟨m, hm⟩ : ∃ m : Nat, m = c.toNat := ⟨_, rfl⟩
  obtain ⟨q, hq⟩ : ∃ q : Bool, q = nameByte c := ⟨_, rfl⟩
  rw [← hm] at hb ⊢; rw [← hm] at hc; rw [← hq] at hb ⊢
  clear hm hq
  have H : Hid (q = true ↔ ((97 ≤ (m : Int) ∧ (m : Int) ≤ 122) ∨ (48 ≤ (m : Int) ∧ (m : Int) ≤ 57)) ∨ (m : Int) = 46) := hb
  clear hb
  go_enter Tryz.func171, Tryz.ntmps171
  go_wp2
  all_goals go_ret
  all_goals (refine ⟨ret_bool ?_, rfl⟩; rw [Bool.eq_iff_iff, H.out]; simp; try omega)

theorem nameOk_bad {l : Nm} {k : Nat} (h : k < l.length) (hb : nameByte l[k] = false) : nameOk l = false := by
  unfold nameOk
  have : l.all nameByte = false := by
    rw [List.all_eq_false]
    exact ⟨l[k], List.getElem_mem h, by simp [hb]⟩
  simp [this]
theorem nameOk_all {l : Nm} (h1 : 1 ≤ l.length) (h2 : l.length ≤ 20) (h : l.all nameByte = true) : nameOk l = true := by
  unfold nameOk; simp only [h, h1, h2, decide_true, Bool.and_self]
theorem nameOk_len {l : Nm} (h : ¬ (1 ≤ l.length ∧ l.length ≤ 20)) : nameOk l = false := by
  unfold nameOk
  by_cases h1 : 1 ≤ l.length
  · have : ¬ l.length ≤ 20 := fun h2 => h ⟨h1, h2⟩
    simp [this]
  · simp [h1]

set_option maxHeartbeats 400000 in
theorem isName_any (s : ByteArray) (w : World) (hs : s.size ≤ maxLen) :
    Calls Tryz.prog 113 #[.string s] w fun e w' => e = .returned (.bool (nameOk s.data.toList)) ∧ w' = w := by
  unfold maxLen at hs
  by_cases h1 : 1 ≤ s.size ∧ s.size ≤ 20
  · obtain ⟨h1, h2⟩ := h1
    go_enter Tryz.func113, Tryz.ntmps113
    go_wp2
    go_loop [14] (fun i => ∃ k : Nat, k ≤ s.size ∧ i = .int .i64 k ∧ (s.data.toList.take k).all nameByte = true) (fun i => s.size - (intOf i).toNat)
    case atStart => exact ⟨0, Nat.zero_le _, rfl, rfl⟩
    case round =>
      obtain ⟨k, hk, rfl, hr⟩ := hrel
      have HR : Hid ((s.data.toList.take k).all nameByte = true) := hr
      clear hr
      by_cases hlt : k < s.size
      · go_wp2_with (go_at_call 171; refine (isNameByte_any _ _).mono ?_; rintro e w' ⟨rfl, rfl⟩)
        · have hb : (!nameByte s[k]) = true := by assumption
          go_ret
          exact ⟨ret_bool (nameOk_bad (l := s.data.toList) (k := k) (by simpa using hlt) (by simp only [Bool.not_eq_true'] at hb; exact hb)).symm, rfl⟩
        · have hb : (!nameByte s[k]) = false := by assumption
          go_round
          case rel => exact ⟨k + 1, by omega, by go_num, by rw [take_snocB s k hlt, List.all_append, HR.out]; simpa using hb⟩
          case measure => simp [intOf]; omega
      · go_wp2
        go_ret
        exact ⟨ret_bool (nameOk_all (by simpa using h1) (by simpa using h2) (by have := HR.out; rwa [List.take_of_length_le (by simp; omega)] at this)).symm, rfl⟩
  · have h0 : s.size < 1 ∨ 20 < s.size := by omega
    have E := nameOk_len (l := s.data.toList) (by simpa using h1)
    have E' : Hid (nameOk s.data.toList = false) := E
    clear E h1
    rcases h0 with h0 | h0
    all_goals
      go_enter Tryz.func113, Tryz.ntmps113
      go_wp2
      go_ret
      exact ⟨ret_bool E'.out.symm, rfl⟩

theorem cells4 {w : World} {b : Nat} {a0 a1 a2 a3 : Value} {t : TypeId} (hb : w.heap[b]? = some (.cells #[a0, a1, a2, a3] t)) :
    w.cell? ⟨b, 0, none⟩ = some a0 ∧ w.cell? ⟨b, 1, none⟩ = some a1 ∧ w.cell? ⟨b, 2, none⟩ = some a2 ∧ w.cell? ⟨b, 3, none⟩ = some a3 ∧ w.frozen? ⟨b, 0, none⟩ = false ∧ w.frozen? ⟨b, 1, none⟩ = false ∧ w.frozen? ⟨b, 2, none⟩ = false ∧ w.frozen? ⟨b, 3, none⟩ = false :=
  ⟨cell_block hb, cell_block hb, cell_block hb, cell_block hb, frozen_block hb, frozen_block hb, frozen_block hb, frozen_block hb⟩

theorem Kp.set1 (w : World) (b o : Nat) (u : Value) : Kp (fun i => i = b) w (w.setCell ⟨b, o, none⟩ u) := Kp.setCell (S := fun i => i = b) (Kp.refl _ _) (fun _ => rfl) _

def fcells (x : Nm × Fl) : List Value := [.string ⟨x.1.toArray⟩, .string ⟨x.2.bytes.toArray⟩, .int .i64 x.2.safe]

theorem flat_len (fs : List (Nm × Fl)) : (fs.flatMap fcells).length = fs.length * 3 := by
  induction fs with
  | nil => rfl
  | cons x r ih => simp only [List.flatMap_cons, List.length_append, ih, List.length_cons]; simp [fcells]; omega

theorem flat_at (fs : List (Nm × Fl)) : ∀ (k j : Nat) (h : k < fs.length), j < 3 → (fs.flatMap fcells)[k * 3 + j]? = (fcells fs[k])[j]? := by
  induction fs with
  | nil => intro k j h; simp at h
  | cons x r ih =>
    intro k j h hj
    rw [List.flatMap_cons]
    match k, h with
    | 0, _ =>
      rw [List.getElem?_append_left (by simp [fcells]; omega)]
      simp
    | k + 1, h =>
      have e : (k + 1) * 3 + j = (fcells x).length + (k * 3 + j) := by simp [fcells]; omega
      rw [e, List.getElem?_append_right (by omega), Nat.add_sub_cancel_left, ih k j (by simpa using h) hj]
      simp

def Rowp (w : World) (p : Option Addr) (fs : List (Nm × Fl)) : Prop :=
  ∀ k (h : k < fs.length), ∃ g, p = some ⟨g, 0, none⟩ ∧ w.cell? ⟨g, k * 3, none⟩ = some (.string ⟨fs[k].1.toArray⟩) ∧ w.cell? ⟨g, k * 3 + 1, none⟩ = some (.string ⟨fs[k].2.bytes.toArray⟩) ∧ w.cell? ⟨g, k * 3 + 2, none⟩ = some (.int .i64 fs[k].2.safe)

theorem rowp {w : World} {base : Nat} {t : TypeId} {v : Value} {fs : List (Nm × Fl)} (h : w.ownsRow base t 3 v fs.length (fs.flatMap fcells)) :
    ∃ p cap, v = .slice p fs.length cap ∧ Rowp w p fs := by
  rcases h.2 with ⟨hv, hn⟩ | ⟨g, cap, cur, hv, _⟩
  · exact ⟨none, 0, by rw [hv, hn], fun k hk => by omega⟩
  · subst hv
    have hat : ∀ k (_ : k < fs.length) j, j < 3 → w.cell? ⟨g, k * 3 + j, none⟩ = (fcells fs[k])[j]? := fun k hk j hj => by
      rw [h.cellAt (k * 3 + j) (by omega), flat_at fs k j hk hj]
    exact ⟨some ⟨g, 0, none⟩, cap, rfl, fun k hk => ⟨g, rfl, hat k hk 0 (by omega), hat k hk 1 (by omega), hat k hk 2 (by omega)⟩⟩

theorem erase_snoc (fs : List (Nm × Fl)) (i k : Nat) (h : i < fs.length) : (fs.take (i + 1)).eraseIdx k = if i = k then (fs.take i).eraseIdx k else (fs.take i).eraseIdx k ++ [fs[i]] := by
  rw [List.take_succ_eq_append_getElem h]
  have hl : (fs.take i).length = i := by simp; omega
  split
  · rename_i e; subst e
    rw [List.eraseIdx_append_of_length_le (by omega), hl]
    simp
    rw [List.eraseIdx_of_length_le (by omega)]
  · by_cases hk : k < i
    · rw [List.eraseIdx_append_of_lt_length (by omega)]
    · rw [List.eraseIdx_append_of_length_le (by omega), hl]
      have : k - i ≠ 0 := by omega
      obtain ⟨m, hm⟩ : ∃ m, k - i = m + 1 := ⟨k - i - 1, by omega⟩
      rw [hm, List.eraseIdx_of_length_le (l := fs.take i) (by omega)]
      simp

def burntCells (q v : Value) (left : Int) : Array Value := if left = 0 then #[q, v, .int .i64 left, .bool true] else #[q, v, .int .i64 (max (left - 1) (-1)), .bool false]
def isNil (left : Int) : Bool := decide (left = 0)

theorem used_snoc (fs : List (Nm × Fl)) (k : Nat) (h : k < fs.length) : used (fs.take (k + 1)) = used (fs.take k) + fs[k].2.bytes.length := by
  rw [List.take_succ_eq_append_getElem h]; simp only [used, List.map_append, List.sum_append]; simp
theorem used_take (fs : List (Nm × Fl)) (k : Nat) : used (fs.take k) ≤ used fs := by
  conv => rhs; rw [← List.take_append_drop k fs]
  simp only [used, List.map_append, List.sum_append]; omega

theorem getF_none {α : Type} {n : Nm} {fs : List (Nm × α)} (h : ∀ k (hk : k < fs.length), fs[k].1 ≠ n) : getF n fs = none := by
  induction fs with
  | nil => rfl
  | cons x r ih =>
    have h0 := h 0 (by simp)
    simp only [List.getElem_cons_zero] at h0
    rw [getF, if_neg h0]
    exact ih (fun k hk => by have := h (k + 1) (by simpa using hk); simpa using this)
theorem getF_at {α : Type} {n : Nm} {fs : List (Nm × α)} : ∀ {k : Nat} (hk : k < fs.length), fs[k].1 = n → (∀ j (hj : j < k), (fs[j]'(by omega)).1 ≠ n) → getF n fs = some fs[k].2 := by
  induction fs with
  | nil => intro k hk; simp at hk
  | cons x r ih =>
    intro k hk he hne
    match k, hk with
    | 0, _ => rw [getF, if_pos (by simpa using he)]; simp
    | k + 1, hk =>
      have h0 := hne 0 (by omega)
      simp only [List.getElem_cons_zero] at h0
      rw [getF, if_neg h0]
      have := ih (k := k) (by simpa using hk) (by simpa using he) (fun j hj => by have := hne (j + 1) (by omega); simpa using this)
      simpa using this

def Found (fs : List (Nm × Fl)) (n : Nm) (r : Int) : Prop :=
  (r = -1 ∧ getF n fs = none) ∨ ∃ k, ∃ h : k < fs.length, r = k ∧ fs[k].1 = n ∧ getF n fs = some fs[k].2

def stepPut (x : Nm × Fl) (st : Bool × List (Nm × Fl)) (y : Nm × Fl) : Bool × List (Nm × Fl) :=
  if st.1 = false ∧ bytesBefore x.1 y.1 = true then (true, st.2 ++ [x, y]) else (st.1, st.2 ++ [y])
def putK (x : Nm × Fl) (fs : List (Nm × Fl)) (k : Nat) : Bool × List (Nm × Fl) := (fs.take k).foldl (stepPut x) (false, [])
theorem putK_succ (x : Nm × Fl) (fs : List (Nm × Fl)) (k : Nat) (h : k < fs.length) : putK x fs (k + 1) = stepPut x (putK x fs k) fs[k] := by
  unfold putK; rw [List.take_succ_eq_append_getElem h, List.foldl_append]; rfl
theorem stepPut_hit {x y : Nm × Fl} (acc : List (Nm × Fl)) (h : bytesBefore x.1 y.1 = true) : stepPut x (false, acc) y = (true, acc ++ [x, y]) := by unfold stepPut; rw [if_pos ⟨rfl, h⟩]
theorem stepPut_miss {x y : Nm × Fl} (acc : List (Nm × Fl)) (h : ¬ bytesBefore x.1 y.1 = true) : stepPut x (false, acc) y = (false, acc ++ [y]) := by unfold stepPut; rw [if_neg (fun c => h c.2)]
theorem stepPut_true {x y : Nm × Fl} (acc : List (Nm × Fl)) : stepPut x (true, acc) y = (true, acc ++ [y]) := by unfold stepPut; rw [if_neg (fun c => by simp at c)]
def finPut (x : Nm × Fl) (st : Bool × List (Nm × Fl)) : List (Nm × Fl) := if st.1 = true then st.2 else st.2 ++ [x]
theorem fold_true (x : Nm × Fl) : ∀ (fs acc : List (Nm × Fl)), fs.foldl (stepPut x) (true, acc) = (true, acc ++ fs)
  | [], acc => by simp
  | y :: r, acc => by rw [List.foldl_cons, stepPut_true, fold_true x r]; simp
theorem fold_false (x : Nm × Fl) : ∀ (fs acc : List (Nm × Fl)), finPut x (fs.foldl (stepPut x) (false, acc)) = acc ++ ins x fs
  | [], acc => by simp [ins, finPut]
  | y :: r, acc => by
    rw [List.foldl_cons, ins]
    by_cases h : bytesBefore x.1 y.1 = true
    · rw [stepPut_hit _ h, fold_true, if_pos h]; simp [finPut]
    · rw [stepPut_miss _ h, if_neg h, fold_false x r]; simp
theorem putK_end (x : Nm × Fl) (fs : List (Nm × Fl)) : finPut x (putK x fs fs.length) = ins x fs := by
  unfold putK; rw [List.take_length, fold_false]; simp
theorem stepPut_len (x : Nm × Fl) (st : Bool × List (Nm × Fl)) (y : Nm × Fl) : (stepPut x st y).2.length + (if (stepPut x st y).1 = true then 0 else 1) ≤ st.2.length + (if st.1 = true then 0 else 1) + 1 := by
  unfold stepPut; split
  · rename_i h; simp [h.1]
  · simp; split <;> simp <;> omega
theorem putK_len (x : Nm × Fl) (fs : List (Nm × Fl)) : ∀ k, k ≤ fs.length → (putK x fs k).2.length + (if (putK x fs k).1 = true then 0 else 1) ≤ k + 1
  | 0, _ => by simp [putK]
  | k + 1, h => by rw [putK_succ x fs k (by omega)]; have := stepPut_len x (putK x fs k) (fs[k]'(by omega)); have := putK_len x fs k (by omega); omega

theorem less_before : ∀ a b : List UInt8, Op.bytesLess a b = bytesBefore a b
  | a, [] => by cases a <;> rfl
  | [], b :: y => rfl
  | a :: x, b :: y => by simp only [Op.bytesLess, bytesBefore, less_before x y]

theorem own_app {w1 : World} {base : Nat} {t : TypeId} {v : Value} {l m : List (Nm × Fl)} {n : Nat} (h : w1.ownsRow base t 3 v n (l.flatMap fcells ++ m.flatMap fcells)) (hn : n = (l ++ m).length) : w1.ownsRow base t 3 v (l ++ m).length ((l ++ m).flatMap fcells) := by
  rw [List.flatMap_append, ← hn]; exact h


theorem fcells_one (x : Nm × Fl) : ∀ u ∈ fcells x, u.oneCell' = true := by intro u hu; simp [fcells] at hu; rcases hu with rfl | rfl | rfl <;> rfl
theorem fcells_at (w : World) (x : Nm × Fl) (t : TypeId) : ∀ i u, (fcells x)[i]? = some u → (w.alloc (.cells #[.string ⟨x.1.toArray⟩, .string ⟨x.2.bytes.toArray⟩, .int .i64 x.2.safe] t)).cell? ((⟨w.heap.size, 0, none⟩ : Addr).add i) = some u := by
  intro i u hu
  match i, hu with
  | 0, hu => simp [fcells] at hu; subst hu; simp [Addr.add]
  | 1, hu => simp [fcells] at hu; subst hu; simp [Addr.add]
  | 2, hu => simp [fcells] at hu; subst hu; simp [Addr.add]

theorem Rowp.below {w w' : World} {p : Option Addr} {fs : List (Nm × Fl)} (h : Rowp w p fs) (hb : Below w.heap.size w w') : Rowp w' p fs := by
  intro k hk
  obtain ⟨g, rfl, d0, d1, d2⟩ := h k hk
  have hg : g < w.heap.size := World.block_lt_of_cell? w ⟨g, k * 3, none⟩ d0
  exact ⟨g, rfl, (hb.cell (p := ⟨g, k * 3, none⟩) hg).trans d0, (hb.cell (p := ⟨g, k * 3 + 1, none⟩) hg).trans d1, (hb.cell (p := ⟨g, k * 3 + 2, none⟩) hg).trans d2⟩

theorem own_snoc {w1 : World} {base : Nat} {t : TypeId} {v : Value} {l : List (Nm × Fl)} {y : Nm × Fl} (h : w1.ownsRow base t 3 v (l.length + 1) (l.flatMap fcells ++ fcells y)) : w1.ownsRow base t 3 v (l ++ [y]).length ((l ++ [y]).flatMap fcells) := by
  simpa [List.flatMap_append] using h

theorem ownsRow_base {w : World} {base base' : Nat} {e : TypeId} {size : Nat} {v : Value} {n : Nat} {xs : List Value} (h : w.ownsRow base e size v n xs) (hb : base' ≤ base) : w.ownsRow base' e size v n xs := by
  refine ⟨h.1, ?_⟩
  rcases h.2 with hn | ⟨g, cap, cur, rfl, hbase, rest⟩
  · exact .inl hn
  · exact .inr ⟨g, cap, cur, rfl, by omega, rest⟩

def Nw (S : Nat → Prop) (w : World) (k : Nat) : Prop := S k ∨ w.heap.size ≤ k

theorem row_ne {w : World} {b g : Nat} {cs : Array Value} {t t' : TypeId} {z : Nat × Nat} {base size n : Nat} {v : Value} {xs : List Value} (hb : w.heap[b]? = some (.cells cs t z)) (h : w.ownsRow base t' size v n xs) (hg : v.ownBlock = some g) (ht : t ≠ t') : g ≠ b := by
  rintro rfl
  rcases h.2 with ⟨rfl, _⟩ | ⟨g', cap, cur, rfl, _, hgg, _⟩
  · simp [Value.ownBlock] at hg
  · simp only [Value.ownBlock, Option.some.injEq] at hg
    subst hg
    rw [hb] at hgg
    simp only [Option.some.injEq, Obj.cells.injEq] at hgg
    exact ht hgg.2.1

theorem flat_set (fs : List (Nm × Fl)) : ∀ (k j : Nat) (u : Value) (y : Nm × Fl) (_ : k < fs.length), (fcells fs[k]).set j u = fcells y → j < 3 → (fs.flatMap fcells).set (k * 3 + j) u = (fs.set k y).flatMap fcells := by
  induction fs with
  | nil => intro k j u y h; simp at h
  | cons x r ih =>
    intro k j u y h he hj
    match k, h with
    | 0, _ =>
      simp only [List.getElem_cons_zero] at he
      simp only [List.flatMap_cons, List.set_cons_zero, Nat.zero_mul, Nat.zero_add]
      rw [List.set_append_left _ _ (by simp [fcells]; omega), he]
    | k + 1, h =>
      simp only [List.flatMap_cons, List.set_cons_succ]
      have e : (k + 1) * 3 + j = (fcells x).length + (k * 3 + j) := by simp [fcells]; omega
      rw [e, List.set_append_right _ _ (by omega), Nat.add_sub_cancel_left, ih k j u y (by simpa using h) (by simpa using he) hj]

theorem before_ne {a b : Nm} (h : bytesBefore a b = true) : a ≠ b := by rintro rfl; rw [WideAt.bytes_irrefl] at h; cases h

theorem rising_at {α : Type} {fs : List (Nm × α)} (hr : rising fs) {i j : Nat} (hi : i < fs.length) (hj : j < fs.length) (h : fs[i].1 = fs[j].1) : i = j := by
  rcases Nat.lt_trichotomy i j with h1 | h1 | h1
  · exact absurd h (before_ne (List.pairwise_iff_getElem.1 hr i j hi hj h1))
  · exact h1
  · exact absurd h.symm (before_ne (List.pairwise_iff_getElem.1 hr j i hj hi h1))

theorem upd_set {α : Type} {fs : List (Nm × α)} (hr : rising fs) {k : Nat} (hk : k < fs.length) (n : Nm) (hn : fs[k].1 = n) (f : α → α) : upd n f fs = fs.set k (n, f fs[k].2) := by
  subst hn
  apply List.ext_getElem
  · simp [upd]
  · intro i h1 h2
    simp only [upd, List.getElem_map, List.getElem_set]
    split
    · rename_i he
      have := rising_at hr (by simpa [upd] using h1) hk he
      subst this
      simp
    · rename_i he
      rw [if_neg (by rintro rfl; exact he rfl)]

theorem del_erase {α : Type} {fs : List (Nm × α)} (hr : rising fs) {k : Nat} (hk : k < fs.length) : del fs[k].1 fs = fs.eraseIdx k := by
  induction fs generalizing k with
  | nil => simp at hk
  | cons x r ih =>
    match k, hk with
    | 0, _ =>
      simp only [List.getElem_cons_zero, List.eraseIdx_cons_zero, del, List.filter_cons]
      rw [if_neg (by simp)]
      rw [List.filter_eq_self]
      intro y hy
      have := before_ne ((List.pairwise_cons.1 hr).1 y hy)
      simpa using fun e => this e.symm
    | k + 1, hk =>
      have hk' : k < r.length := by simpa using hk
      have := before_ne ((List.pairwise_cons.1 hr).1 r[k] (List.getElem_mem hk'))
      simp only [List.getElem_cons_succ, List.eraseIdx_cons_succ, del, List.filter_cons]
      rw [if_pos (by simpa using this)]
      have := ih (List.pairwise_cons.1 hr).2 hk'
      rw [← this]; rfl

theorem Found.none {fs : List (Nm × Fl)} {n : Nm} {r : Int} (h : Found fs n r) (hr : getF n fs = none) : r = -1 := by
  rcases h with h | ⟨k, hk, _, _, h4⟩
  · exact h.1
  · rw [hr] at h4; cases h4
theorem Found.some {fs : List (Nm × Fl)} {n : Nm} {r : Int} {f : Fl} (h : Found fs n r) (hr : getF n fs = some f) : ∃ k, ∃ h : k < fs.length, r = k ∧ fs[k].1 = n ∧ fs[k].2 = f := by
  rcases h with h | ⟨k, hk, h1, h2, h4⟩
  · rw [hr] at h; cases h.2
  · exact ⟨k, hk, h1, h2, by rw [hr] at h4; simpa using h4.symm⟩

theorem Kp.put {S : Nat → Prop} {a w : World} (h : Kp S a w) {g o : Nat} (hs : S g) (u : Value) : Kp S a (w.setCell ⟨g, o, none⟩ u) := h.setCell (fun _ => hs) u
theorem Kp.b {S : Nat → Prop} {a w : World} {b : Nat} (h : Kp (fun i => i = b) a w) (hs : S b) : Kp S a w := h.mono (fun i hi => by subst hi; exact hs)

theorem used_ge (fs : List (Nm × Fl)) (k : Nat) (h : k < fs.length) : fs[k].2.bytes.length ≤ used fs := by
  have := used_snoc fs k h
  have := used_take fs (k + 1)
  omega

theorem getF_mem {α : Type} {n : Nm} {f : α} : ∀ {fs : List (Nm × α)}, getF n fs = some f → (n, f) ∈ fs
  | [], h => by cases h
  | x :: r, h => by
    rw [getF] at h
    split at h
    · rename_i e; subst e; simp only [Option.some.injEq] at h; subst h; exact List.mem_cons_self ..
    · exact List.mem_cons_of_mem _ (getF_mem h)

theorem Kp.und {S : Nat → Prop} {a w : World} {m : Nat} (h : Kp S (a.drewN m) w) : Kp S a w := ⟨h.os, h.tape, h.output, h.size, h.block⟩
theorem Kp.drewN {S : Nat → Prop} {a w : World} (h : Kp S a w) (m : Nat) : Kp S a (w.drewN m) := ⟨h.os, h.tape, h.output, h.size, h.block⟩

def quotaOk (q : Int) : Bool := decide (0 ≤ q) && decide (q ≤ 1048576)
def newDk (q : Int) : Dk := ⟨q.toNat, [], -1, false, 0⟩

theorem block_at2 {w1 w2 : World} {b : Nat} {o : Obj} (hb : w1.heap[b]? = some o) (hbl : Below w1.heap.size w1 w2) : w2.heap[b]? = some o := (hbl.block b (lt_of_block hb)).trans hb
theorem getF_del_ne {α : Type} {n m : Nm} (h : m ≠ n) : ∀ (fs : List (Nm × α)), getF m (del n fs) = getF m fs
  | [] => rfl
  | x :: r => by
    by_cases e : x.1 = n
    · have e' : ¬ x.1 = m := fun e2 => h (e2 ▸ e)
      have : del n (x :: r) = del n r := by simp [del, e]
      rw [this, getF, if_neg e', getF_del_ne h r]
    · have : del n (x :: r) = x :: del n r := by simp [del, e]
      rw [this, getF, getF]
      split
      · rfl
      · exact getF_del_ne h r
theorem del_none {α : Type} {m : Nm} {fs : List (Nm × α)} (h : getF m fs = none) : del m fs = fs := by
  induction fs with
  | nil => rfl
  | cons x r ih =>
    rw [getF] at h
    split at h
    · cases h
    · rename_i e
      have := ih h
      simp only [del, List.filter_cons] at this ⊢
      rw [if_pos (by simpa using e), this]
theorem rising_del {α : Type} {m : Nm} {fs : List (Nm × α)} (h : rising fs) : rising (del m fs) := List.Pairwise.filter _ h

theorem kpNw {S : Nat → Prop} {a w : World} (h : Kp (Nw S a) a w) : Kp S a w := ⟨h.os, h.tape, h.output, h.size, fun k hk hs => h.block k hk (fun n => n.elim hs (fun h => absurd h (by omega)))⟩

theorem cells3 {w : World} {b : Nat} {a0 a1 a2 : Value} {t : TypeId} (hb : w.heap[b]? = some (.cells #[a0, a1, a2] t)) :
    w.cell? ⟨b, 0, none⟩ = some a0 ∧ w.cell? ⟨b, 1, none⟩ = some a1 ∧ w.cell? ⟨b, 2, none⟩ = some a2 ∧ w.frozen? ⟨b, 0, none⟩ = false ∧ w.frozen? ⟨b, 1, none⟩ = false ∧ w.frozen? ⟨b, 2, none⟩ = false :=
  ⟨cell_block hb, cell_block hb, cell_block hb, frozen_block hb, frozen_block hb, frozen_block hb⟩

theorem Tryz.info9 : (Tryz.prog.info? 9).map (fun i => (i.zero, i.size, i.bytes)) = some (some (.string ByteArray.empty), 1, 16) := by kernel_rfl

def encS (l : List UInt8) : Value := .string ⟨l.toArray⟩

def OwnS (w : World) (base : Nat) (v : Value) (l : List (List UInt8)) : Prop := w.ownsRow base 9 1 v l.length (l.map encS)
def nmsOf {α : Type} (L : List (Nm × α)) : List (List UInt8) := L.map (·.1)

theorem one_at (w : World) (u : Value) (t : TypeId) : ∀ i x, [u][i]? = some x → (w.alloc (.cells #[u] t)).cell? ((⟨w.heap.size, 0, none⟩ : Addr).add i) = some x := by
  intro i x hx
  match i, hx with
  | 0, hx => simp at hx; subst hx; simp [Addr.add]

theorem own_snoc1 {w1 : World} {base : Nat} {t : TypeId} {v : Value} {l : List (List UInt8)} {y : List UInt8} (h : w1.ownsRow base t 1 v (l.length + 1) (l.map encS ++ [encS y])) : w1.ownsRow base t 1 v (l ++ [y]).length ((l ++ [y]).map encS) := by
  simpa using h

theorem crashL_len : ∀ (ks : List Int) (fs : List (Nm × Fl)), (crashL ks fs).length = fs.length
  | _, [] => by cases ‹List Int› <;> rfl
  | [], x :: r => by simp [crashL, crashL_len [] r]
  | k :: ks, x :: r => by simp [crashL, crashL_len ks r]
theorem crashL_at : ∀ (ks : List Int) (fs : List (Nm × Fl)) (i : Nat) (h : i < fs.length), (crashL ks fs)[i]'(by rw [crashL_len]; exact h) = (fs[i].1, kept (ks.getD i 0) fs[i].2)
  | [], x :: r, 0, _ => by simp [crashL]
  | [], x :: r, i + 1, h => by
    have := crashL_at [] r i (by simpa using h)
    simpa [crashL] using this
  | k :: ks, x :: r, 0, _ => by simp [crashL]
  | k :: ks, x :: r, i + 1, h => by
    have := crashL_at ks r i (by simpa using h)
    simpa [crashL] using this

def crashK (ks : List Int) (fs : List (Nm × Fl)) (j : Nat) : List (Nm × Fl) := (crashL ks fs).take j ++ fs.drop j
theorem crashK_len (ks : List Int) (fs : List (Nm × Fl)) (j : Nat) : (crashK ks fs j).length = fs.length := by simp [crashK, crashL_len]; omega
theorem crashK_here (ks : List Int) (fs : List (Nm × Fl)) (j : Nat) (h : j < fs.length) : (crashK ks fs j)[j]'(by rw [crashK_len]; exact h) = fs[j] := by
  have hl : ((crashL ks fs).take j).length = j := by simp [crashL_len]; omega
  simp only [crashK]
  rw [List.getElem_append_right (by omega)]
  simp [hl]
theorem crashK_succ (ks : List Int) (fs : List (Nm × Fl)) (j : Nat) (h : j < fs.length) : crashK ks fs (j + 1) = (crashK ks fs j).set j (fs[j].1, kept (ks.getD j 0) fs[j].2) := by
  have hl : ((crashL ks fs).take j).length = j := by simp [crashL_len]; omega
  have h' : j < (crashL ks fs).length := by rw [crashL_len]; exact h
  simp only [crashK]
  rw [List.take_succ_eq_append_getElem h', crashL_at ks fs j h, List.set_append_right _ _ (by omega), hl, Nat.sub_self]
  simp only [List.append_assoc, List.singleton_append]
  conv => rhs; rw [List.drop_eq_getElem_cons h]
  rw [List.set_cons_zero]
theorem crashK_end (ks : List Int) (fs : List (Nm × Fl)) : crashK ks fs fs.length = crashL ks fs := by
  simp [crashK, List.take_of_length_le, crashL_len]

def Intp (w : World) (q : Option Addr) (ks : List Int) : Prop := ∀ i (h : i < ks.length), ∃ g off, q = some ⟨g, off, none⟩ ∧ w.cell? ⟨g, off + i, none⟩ = some (.int .i64 ks[i])

theorem Intp.kept {S : Nat → Prop} {w w' : World} {q : Option Addr} {ks : List Int} (h : Intp w q ks) (k : Kp S w w') (hq : ∀ a, q = some a → 0 < ks.length → ¬ S a.block) : Intp w' q ks := by
  intro i hi
  obtain ⟨g, off, rfl, hc⟩ := h i hi
  refine ⟨g, off, rfl, ?_⟩
  rw [World.cell?_of_block (w := w) (k.block g (World.block_lt_of_cell? w ⟨g, off + i, none⟩ hc) (hq _ rfl (by omega)))]
  exact hc

def keptN (k : Int) (f : Fl) : Nat := f.safe + min k.toNat (f.bytes.length - f.safe)

theorem getD_in {ks : List Int} {j : Nat} (h : j < ks.length) : ks.getD j 0 = ks[j] := by simp [List.getD, h]
theorem getD_out {ks : List Int} {j : Nat} (h : ks.length ≤ j) : ks.getD j 0 = 0 := by simp [List.getD, h]

end Go.Proofs.YtoabedkcieindaaGreatDoor

namespace Go.Proofs.YtoabedkcieindaaGreatDoor
open Go.RowKit Go.Maps Go.Sort Go.Shelf

theorem slClone_any (s : ByteArray) (w : World) (hlim : s.size ≤ 281474976710656) :
    Calls Tryz.prog 178 #[.string s] w fun e w' => e = .returned (.string s) ∧ Below w.heap.size w w' := Any.stringslite_Clone Tryz.laysM316 s w hlim

set_option maxHeartbeats 400000 in
theorem sClone_any (s : ByteArray) (w : World) (hlim : s.size ≤ 281474976710656) :
    Calls Tryz.prog 119 #[.string s] w fun e w' => e = .returned (.string s) ∧ Below w.heap.size w w' := by
  go_enter Tryz.func119, Tryz.ntmps119
  go_wp2_with (go_at_call 178; refine (slClone_any s w hlim).mono ?_; rintro e w' ⟨rfl, hb⟩)
  go_ret
  exact ⟨rfl, hb⟩

theorem sorts (m : Nat) : AnyZ.SortsIn Tryz.prog Tryz.sorted154_ren Fence.wide m :=
  ⟨fun blk off cap ss W hH hblk hsz => callsIn_wide.2 (AnyM.slices_Sort_string Tryz.sort207 blk off cap ss W hH hblk hsz),
   fun p cap W => callsIn_wide.2 (AnyM.slices_Sort_string_none Tryz.sort207 p cap W)⟩

theorem keys_any (mb : Option Nat) (W : World) : CallsIn Fence.wide 5 Tryz.prog 155 #[.map mb] W fun e w' => e = .returned (.func (.func 208) #[] #[.pointer (some ⟨W.heap.size, 0, none⟩)]) ∧ w' = W.alloc (.cells #[.map mb] 146) :=
  AnyZ.keys_in Tryz.keys155 Fence.wide 5 trivial rfl mb W

set_option maxHeartbeats 1000000 in
theorem sorted_any {H : Type} (b nn : Nat) (D0 : DataW H) (R : Value → Option (DataW H × List MemPlace)) (w : World) (hown : w.ownsMap Tryz.prog 9 R b nn D0) (hmax : Maps.size D0 ≤ maxLen) (hbytes : Maps.size D0 * 16 ≤ 140737488355328) :
    CallsIn Fence.wide 5 Tryz.prog 154 #[.func (.func 208) #[] #[.pointer (some ⟨w.heap.size, 0, none⟩)]] (w.alloc (.cells #[.map (some b)] 146)) fun e w' => ∃ (v : Value) (ss : List (List UInt8)), e = .returned v ∧ ss.Perm (strKeys D0) ∧
      w'.ownsRow (w.alloc (.cells #[.map (some b)] 146)).heap.size 9 1 v ss.length ((ss.mergeSort (fun x y => decide (x ≤ y))).map encStr) ∧ (v = .slice none 0 0 ↔ ss = []) ∧ Below (w.alloc (.cells #[.map (some b)] 146)).heap.size (w.alloc (.cells #[.map (some b)] 146)) w' := by
  have hbl := hown.lt
  have hseq : SeqGives Fence.wide 2 Tryz.prog 208 #[.pointer (some ⟨w.heap.size, 0, none⟩)] encStr (fun ss => ss.Perm (strKeys D0)) (Maps.size D0) (w.alloc (.cells #[.map (some b)] 146)) :=
    AnyZ.keys_gives (ρ := Tryz.keys155_ren) { Tryz.keys155 with } Fence.wide _ trivial rfl (by omega) w.heap.size b nn D0 _ (by simp) (by simp) (by
      obtain ⟨es, clock, hb, Ft, hs, hD⟩ := hown
      exact ⟨es, clock, (Below.heap_alloc _ _ b hbl).trans hb, Ft, hs, hD⟩)
  exact AnyZ.sorted_in Tryz.sorted154 Fence.wide 5 trivial trivial trivial trivial rfl (by omega) (sorts _) (enters_of Tryz.func207 (by kernel_rfl) rfl) 208 #[.pointer (some ⟨w.heap.size, 0, none⟩)] trivial (enters_of Tryz.func208 (by kernel_rfl) rfl) _ _ hmax hbytes _ hseq

theorem Tryz.info5 : (Tryz.prog.info? 5).map (fun i => (i.zero, i.size, i.bytes)) = some (some (.int .u8 0), 1, 1) := by kernel_rfl

def encB (c : UInt8) : Value := .int .u8 c.toNat
def OwnB (w : World) (base : Nat) (v : Value) (l : List UInt8) : Prop := w.ownsRow base 5 1 v l.length (l.map encB)

theorem cells_take (w : World) (l : List UInt8) (m g : Nat) (hg : 0 < m → g < w.heap.size) (hc : ∀ i (h : i < l.length), w.cell? ⟨g, i, none⟩ = some (encB l[i])) (t : TypeId) : ∀ j u, ((l.take m).map encB)[j]? = some u → (w.alloc (.cells #[] t)).cell? ((⟨g, 0, none⟩ : Addr).add j) = some u := by
  intro j u hu
  have hj : j < ((l.take m).map encB).length := (List.getElem?_eq_some_iff.1 hu).1
  simp only [List.length_map, List.length_take] at hj
  rw [Addr.add_lit, World.cell?_alloc_old _ _ _ (by show g ≠ _; have := hg (by omega); omega)]
  rw [show (0 + j) = j by omega, hc j (by omega)]
  rw [List.getElem?_eq_getElem (by simpa using hj)] at hu
  simpa using hu

set_option maxHeartbeats 1000000 in
set_option maxRecDepth 20000 in
theorem bClone_any (g m cap : Nat) (l : List UInt8) (w : World) (hm : m ≤ l.length) (hl : l.length ≤ 1048576) (hc : ∀ i (h : i < l.length), w.cell? ⟨g, i, none⟩ = some (encB l[i])) :
    Calls Tryz.prog 156 #[.slice (some ⟨g, 0, none⟩) m cap] w fun e w' => ∃ v, e = .returned v ∧ Below w.heap.size w w' ∧ OwnB w' w.heap.size v (l.take m) := by
  obtain ⟨i0, hi, hz0, hz1, hz2⟩ := info_parts Tryz.info5
  have q0 : ∀ (w : World) (a : Option Addr) (n c n' c' : Nat), (binOp .eql 91 (.slice a n c) (.slice none n' c')).run Tryz.prog w = .ok (.bool a.isNone) w := fun w a n c n' c' => Lib.run_eql_slice_nil w _ _ a n c n' c' Tryz.underlying91
  have hg : 0 < m → g < w.heap.size := fun h => World.block_lt_of_cell? w ⟨g, 0, none⟩ (hc 0 (by omega))
  go_enter Tryz.func156, Tryz.ntmps156
  go_wp2_with (first
    | (at_builtin; refine wpList_append_own _ rfl (.tmp 5) (.tmp 6) 91 rfl w.heap.size 5 i0 _ 1 1 Tryz.underlying91 hi hz0 hz1 hz2 rfl (by decide) _ _ _ rfl (World.ownsRow_lit (size := 1) w #[] 0 (Nat.le_refl _) (Nat.zero_le _) rfl) ⟨g, 0, none⟩ m cap ((l.take m).map encB) rfl (by simp; omega) (cells_take w l m g hg hc _) (by intro u hu; obtain ⟨c, _, rfl⟩ := List.mem_map.1 hu; rfl) (by unfold maxLen; omega) (by omega) (by simp) ?_; intro v' w1 hown' hgrow _)
    | go_in)
  go_ret
  refine ⟨_, rfl, ((Below.refl _ _).alloc (Nat.le_refl _) _).grown hgrow (by simp) (fun k hk => by cases hk; exact Nat.le_refl _), ?_⟩
  unfold OwnB
  rw [List.length_take, Nat.min_eq_left hm]
  simpa using hown'

end Go.Proofs.YtoabedkcieindaaGreatDoor
