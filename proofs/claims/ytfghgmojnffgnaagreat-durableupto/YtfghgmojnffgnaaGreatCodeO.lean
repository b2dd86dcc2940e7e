/- The program's memory: scan, an iterator over the keys in order. -/
import Derived.Test.YtfghgmojnffgnaaGreatCodeN
import Derived.RangeFuncBox
import Derived.RangeFuncNested
import Derived.RangeFuncBound
import Derived.RangeFuncCalls
import Derived.RangeFuncLeaves
import Derived.Shelf.Abstract
import Derived.Shelf.RegionOpen
import Derived.OwnWalkIn
import Derived.TacticsInMore
import Derived.LoopNIn
import Derived.LoopIn
namespace Go.Proofs.YtfghgmojnffgnaaGreat
open Go.RowKit Go.Maps Go.Sort Go.Shelf

attribute [local go_sem] Oper.semAt_some

/-- What a round of a loop over scan leaves as it is: rows of texts, boxes of maps, and maps that lay below n0. -/
structure Kq (n0 : Nat) (W W' : World) : Prop where
  cells : ∀ (k : Nat) (cs : Array Value) (t : TypeId) (z : Nat × Nat), W.heap[k]? = some (Obj.cells cs t z) → (t = 9 ∨ t = 124) → W'.heap[k]? = some (Obj.cells cs t z)
  maps : ∀ (k : Nat) (es : Array MapEntry) (c : Nat), k < n0 → W.heap[k]? = some (Obj.map es c) → W'.heap[k]? = some (Obj.map es c)
theorem Kq.refl (n0 : Nat) (W : World) : Kq n0 W W := ⟨fun _ _ _ _ h _ => h, fun _ _ _ _ h => h⟩
theorem Kq.trans {n0 : Nat} {A B C : World} (h : Kq n0 A B) (k : Kq n0 B C) : Kq n0 A C :=
  ⟨fun i cs t z hi ht => k.cells i cs t z (h.cells i cs t z hi ht) ht, fun i es c hn hi => k.maps i es c hn (h.maps i es c hn hi)⟩
theorem Kq.put {n0 : Nat} {w : World} (hn : n0 ≤ w.heap.size) (W : World) (l : Nat) (o o' : Obj) (hl : w.heap.size ≤ l) (ho : W.heap[l]? = some o) (hc : o.isCells = false) (_ : o.isWalk = false) : Kq n0 W (W.putObj l o') := by
  refine ⟨fun k cs t z hk _ => ?_, fun k es c hk hkk => ?_⟩
  · have : k ≠ l := by rintro rfl; rw [ho] at hk; cases hk; cases hc
    rw [World.putObj_heap_other this]; exact hk
  · rw [World.putObj_heap_other (by omega)]; exact hkk
/-- A call that turns blocks of S alone, which are of other kinds. -/
theorem Kq.of_kp {n0 : Nat} {S : Nat → Prop} {W W' : World} (k : Kp S W W') (hs : ∀ i, S i → ∃ (cs : Array Value) (t : TypeId) (z : Nat × Nat), W.heap[i]? = some (Obj.cells cs t z) ∧ t ≠ 9 ∧ t ≠ 124) : Kq n0 W W' := by
  refine ⟨fun i cs t z hi ht => k.at hi (fun s => ?_), fun i es c _ hi => k.at hi (fun s => ?_)⟩
  · obtain ⟨cs', t', z', h1, h2, h3⟩ := hs i s
    rw [hi] at h1
    cases h1
    exact ht.elim h2 h3
  · obtain ⟨cs', t', z', h1, h2, h3⟩ := hs i s
    rw [hi] at h1
    cases h1
theorem Kq.row {n0 : Nat} {W W' : World} (h : Kq n0 W W') {base : Nat} {v : Value} {l : List Nm} (ho : OwnS W base v l) : OwnS W' base v l := by
  refine ⟨ho.1, ?_⟩
  rcases ho.2 with hn | ⟨g, cap, cur, hv, hb, hg, rest⟩
  · exact .inl hn
  · exact .inr ⟨g, cap, cur, hv, hb, h.cells _ _ _ _ hg (.inl rfl), rest⟩
theorem Kq.map {n0 bm : Nat} {W W' : World} (h : Kq n0 W W') {m : Mp} (hm : MAt W bm m) (hn : bm < n0) : MAt W' bm m := by
  obtain ⟨es, c, h1, r⟩ := hm
  exact ⟨es, c, h.maps _ _ _ hn h1, r⟩
theorem Kq.box {n0 B : Nat} {W W' : World} (h : Kq n0 W W') {t : TypeId} {v : Value} (hb : Boxed W B t v) (ht : t = 9 ∨ t = 124) : Boxed W' B t v := h.cells _ _ _ _ hb ht

def rangeM (lo hi : Nm) (m : Mp) : Mp := m.filter fun x => okB lo hi x.1
theorem keys_range (lo hi : Nm) (m : Mp) : keysB lo hi m = nmsOf (rangeM lo hi m) := by
  simp only [keysB, rangeM, nmsOf, List.filter_map]
  rfl
theorem getF_mem_rise {m : Mp} (hr : rising m) {x : Nm × Nm} (hx : x ∈ m) : getF x.1 m = some x.2 := by
  obtain ⟨k, hk, rfl⟩ := List.getElem_of_mem hx
  exact getF_at hk rfl (fun j hj e => by have := rising_at hr (i := j) (j := k) (by omega) hk e; omega)
theorem below_grown {w w' : World} (h : Below w.heap.size w w') : w.grownBy w' none := ⟨h.os, h.tape, h.output, h.size, fun k hk _ => h.block k hk⟩

theorem field_ver (s : ByteArray) (w : World) : (Instr.field 135 (.agg #[.string s]) 0).run Tryz.prog w = .ok (.string s) w := by
  simp [Instr.field, go_sem, asAgg]

/-- A pair whose texts are no longer than any machine's. -/
abbrev PX := { x : Nm × Nm // x.1.length ≤ 1099511627776 ∧ x.2.length ≤ 1099511627776 }
abbrev encP (x : PX) : Array Value := #[.agg #[str x.1.1, str x.1.2]]

set_option maxRecDepth 100000 in
set_option maxHeartbeats 2000000 in
theorem scan1_in (l Bm Bl Bh bm n0 : Nat) (m : Mp) (lo hi : Nm) (xs : List PX) (hxs : xs.map (·.1) = rangeM lo hi m) (J Jx : List PX → World → Prop) (W : World) (hJ : AbidesFrom W.heap.size J)
    (hY : ∀ pre x W1, J pre W1 → pre.length < xs.length → YieldAt Fence.wide 4 Tryz.prog l (encP x) W1 fun e W' =>
      (e = .returned (.bool true) ∧ J (pre ++ [x]) W' ∧ Kq n0 W1 W') ∨ (e = .returned (.bool false) ∧ Jx (pre ++ [x]) W'))
    (b1 : Boxed W Bm 124 (.map (some bm))) (b2 : Boxed W Bl 9 (str lo)) (b3 : Boxed W Bh 9 (str hi)) (hm : MAt W bm m) (hbm : bm < n0) (hr : rising m) (hkl : ∀ x ∈ m, x.1.length ≤ 1099511627776) (hml : m.length ≤ 4194304) (h0 : J [] W) :
    CallsIn Fence.wide 5 Tryz.prog 165 #[.func (.yield l) #[] #[], .pointer (some ⟨Bm, 0, none⟩), .pointer (some ⟨Bl, 0, none⟩), .pointer (some ⟨Bh, 0, none⟩)] W fun e W' => (∃ v, e = .returned v) ∧
      ((∃ ys, ys = xs ∧ J ys W') ∨ (∃ pre, pre <+: xs ∧ Jx pre W')) := by
  have hlen : xs.length ≤ m.length := by
    have : (rangeM lo hi m).length ≤ m.length := List.length_filter_le _ _
    rw [← hxs, List.length_map] at this; exact this
  have hsub : ∀ x ∈ xs, x.1 ∈ m := fun x hx => (List.mem_filter.1 (show x.1 ∈ rangeM lo hi m by rw [← hxs]; exact List.mem_map_of_mem hx)).1
  have hk := keys_range lo hi m
  rw [← hxs] at hk
  have hbt : CallsIn Fence.wide 4 Tryz.prog 166 #[.map (some bm), str lo, str hi] W fun e w' => ∃ v, e = .returned v ∧ Below W.heap.size W w' ∧ OwnS w' W.heap.size v (keysB lo hi m) := callsIn_wide.2 (between_any bm m lo hi W hm hr hml)
  rw [hk] at hbt
  clear hxs
  have c1 := b1.cell
  have c2 := b2.cell
  have c3 := b3.cell
  have hfb : Fence.wide.fn 166 := trivial
  have HN : Hid ((nmsOf (xs.map (·.1))).length = xs.length) := by show _ = _; rw [nms_len, List.length_map]
  refine callsIn_of_wp Tryz.func165 rfl trivial ?_ rfl
  simp only [Tryz.ntmps165, List.size_toArray, List.length_cons, List.length_nil, Nat.reduceAdd, Nat.reduceSub, Array.replicate_succ, Array.replicate_zero, List.push_toArray, List.append_toArray, List.nil_append, List.cons_append]
  gi_wp2_with (gi_at_call 166; refine hbt.mono ?_; rintro e w1 ⟨v, rfl, hbl, hown⟩; obtain ⟨ao, co, hv, hoc⟩ := ownS_shape hown; rw [HN.out] at hv; subst hv)
  have hJ1 := hJ [] W w1 none h0 (below_grown hbl) (fun r e => by cases e)
  have q0 : Kq n0 W w1 := Kq.of_kp (Kp.of_below (S := fun _ => False) hbl) (fun _ f => f.elim)
  have hown0 := hown
  have b1' := q0.box b1 (.inr rfl)
  have hm' := q0.map hm hbm
  clear hown hoc c1 c2 c3 hbt q0 b1 b2 b3 hm h0 hk
  gi_loopw [12] (fun i wr => ∃ k : Nat, k ≤ xs.length ∧ i = .int .i64 k ∧ J (xs.take k) wr ∧ Kq n0 w1 wr) (fun i _ => xs.length - (intOf i).toNat)
  case atStart => exact ⟨0, Nat.zero_le _, rfl, hJ1, Kq.refl _ _⟩
  case round =>
    obtain ⟨k, hk, rfl, hJk, hq⟩ := hrel
    by_cases hlt : k < xs.length
    · have hx := hsub _ (List.getElem_mem hlt)
      have hor := hq.row hown0
      obtain ⟨a2, c2, e2, hoc2⟩ := ownS_shape hor
      obtain ⟨g, rfl, _, hcell⟩ := hoc2 k (by rw [HN.out]; exact hlt)
      rw [nms_at _ k (by rw [List.length_map]; exact hlt), List.getElem_map] at hcell
      rw [HN.out] at e2
      obtain ⟨rfl, rfl⟩ : ao = some ⟨g, 0, none⟩ ∧ co = c2 := by simpa using e2
      unfold encS at hcell
      have hkx := hkl _ hx
      have hlk := (hq.map hm' hbm).look xs[k].1.1 (by unfold maxLen; omega)
      rw [getF_mem_rise hr hx, Option.getD_some] at hlk
      replace hlk : (Instr.lookup 124 (.map (some bm)) (str xs[k].1.1) false).run Tryz.prog wr = .ok (.agg #[str xs[k].1.2]) wr := hlk
      have c1 := (hq.box b1' (.inr rfl)).cell
      have hfv := field_ver ⟨xs[k].1.2.toArray⟩ wr
      obtain ⟨fn, tmps, assign, body, hy, hR⟩ := hY (xs.take k) xs[k] wr hJk (by rw [List.length_take]; omega)
      clear hor hoc2 e2 hY
      gi_wp2
      refine hR.mono ?_
      rintro e W3 (⟨rfl, hJ3, hk3⟩ | ⟨rfl, hJx3⟩)
      · gi_wp2
        go_roundw
        case rel => exact ⟨k + 1, by omega, by go_num, by rw [List.take_succ_eq_append_getElem hlt]; exact hJ3, hq.trans hk3⟩
        case measure => simp [intOf]; omega
      · gi_wp2
        refine bodyPost_ret (results_none rfl _ _ _) rfl ?_
        exact ⟨⟨_, rfl⟩, .inr ⟨_, ⟨xs.drop (k + 1), by rw [← List.take_succ_eq_append_getElem hlt, List.take_append_drop]⟩, hJx3⟩⟩
    · rw [List.take_of_length_le (by omega)] at hJk
      gi_wp2
      go_end0
      exact ⟨⟨_, rfl⟩, .inl ⟨_, rfl, hJk⟩⟩


set_option maxHeartbeats 400000 in
theorem scan_in (bm : Nat) (lo hi : Nm) (w : World) :
    CallsIn Fence.wide 5 Tryz.prog 123 #[.map (some bm), str lo, str hi] w fun e w' => e = .returned (.func (.func 165) #[] #[.pointer (some ⟨w.heap.size, 0, none⟩), .pointer (some ⟨w.heap.size + 1, 0, none⟩), .pointer (some ⟨w.heap.size + 2, 0, none⟩)]) ∧ w' = ((w.alloc (.cells #[.map (some bm)] 124)).alloc (.cells #[str lo] 9)).alloc (.cells #[str hi] 9) := by
  refine callsIn_of_wp Tryz.func123 rfl trivial ?_ rfl
  simp only [Tryz.ntmps123, List.size_toArray, List.length_cons, List.length_nil, Nat.reduceAdd, Nat.reduceSub, Array.replicate_succ, Array.replicate_zero, List.push_toArray, List.append_toArray, List.nil_append, List.cons_append]
  gi_wp2
  go_ret
  exact ⟨rfl, rfl⟩

/-- scan's value, as the loops over it want it. -/
theorem scan_stops (bm n0 : Nat) (m : Mp) (lo hi : Nm) (xs : List PX) (hxs : xs.map (·.1) = rangeM lo hi m) (Bm Bl Bh : Nat) (w : World) (b1 : Boxed w Bm 124 (.map (some bm))) (b2 : Boxed w Bl 9 (str lo)) (b3 : Boxed w Bh 9 (str hi)) (hm : MAt w bm m) (hbm : bm < n0) (hr : rising m) (hkl : ∀ x ∈ m, x.1.length ≤ 1099511627776) (hml : m.length ≤ 4194304) :
    SeqStopsK Fence.wide 5 Tryz.prog 165 #[.pointer (some ⟨Bm, 0, none⟩), .pointer (some ⟨Bl, 0, none⟩), .pointer (some ⟨Bh, 0, none⟩)] encP (Kq n0) (fun ys => ys = xs) (fun pre => pre <+: xs) xs.length w := fun l J Jx W hW hJ _ hY h0 => by
  have q : Kq n0 w W := Kq.of_kp (Kp.of_below (S := fun _ => False) hW) (fun _ f => f.elim)
  exact scan1_in l Bm Bl Bh bm n0 m lo hi xs hxs J Jx W hJ hY (q.box b1 (.inr rfl)) (q.box b2 (.inl rfl)) (q.box b3 (.inl rfl)) (q.map hm hbm) hbm hr hkl hml h0

end Go.Proofs.YtfghgmojnffgnaaGreat
