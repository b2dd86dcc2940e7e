import Derived.Test.YtoabedkcieindabGreatDoorQkAN
import Derived.Test.YtoabedkcieindabGreatDoorQkAG
import Derived.Test.YtoabedkcieindabGreatDoorLayI
import Derived.Sort.OwnSortedInts
namespace Go.Proofs.YtoabedkcieindabGreatDoor
open Go.RowKit Go.Maps Go.Sort
abbrev SnL := List (Int × Int)
def entI (p : Int × Int) : Lit × DataW Unit := (.int .i64 p.1, .lit (.int .i64 p.2))
def datI (l : SnL) : DataW Unit := .map (l.map entI)
theorem same_int (a b : Int) : (Lit.int .i64 a).sameKey (.int .i64 b) = decide (a = b) := by simp [Lit.sameKey]
structure SnAt (w : World) (bs : Nat) (l : SnL) : Prop where
  own : w.ownsMap Tryz.prog 3 (plainElem (H := Unit) Tryz.prog 3) bs l.length (datI l)
  inc : l.Pairwise fun x y => x.1 < y.1
theorem SnAt.lt {w : World} {bs : Nat} {l : SnL} (h : SnAt w bs l) : bs < w.heap.size := h.own.lt
theorem SnAt.isMap {w : World} {bs : Nat} {l : SnL} (h : SnAt w bs l) : ∃ es c, w.heap[bs]? = some (.map es c) := by
  obtain ⟨es, c, h, _⟩ := h.own; exact ⟨es, c, h⟩
theorem SnAt.ne {w : World} {bs b : Nat} {l : SnL} {cs : Array Value} {t : TypeId} {z : Nat × Nat} (h : SnAt w bs l) (hb : w.heap[b]? = some (.cells cs t z)) : b ≠ bs := by
  rintro rfl
  obtain ⟨es, c, h1⟩ := h.isMap
  rw [h1] at hb; cases hb
theorem SnAt.block {w w' : World} {bs : Nat} {l : SnL} (h : SnAt w bs l) (hb : w'.heap[bs]? = w.heap[bs]?) : SnAt w' bs l := ⟨ownsMap_of_block h.own hb, h.inc⟩
theorem SnAt.kept {w w' : World} {S : Nat → Prop} {bs : Nat} {l : SnL} (h : SnAt w bs l) (k : Kp S w w') (hs : ¬ S bs) : SnAt w' bs l := h.block (k.block bs h.lt hs)
theorem SnAt.below {w w' : World} {bs : Nat} {l : SnL} (h : SnAt w bs l) (k : Below w.heap.size w w') : SnAt w' bs l := h.block (k.block bs h.lt)
theorem SnAt.nil {w : World} {bs : Nat} (h : w.heap[bs]? = some (.map #[] 0)) : SnAt w bs [] := ⟨Joins.ownsMap_empty h, List.Pairwise.nil⟩
theorem sizeI (l : SnL) : Maps.size (datI l) = l.length := by simp [datI, Maps.size]
theorem at_datI (n : Int) (z : DataW Unit) : ∀ l : SnL, (datI l).atKey (.int .i64 n) z = match l.find? (fun p => decide (p.1 = n)) with | none => z | some p => .lit (.int .i64 p.2)
  | [] => rfl
  | x :: r => by
    have ih := at_datI n z r
    simp only [datI, DataW.atKey, List.map_cons, List.find?_cons] at ih ⊢
    by_cases e : x.1 = n
    · simp [entI, same_int, e]
    · have : (Lit.int .i64 x.1).sameKey (.int .i64 n) = false := by rw [same_int]; simpa using e
      simp only [entI, this, decide_eq_false e]
      exact ih
theorem has_datI (n : Int) (l : SnL) : Maps.has (datI l) (.int .i64 n) = (l.find? (fun p => decide (p.1 = n))).isSome := by
  show (l.map entI).any (fun p => p.1.sameKey (.int .i64 n)) = _
  rw [List.any_map]
  induction l with
  | nil => rfl
  | cons x r ih =>
    rw [List.any_cons, List.find?_cons]
    by_cases e : x.1 = n
    · simp [entI, same_int, e]
    · simp only [Function.comp, entI, same_int, decide_eq_false e, Bool.false_or] at ih ⊢
      exact ih
theorem del_datI (n : Int) (l : SnL) : (datI l).del (.int .i64 n) = datI (l.filter fun p => !decide (p.1 = n)) := by
  simp only [datI, DataW.del, List.filter_map]
  congr 2
  apply List.filter_congr
  intro p _
  simp [entI, same_int]
theorem ins_datI (x : Int × Int) : ∀ l : SnL, (∀ p ∈ l, p.1 < x.1) → DataW.insert (entI x) (l.map entI) = (l ++ [x]).map entI
  | [], _ => rfl
  | y :: r, h => by
    rw [List.map_cons, DataW.insert]
    have h1 := h y (by simp)
    have : (entI x).1.before (entI y).1 = false := by
      show decide (x.1 < y.1) = false
      simp; omega
    rw [this]
    simp only [Bool.false_eq_true, if_false, List.cons_append, List.map_cons]
    rw [ins_datI x r (fun p hp => h p (by simp [hp]))]
theorem put_datI (n b : Int) (l : SnL) (h : ∀ p ∈ l, p.1 < n) : (datI l).put (.int .i64 n) (.lit (.int .i64 b)) = datI (l ++ [(n, b)]) := by
  have h1 := del_datI n l
  have h2 : (l.filter fun p => !decide (p.1 = n)) = l := List.filter_eq_self.2 fun p hp => by have := h p hp; simp; omega
  rw [h2] at h1
  simp only [datI, DataW.del, DataW.map.injEq] at h1
  simp only [datI, DataW.put]
  rw [h1]
  exact congrArg _ (ins_datI (n, b) l h)
theorem tightI {w : World} {bs k : Nat} {l : SnL} (h : w.ownsMap Tryz.prog 3 (plainElem (H := Unit) Tryz.prog 3) bs k (datI l)) : w.ownsMap Tryz.prog 3 (plainElem (H := Unit) Tryz.prog 3) bs l.length (datI l) := by
  obtain ⟨es, c, h1, F, h3, h4⟩ := h
  refine ⟨es, c, h1, F, ?_, h4⟩
  have := congrArg Maps.size h4
  simp only [datI, Maps.size, List.length_map, length_sorted, Array.length_toList] at this
  omega
def I64 (n : Int) : Prop := -9223372036854775808 ≤ n ∧ n ≤ 9223372036854775807
theorem wfI {n : Int} (h : I64 n) : (Lit.int .i64 n).wf = true := by
  unfold I64 at h
  simp only [Lit.wf, Bool.and_eq_true, decide_eq_true_eq]
  have h1 : IntKind.i64.min = -9223372036854775808 := by decide
  have h2 : IntKind.i64.max = 9223372036854775807 := by decide
  omega
def snF (id : Int) (l : SnL) : Option (Int × Int) := l.find? fun p => decide (p.1 = id)
def snB (o : Option (Int × Int)) : Int := match o with | some p => p.2 | none => 0
theorem SnAt.look {w : World} {bs : Nat} {l : SnL} (h : SnAt w bs l) {id : Int} (hid : I64 id) :
    (Instr.lookup 109 (.map (some bs)) (.int .i64 id) true).run Tryz.prog w = .ok (.tuple #[.int .i64 (snB (snF id l)), .bool (snF id l).isSome]) w := by
  obtain ⟨v, ps, hrun, hv⟩ := h.own.look_ok keyedI Tryz.underlying109 (Tryz.zeroValue3 w) (zd := .lit (.int .i64 0)) (zp := []) (plainElem_int Tryz.underlying3 (by decide)) (keyOf_int_mk Tryz.underlying3 (wfI hid))
  obtain ⟨a, rfl, ha, _⟩ := plainElem_int_inv Tryz.underlying3 hv
  rw [hrun, has_datI]
  have e : (datI l).atKey (.int .i64 id) (.lit (.int .i64 0)) = .lit (.int .i64 a) := congrArg Prod.fst ha
  rw [at_datI] at e
  unfold snF snB
  cases hf : l.find? (fun p => decide (p.1 = id)) with
  | none => rw [hf] at e; simp only [DataW.lit.injEq, Lit.int.injEq, true_and] at e; rw [← e]
  | some p => rw [hf] at e; simp only [DataW.lit.injEq, Lit.int.injEq, true_and] at e; rw [← e]
theorem SnAt.put {w : World} {bs : Nat} {l : SnL} (h : SnAt w bs l) {id b : Int} (hid : I64 id) (hb : I64 b) (hl : l.length < 1000) (hlt : ∀ p ∈ l, p.1 < id) :
    ∃ w', (Instr.mapUpdate 109 (.map (some bs)) (.int .i64 id) (.int .i64 b)).run Tryz.prog w = .ok () w' ∧ SnAt w' bs (l ++ [(id, b)]) ∧ Kp (fun i => i = bs) w w' := by
  obtain ⟨w', h1, h2, h3⟩ := h.own.update keyedI Tryz.underlying109 (by unfold maxLen; omega) (keyOf_int_mk Tryz.underlying3 (wfI hid)) (d := .lit (.int .i64 b)) (ps := []) (val := .int .i64 b) (plainElem_int Tryz.underlying3 (wfI hb))
  rw [put_datI id b l hlt] at h2
  refine ⟨w', h1, ⟨tightI h2, ?_⟩, (Kp.refl _ _).grown h3 (fun k hk _ => by cases hk; rfl)⟩
  rw [List.pairwise_append]
  exact ⟨h.inc, by simp, fun x hx y hy => by rw [List.mem_singleton] at hy; subst hy; exact hlt x hx⟩
structure SnW (l : SnL) (left : Lit → Bool) (cnt : Nat) (ps : SnL) : Prop where
  sub : ∀ p ∈ ps, p ∈ l
  all : ∀ p ∈ l, left (.int .i64 p.1) = false → p ∈ ps
  cnt : ps.length + cnt ≤ l.length
theorem SnW.start (l : SnL) : SnW l (Maps.has (datI l)) (Maps.size (datI l)) [] :=
  ⟨fun _ h => (by cases h), fun p hp h => (by
    rw [has_datI] at h
    have : (l.find? (fun q => decide (q.1 = p.1))).isSome = true := List.find?_isSome.2 ⟨p, hp, by simp⟩
    rw [this] at h; cases h), by rw [sizeI]; simp⟩
theorem SnW.next {l : SnL} {left : Lit → Bool} {cnt cnt' : Nat} {ps : SnL} (h : SnW l left cnt ps) (hi : l.Pairwise fun x y => x.1 < y.1) {x c : Int} (hat : ∀ zd, (datI l).atKey (.int .i64 x) zd = .lit (.int .i64 c)) (hlt : cnt' < cnt) : SnW l (fun z => left z && !z.sameKey (.int .i64 x)) cnt' (ps ++ [(x, c)]) := by
  have hxc : (x, c) ∈ l := by
    have h0 := hat (.map [])
    rw [at_datI] at h0
    cases hf : l.find? (fun p => decide (p.1 = x)) with
    | none => rw [hf] at h0; cases h0
    | some p =>
      rw [hf] at h0
      have e1 : p.2 = c := by simpa using h0
      have e2 : p.1 = x := by simpa using List.find?_some hf
      have := List.mem_of_find?_eq_some hf
      rw [← e1, ← e2]; exact this
  refine ⟨fun p hp => ?_, fun p hp hl => ?_, by have := h.cnt; simp only [List.length_append, List.length_singleton]; omega⟩
  · rcases List.mem_append.1 hp with hp | hp
    · exact h.sub p hp
    · rw [List.mem_singleton] at hp; rw [hp]; exact hxc
  · by_cases e : p.1 = x
    · have : p = (x, c) := by
        have inj : ∀ (l : SnL), (l.Pairwise fun x y => x.1 < y.1) → ∀ p ∈ l, ∀ q ∈ l, p.1 = q.1 → p = q := by
          intro l
          induction l with
          | nil => intro _ p hp; cases hp
          | cons a r ih =>
            intro hh p hp q hq e
            obtain ⟨h1, h2⟩ := List.pairwise_cons.1 hh
            rcases List.mem_cons.1 hp with rfl | hp'
            · rcases List.mem_cons.1 hq with rfl | hq'
              · rfl
              · have := h1 q hq'; omega
            · rcases List.mem_cons.1 hq with rfl | hq'
              · have := h1 p hp'; omega
              · exact ih h2 p hp' q hq' e
        exact inj l hi p hp (x, c) hxc e
      rw [this]; simp
    · have hl' : left (.int .i64 p.1) = false := by
        have e2 : (Lit.int .i64 p.1).sameKey (.int .i64 x) = false := by rw [same_int]; simpa using e
        simpa [e2] using hl
      exact List.mem_append.2 (.inl (h.all p hp hl'))
theorem SnW.ended {l : SnL} {left : Lit → Bool} {cnt : Nat} {ps : SnL} (h : SnW l left cnt ps) (hl : ∀ kl, left kl = false) : ∀ b, b ∈ ps.map (·.2) ↔ b ∈ l.map (·.2) := fun b => by
  simp only [List.mem_map]
  exact ⟨fun ⟨p, a, e⟩ => ⟨p, h.sub p a, e⟩, fun ⟨p, a, e⟩ => ⟨p, h.all p a (hl _), e⟩⟩
end Go.Proofs.YtoabedkcieindabGreatDoor

namespace Go.Proofs.YtoabedkcieindabGreatDoor
open Go.RowKit Go.Maps Go.Sort Go.Shelf
attribute [local go_sem] Oper.semAt_some
abbrev eI (n : Int) : Value := .int .i64 n
def OwnZ (w : World) (base : Nat) (v : Value) (l : List Int) : Prop := w.ownsRow base 3 1 v l.length (l.map eI)
theorem OwnZ.at {w : World} {base : Nat} {v : Value} {l : List Int} (h : OwnZ w base v l) : ∃ q cap, v = .slice q l.length cap ∧ ∀ i (hi : i < l.length), ∃ g, q = some ⟨g, 0, none⟩ ∧ w.cell? ⟨g, i, none⟩ = some (eI l[i]) := by
  rcases h.2 with ⟨hv, hn⟩ | ⟨g, cap, cur, hv, hb, hgg, _⟩
  · exact ⟨none, 0, by rw [hv, hn], fun i hi => by omega⟩
  · refine ⟨_, cap, hv, fun i hi => ⟨g, rfl, ?_⟩⟩
    have hc := World.ownsRow.cells h (g := g) (by rw [hv]; rfl) i (eI l[i]) (by simp [hi])
    rwa [Addr.add_lit, Nat.zero_add] at hc
theorem OwnZ.izp {w : World} {base : Nat} {v : Value} {l : List Int} (h : OwnZ w base v l) : ∃ q cap, v = .slice q l.length cap ∧ Izp w q l := by
  obtain ⟨q, cap, hv, hc⟩ := h.at
  exact ⟨q, cap, hv, fun i hi => by obtain ⟨g, e, c⟩ := hc i hi; exact ⟨g, 0, e, by rw [Nat.zero_add]; exact c⟩⟩
theorem sortI_any (v : Value) (base : Nat) (ss : List Int) (w : World) (h : OwnZ w base v ss) (hl : ss.length ≤ 4194304) :
    Calls Tryz.prog 122 #[v] w fun e w' => e = .returned (.tuple #[]) ∧ OwnZ w' base v (ss.mergeSort (fun x y => decide (x ≤ y))) ∧ Kp (fun i => v.ownBlock = some i) w w' := by
  rcases h.2 with ⟨rfl, hn⟩ | ⟨g, cap, cur, rfl, hbase, hb, h1, h2, h3, h4⟩
  · have hnil : ss = [] := List.eq_nil_of_length_eq_zero hn
    subst hnil
    refine (AnyM.slices_Sort_int_none Tryz.sortI122 none 0 w).mono ?_
    rintro e w' ⟨rfl, rfl⟩
    exact ⟨rfl, by rw [List.mergeSort_nil]; exact World.ownsRow_nil _ _ _ _, Kp.refl _ _⟩
  · have hH : Holds (Value.int .i64) w g 0 ss.toArray := holds_of_blockI hb (by have h5 : cur.toList.take (ss.length * 1) = ss.map eI := h4; simpa using h5)
    refine (AnyM.slices_Sort_int Tryz.sortI122 g 0 cap ss w hH (lt_of_block hb) (by omega)).mono ?_
    rintro e w' ⟨rfl, nn, os, rfl⟩
    refine ⟨rfl, ?_, (Kp.refl _ _).grown (grownBy_sortedI _) (fun k hk _ => by cases hk; rfl)⟩
    have := ownsRow_sortedI (n := nn) (os := os) (ss := ss) (ts := ss.mergeSort (fun x y => decide (x ≤ y))) (by simp) hbase hb h1 h2 h3
    unfold OwnZ
    rw [List.length_mergeSort]
    exact this
def TnW (b : Nat) (A B : World) : Prop := Kp (fun k => b ≤ k ∧ ∃ o : Obj, A.heap[k]? = some o ∧ o.isWalk = true) A B
structure KrW (n0 : Nat) (A B : World) : Prop where
  size : A.heap.size ≤ B.heap.size
  low : ∀ k, k < n0 → k < A.heap.size → B.heap[k]? = A.heap[k]?
  walk : ∀ (k : Nat) (o : Obj), A.heap[k]? = some o → o.isWalk = true → B.heap[k]? = some o
theorem KrW.refl (n0 : Nat) (A : World) : KrW n0 A A := ⟨Nat.le_refl _, fun _ _ _ => rfl, fun _ _ h _ => h⟩
theorem KrW.trans {n0 : Nat} {A B C : World} (h : KrW n0 A B) (k : KrW n0 B C) : KrW n0 A C :=
  ⟨Nat.le_trans h.size k.size, fun i hi hA => (k.low i hi (Nat.lt_of_lt_of_le hA h.size)).trans (h.low i hi hA), fun i o ho hw => k.walk i o (h.walk i o ho hw) hw⟩
section
variable {H : Type} {P : Program} {k : TypeId} {R : Value → Option (DataW H × List MemPlace)} {w w' : World} {b r n : Nat} {D : DataW H} {left : Lit → Bool} {cnt : Nat}
theorem ranges_of (h : w.ranges P k R b r n D left cnt) (hb : w'.heap[b]? = w.heap[b]?) (hr : w'.heap[r]? = w.heap[r]?) : w'.ranges P k R b r n D left cnt := by
  obtain ⟨es, clock, since, seen, c0, h1, F, hs, hD, h2, rest⟩ := h
  exact ⟨es, clock, since, seen, c0, hb.trans h1, F, hs, hD, hr.trans h2, rest⟩
theorem ranges_walk (h : w.ranges P k R b r n D left cnt) : ∃ o : Obj, w.heap[r]? = some o ∧ o.isWalk = true := by
  obtain ⟨es, clock, since, seen, c0, h1, F, hs, hD, h2, rest⟩ := h
  exact ⟨_, h2, rfl⟩
end
set_option maxRecDepth 100000 in
set_option maxHeartbeats 1000000 in
theorem vals1_any (y Bm bs n0 : Nat) (l : SnL) (J Jx : List Int → World → Prop) (W : World) (hJ : ∀ s A B, J s A → TnW W.heap.size A B → J s B)
    (hY : ∀ pre x W1, J pre W1 → pre.length < l.length → YieldAt Fence.wide 4 Tryz.prog y (encI x) W1 fun e W' =>
      (e = .returned (.bool true) ∧ J (pre ++ [x]) W' ∧ KrW n0 W1 W') ∨ (e = .returned (.bool false) ∧ Jx (pre ++ [x]) W'))
    (b1 : Boxed W Bm 109 (.map (some bs))) (hm : SnAt W bs l) (hbs : bs < n0) (h0 : J [] W) :
    CallsIn Fence.wide 5 Tryz.prog 287 #[.func (.yield y) #[] #[], .pointer (some ⟨Bm, 0, none⟩)] W fun e W' => (∃ v, e = .returned v) ∧
      ((∃ xs, ((∀ b, b ∈ xs ↔ b ∈ l.map (·.2)) ∧ xs.length ≤ l.length) ∧ J xs W') ∨ (∃ pre : List Int, True ∧ Jx pre W')) := by
  have c1 := b1.cell
  have hown := hm.own
  have hinc := hm.inc
  have hbl := hm.lt
  refine callsIn_of_wp Tryz.func287 rfl trivial ?_ rfl
  simp only [Tryz.ntmps287, List.size_toArray, List.length_cons, List.length_nil, Nat.reduceAdd, Nat.reduceSub, Array.replicate_succ, Array.replicate_zero, List.push_toArray, List.append_toArray, List.nil_append, List.cons_append]
  gi_wp2_with (gi_at_range; refine wpListIn_range_own _ rfl _ 109 rfl 3 3 keyedI Tryz.underlying109 _ bs _ _ rfl hown ?_; intro w0 hrg0 hg0 hs0)
  have hJ0 : J [] w0 := hJ _ _ _ h0 ((Kp.refl _ _).grown hg0 (fun k hk _ => by cases hk))
  go_frame
  gi_loopw [4] (fun _ wr => ∃ left cnt ps, wr.ranges Tryz.prog 3 (plainElem (H := Unit) Tryz.prog 3) bs W.heap.size l.length (datI l) left cnt ∧ SnW l left cnt ps ∧ J (ps.map (·.2)) wr) (fun _ wr => wr.rangeLeft bs W.heap.size)
  case atStart => exact ⟨_, _, [], hrg0, SnW.start l, hJ0⟩
  case round =>
    obtain ⟨left, cnt, ps, hrg, hS, hJr⟩ := hrel
    have hmeas := hrg.left_eq
    gi_wp2_with (gi_at_next; refine wpListIn_next_ranges_ii _ rfl _ rfl 3 3 .i64 .i64 keyedI Tryz.underlying3 Tryz.underlying3 bs W.heap.size l.length _ _ _ rfl hrg ?_ ?_)
    · intro _ hl0
      gi_wp2
      go_end0
      exact ⟨⟨_, rfl⟩, .inl ⟨_, ⟨hS.ended hl0, by have := hS.cnt; simp; omega⟩, hJr⟩⟩
    · intro x c w1 cnt1 hwx hwc hlx hat hrg1 hlt hg1 hs1 hen
      have hS1 := hS.next hinc hat hlt
      have hJ1 : J (ps.map (·.2)) w1 := hJ _ _ _ hJr ((Kp.refl _ _).grown hg1 (fun k hk _ => by cases hk; exact ⟨Nat.le_refl _, ranges_walk hrg⟩))
      have hplt : (ps.map (·.2)).length < l.length := by have := hS.cnt; simp; omega
      obtain ⟨fn, tmps, assign, body, hy, hR⟩ := hY _ c w1 hJ1 hplt
      clear hY
      gi_wp2
      refine hR.mono ?_
      rintro er W3 (⟨rfl, hJ3, hk3⟩ | ⟨rfl, hJx3⟩)
      · have hrg3 := ranges_of (w' := W3) hrg1 (hk3.low bs hbs hrg1.owns.lt) (by obtain ⟨o, ho, hw⟩ := ranges_walk hrg1; rw [ho]; exact hk3.walk _ o ho hw)
        gi_wp2
        go_roundw
        case rel => exact ⟨_, _, _, hrg3, hS1, by rw [List.map_append]; exact hJ3⟩
        case measure => rw [hrg3.left_eq, hmeas]; exact hlt
      · gi_wp2
        refine bodyPost_ret (results_none rfl _ _ _) rfl ?_
        exact ⟨⟨_, rfl⟩, .inr ⟨_, trivial, hJx3⟩⟩
theorem vals_seqA (Bm bs n0 : Nat) (l : SnL) (w : World) (b1 : Boxed w Bm 109 (.map (some bs))) (hm : SnAt w bs l) (hbs : bs < n0) :
    SeqT Fence.wide 5 Tryz.prog 287 #[.pointer (some ⟨Bm, 0, none⟩)] encI (KrW n0) TnW (fun xs => (∀ b, b ∈ xs ↔ b ∈ l.map (·.2)) ∧ xs.length ≤ l.length) (fun _ => True) l.length w := fun y J Jx W hW hJ _ hY h0 =>
  vals1_any y Bm bs n0 l J Jx W hJ hY ((hW.block Bm b1.lt).trans b1) (hm.below hW) hbs h0
theorem infoI : (Tryz.prog.info? 3).map (fun i => (i.zero, i.size, i.bytes)) = some (some (.int .i64 0), 1, 8) := by kernel_rfl
def intC (x : Int) : List Value := [eI x]
theorem intC_len (x : Int) : (intC x).length = 1 := rfl
theorem intC_one (x : Int) : ∀ u ∈ intC x, u.oneCell' = true := by intro u hu; rw [intC, List.mem_singleton] at hu; subst hu; rfl
theorem flat_intC (l : List Int) : l.flatMap intC = l.map eI := by induction l with | nil => rfl | cons x r ih => simp [intC, ih]
abbrev OwnI (w : World) (base : Nat) (v : Value) (l : List Int) : Prop := OwnR 3 intC 1 w base v l
theorem OwnI.z {w : World} {base : Nat} {v : Value} {l : List Int} (h : OwnI w base v l) : OwnZ w base v l := by
  have h2 : w.ownsRow base 3 1 v l.length (l.flatMap intC) := h
  rw [flat_intC] at h2; exact h2
theorem OwnI.low {w : World} {base base' : Nat} {v : Value} {l : List Int} (h : OwnI w base v l) (hb : base' ≤ base) : OwnI w base' v l := by
  refine ⟨h.1, ?_⟩
  rcases h.2 with hn | ⟨g, cap, cur, hv, hbb, rest⟩
  · exact .inl hn
  · exact .inr ⟨g, cap, cur, hv, Nat.le_trans hb hbb, rest⟩
theorem own_cellsI {W : World} {base : Nat} {v : Value} {l : List Int} (h : OwnI W base v l) {i : Nat} (e : v.ownBlock = some i) : ∃ (cs : Array Value) (z : Nat × Nat), W.heap[i]? = some (Obj.cells cs 3 z) := by
  rcases h.2 with ⟨rfl, _⟩ | ⟨g, cap, cur, rfl, _, hg, _⟩
  · simp [Value.ownBlock] at e
  · obtain rfl : g = i := by simpa [Value.ownBlock] using e
    exact ⟨_, _, hg⟩
structure AsI (w W : World) (v : Value) (A : List Int) : Prop where
  box : Boxed W w.heap.size 58 v
  row : OwnI W (w.heap.size + 1) v A
  bel : Below w.heap.size w W
  sz : w.heap.size + 1 ≤ W.heap.size
theorem AsI.stay {w W W' : World} {v : Value} {A : List Int} (h : AsI w W v A) (k : ∀ (j : Nat) (cs : Array Value) (t : TypeId) (z : Nat × Nat), W.heap[j]? = some (.cells cs t z) → W'.heap[j]? = some (.cells cs t z)) (hb : Below w.heap.size w W') (hz : W.heap.size ≤ W'.heap.size) : AsI w W' v A := by
  refine ⟨k _ _ _ _ h.box, ⟨h.row.1, ?_⟩, hb, Nat.le_trans h.sz hz⟩
  rcases h.row.2 with hn | ⟨g, cap, cur, hv, hbb, hg, rest⟩
  · exact .inl hn
  · exact .inr ⟨g, cap, cur, hv, hbb, k _ _ _ _ hg, rest⟩
theorem AsI.below {w W W' : World} {v : Value} {A : List Int} (h : AsI w W v A) (k : Below W.heap.size W W') : AsI w W' v A :=
  h.stay (fun j _ _ _ hj => (k.block j (lt_of_block hj)).trans hj) (h.bel.trans (k.mono h.bel.size)) k.size
theorem AsI.grown {w A B : World} {v : Value} {X : List Int} {row : Option Nat} (h : AsI w A v X) (k : A.grownBy B row) (hr : ∀ r, row = some r → w.heap.size ≤ r ∧ ∃ o : Obj, A.heap[r]? = some o ∧ o.isCells = false) : AsI w B v X := by
  refine h.stay (fun j cs t z hj => (k.block j (lt_of_block hj) (fun e => ?_)).trans hj) (h.bel.trans ⟨k.os, k.tape, k.output, k.size, fun i hi => k.block i (Nat.lt_of_lt_of_le hi h.bel.size) (fun e => by have := (hr i e.symm).1; omega)⟩) k.size
  obtain ⟨_, o, ho, hc⟩ := hr j e.symm
  rw [hj] at ho; cases ho; cases hc
theorem AsI.walk {w A B : World} {v : Value} {X : List Int} {b : Nat} (h : AsI w A v X) (k : TnW b A B) (hb : w.heap.size ≤ b) : AsI w B v X := by
  have hk : Kp _ A B := k
  refine h.stay (fun j cs t z hj => hk.at hj (fun ⟨_, o, ho, hw⟩ => by rw [hj] at ho; cases ho; cases hw)) ?_ hk.size
  exact h.bel.trans ⟨hk.os, hk.tape, hk.output, hk.size, fun i hi => hk.block i (Nat.lt_of_lt_of_le hi h.bel.size) (fun ⟨e, _⟩ => by omega)⟩
theorem AsI.add {w W W' : World} {v v' : Value} {A L : List Int} (h : AsI w W v A) (ho : OwnI W' (w.heap.size + 1) v' (A ++ L)) (k : Kp (fun i => v.ownBlock = some i) W W') :
    Boxed W' w.heap.size 58 v ∧ AsI w (W'.setCell ⟨w.heap.size, 0, none⟩ v') v' (A ++ L) ∧ Kp (fun i => i = w.heap.size ∨ v.ownBlock = some i) W (W'.setCell ⟨w.heap.size, 0, none⟩ v') := by
  have f7 : Boxed W' w.heap.size 58 v := k.at h.box (fun e => by have := (World.ownsRow.lt h.row _ e).1; omega)
  have k2 : Kp (fun i => i = w.heap.size ∨ v.ownBlock = some i) W (W'.setCell ⟨w.heap.size, 0, none⟩ v') := (k.mono (fun _ e => .inr e)).put (.inl rfl) _
  have ks := Kp.set1 W' w.heap.size 0 v'
  refine ⟨f7, ⟨?_, ho.kept ks (fun g hg e => by subst e; have := (World.ownsRow.lt ho _ hg).1; omega), ?_, Nat.le_trans h.sz k2.size⟩, k2⟩
  · show (W'.setCell ⟨w.heap.size, 0, none⟩ v').heap[w.heap.size]? = _
    rw [block_set f7]; rfl
  · exact ⟨k2.os.trans h.bel.os, k2.tape.trans h.bel.tape, k2.output.trans h.bel.output, Nat.le_trans h.bel.size k2.size, fun i hi => (k2.block i (by have := h.sz; omega) (by
      rintro (e | e)
      · omega
      · have := (World.ownsRow.lt h.row i e).1; omega)).trans (h.bel.block i hi)⟩
def asT (b Bm : Nat) (x : Int) : Array Value :=
  #[.slice none 0 0, .func (.func 287) #[] #[.pointer (some ⟨Bm, 0, none⟩)], .pointer (some ⟨b, 0, none⟩), undef, .slice none 0 0, .int .i64 x, .func (.func 287) #[] #[.pointer (some ⟨Bm, 0, none⟩)], .int .i64 x, undef, undef, undef, undef, undef]
set_option maxRecDepth 100000 in
set_option maxHeartbeats 1000000 in
theorem appendSeq_any (Bm bs : Nat) (l : SnL) (w : World) (b1 : Boxed w Bm 109 (.map (some bs))) (hm : SnAt w bs l) (hl : l.length ≤ 1000) :
    Calls Tryz.prog 339 #[.slice none 0 0, .func (.func 287) #[] #[.pointer (some ⟨Bm, 0, none⟩)]] w fun e w' => ∃ v xs, e = .returned v ∧ Below w.heap.size w w' ∧ OwnZ w' w.heap.size v xs ∧ (∀ b, b ∈ xs ↔ b ∈ l.map (·.2)) ∧ xs.length ≤ l.length := by
  refine (callsIn_wide (n := 6)).1 ?_
  refine callsIn_of_wp_marks Tryz.func339 rfl trivial ?_ rfl
  simp only [Tryz.ntmps339, List.size_toArray, List.length_cons, List.length_nil, Nat.reduceAdd, Nat.reduceSub, Array.replicate_succ, Array.replicate_zero, List.push_toArray, List.append_toArray, List.nil_append, List.cons_append]
  gi_wp2
  have hB0 : Below w.heap.size w (w.alloc (.cells #[.slice none 0 0] 58)) := (Below.refl _ w).alloc (Nat.le_refl _) _
  have x2 := Boxed.new w 58 (.slice none 0 0)
  have hsz : (w.alloc (.cells #[.slice none 0 0] 58)).heap.size = w.heap.size + 1 := by simp
  generalize w.alloc (.cells #[.slice none 0 0] 58) = W0 at *
  have hN0 : AsI w W0 (.slice none 0 0) [] := ⟨x2, OwnR.nil _ _ _ _ _, hB0, by omega⟩
  refine rangeFunc_T rfl (by decide) (gf := 287) (lb := #[.pointer (some ⟨Bm, 0, none⟩)]) rfl trivial (enters_of Tryz.func287 (by kernel_rfl) rfl)
    (vals_seqA Bm bs w.heap.size l W0 ((hB0.block Bm b1.lt).trans b1) (hm.below hB0) hm.lt)
    (fun h k => h.trans k) (fun W i o o' hi ho hc hw => ⟨by simp, fun k hk hlt => World.putObj_heap_other (by omega), fun k ok hk hwk => (World.putObj_heap_other (fun e => by subst e; rw [ho] at hk; cases hk; rw [hw] at hwk; cases hwk)).trans hk⟩)
    (fun h j o hj hc hw => (show Kp _ _ _ from h).at hj (fun ⟨_, o', ho, hw'⟩ => by rw [hj] at ho; cases ho; rw [hw] at hw'; cases hw')) (Below.refl _ _) (fun _ => rfl)
    (fun pre W => ∃ v, AsI w W v pre)
    (fun _ _ _ => False)
    (fun pre A B row h hg hr => by obtain ⟨v, h⟩ := h; exact ⟨v, h.grown hg (fun r e => ⟨by have := (hr r e).1; omega, (hr r e).2⟩)⟩)
    (fun _ _ _ _ _ h _ _ => h)
    (fun pre A B h ht => by obtain ⟨v, h⟩ := h; exact ⟨v, h.walk ht (by omega)⟩)
    (fun _ _ _ _ h _ => h)
    ⟨_, hN0⟩
    (fun x a' W => a' = { tmps := asT w.heap.size Bm x, defers := [] })
    (fun x a' _ X Y row hs hg hr => hs)
    ?assign ?body ?done ?stop
  case assign =>
    rintro i pre x W K ⟨v, hN⟩ hK
    gi_wp2
    exact hK _ _ (KeepsFrom.refl _ _) (KrW.refl _ _) ⟨v, hN⟩ rfl
  case body =>
    rintro i pre x a' W hlo _ ⟨v, hN⟩ rfl hlt
    have hn0 := hN.sz
    have c3 := hN.box.cell
    obtain ⟨av, nv, cv, rfl⟩ : ∃ a n c, v = .slice a n c := by obtain ⟨a, c, h⟩ := hN.row.shape; exact ⟨a, _, c, h⟩
    have hNa := hN.below ((Below.refl _ W).alloc (Nat.le_refl _) (.cells #[.int .i64 x] 3))
    obtain ⟨v', W', hrun, hown', kp', hat'⟩ := appR_run (sc := 1) infoI rfl (by decide) Tryz.underlying58 intC_len intC_one hNa.row (rp_block intC_len (l := [x]) (block_new W _) rfl) hNa.sz (by simp; omega) (by decide) 58
    obtain ⟨a4, n4, c4, rfl⟩ : ∃ a n c, v' = .slice a n c := by obtain ⟨a, c, h⟩ := hown'.shape; exact ⟨a, _, c, h⟩
    obtain ⟨f3, hN4, k4⟩ := hNa.add hown' kp'
    have c3' := f3.cell
    have z3' := f3.frozen
    unfold asT
    simp only [List.length_cons, List.length_nil, Nat.zero_add] at hrun
    gi_wp2_with (gi_at_builtin; refine wpListIn_run rfl rfl rfl rfl hrun ?_)
    have kt := ((Kp.refl (fun i => i = w.heap.size ∨ (Value.slice av nv cv).ownBlock = some i) W).alloc (.cells #[.int .i64 x] 3)).trans k4 (fun i _ s => s)
    have hcs : ∀ i, i = w.heap.size ∨ (Value.slice av nv cv).ownBlock = some i → ∃ cs t z, W.heap[i]? = some (Obj.cells cs t z) := fun i hi => by
      rcases hi with rfl | e
      · exact ⟨_, _, _, hN.box⟩
      · obtain ⟨cs, z, hc⟩ := own_cellsI hN.row e; exact ⟨_, _, _, hc⟩
    refine ⟨keeps_of_kp kt hcs, ⟨kt.size, fun k hk hA => kt.block k hA (fun s => ?_), fun k o ho hw => kt.at ho (fun s => ?_)⟩, _, hN4⟩
    · rcases s with rfl | e
      · omega
      · have := (World.ownsRow.lt hN.row k e).1; omega
    · obtain ⟨cs, t, z, hc⟩ := hcs k s
      rw [hc] at ho; cases ho; cases hw
  case done =>
    rintro D ys W hD hys ⟨v, hN⟩ hK
    have hc := hN.box.cell
    obtain ⟨av, nv, cv, rfl⟩ : ∃ a n c, v = .slice a n c := by obtain ⟨a, c, h⟩ := hN.row.shape; exact ⟨a, _, c, h⟩
    have HY : Hid ((∀ b, b ∈ ys ↔ b ∈ l.map (·.2)) ∧ ys.length ≤ l.length) := hys
    clear hys
    gi_wp2
    refine ⟨by simp, .inl ⟨_, _, rfl, run_takeDeferred hK, ?_⟩⟩
    refine ⟨_, results_tmp rfl _ _ _, _, ys, rfl, hN.bel.trans (belowK_b (w := w) (Nat.le_refl _) W D _ _ (by omega) hK rfl rfl), ?_, HY.out.1, HY.out.2⟩
    exact OwnI.z (ownsRow_putObj (OwnI.low hN.row (by omega)) _ hK rfl)
  case stop =>
    rintro D c pre W hD hpre hF
    exact hF.elim
theorem OwnZ.below {w w' : World} {base : Nat} {v : Value} {l : List Int} (h : OwnZ w base v l) (k : Below w.heap.size w w') : OwnZ w' base v l := by
  refine ⟨h.1, ?_⟩
  rcases h.2 with hn | ⟨g, cap, cur, hv, hbb, hg, rest⟩
  · exact .inl hn
  · exact .inr ⟨g, cap, cur, hv, hbb, (k.block g (lt_of_block hg)).trans hg, rest⟩
theorem collect_any (Bm bs : Nat) (l : SnL) (w : World) (b1 : Boxed w Bm 109 (.map (some bs))) (hm : SnAt w bs l) (hl : l.length ≤ 1000) :
    Calls Tryz.prog 286 #[.func (.func 287) #[] #[.pointer (some ⟨Bm, 0, none⟩)]] w fun e w' => ∃ v xs, e = .returned v ∧ Below w.heap.size w w' ∧ OwnZ w' w.heap.size v xs ∧ (∀ b, b ∈ xs ↔ b ∈ l.map (·.2)) ∧ xs.length ≤ l.length := by
  have hA := appendSeq_any Bm bs l w b1 hm hl
  go_enter Tryz.func286, Tryz.ntmps286
  go_wp2_with (go_at_call 339; refine hA.mono ?_; rintro e w1 ⟨v1, xs, rfl, hb1, ho1, hx, hxl⟩; obtain ⟨q1, k1, rfl, hc1⟩ := ho1.at)
  go_ret
  exact ⟨_, xs, rfl, hb1, ho1, hx, hxl⟩
theorem sortedI_any (Bm bs : Nat) (l : SnL) (w : World) (b1 : Boxed w Bm 109 (.map (some bs))) (hm : SnAt w bs l) (hl : l.length ≤ 1000) :
    Calls Tryz.prog 198 #[.func (.func 287) #[] #[.pointer (some ⟨Bm, 0, none⟩)]] w fun e w' => ∃ v xs, e = .returned v ∧ Below w.heap.size w w' ∧ OwnZ w' w.heap.size v xs ∧ (∀ b, b ∈ xs ↔ b ∈ l.map (·.2)) ∧ xs.length ≤ l.length := by
  have hA := collect_any Bm bs l w b1 hm hl
  go_enter Tryz.func198, Tryz.ntmps198
  go_wp2_with (first | (go_at_call 286; refine hA.mono ?_; rintro e w1 ⟨v1, xs, rfl, hb1, ho1, hx, hxl⟩; have hS := sortI_any v1 w.heap.size xs w1 ho1 (by omega); obtain ⟨q1, k1, rfl, hc1⟩ := ho1.at) | (go_at_call 122; refine hS.mono ?_; rintro e w2 ⟨rfl, ho2, kp2⟩))
  go_ret
  refine ⟨_, _, rfl, ?_, ho2, fun b => ?_, by rw [List.length_mergeSort]; exact hxl⟩
  · exact ⟨kp2.os.trans hb1.os, kp2.tape.trans hb1.tape, kp2.output.trans hb1.output, Nat.le_trans hb1.size kp2.size, fun i hi => (kp2.block i (Nat.lt_of_lt_of_le hi hb1.size) (fun e => by have := (World.ownsRow.lt ho1 i e).1; omega)).trans (hb1.block i hi)⟩
  · rw [← hx b]; exact List.mem_mergeSort
theorem seen_any (T bs : Nat) (l : SnL) (w : World) (hc : w.cell? ⟨T, 9, none⟩ = some (.map (some bs))) (hm : SnAt w bs l) (hl : l.length ≤ 1000) :
    Calls Tryz.prog 125 #[.pointer (some ⟨T, 0, none⟩)] w fun e w' => ∃ v xs, e = .returned v ∧ Below w.heap.size w w' ∧ OwnZ w' w.heap.size v xs ∧ (∀ b, b ∈ xs ↔ b ∈ l.map (·.2)) ∧ xs.length ≤ l.length := by
  have hA := sortedI_any w.heap.size bs l (w.alloc (.cells #[.map (some bs)] 109)) (Boxed.new _ _ _) (hm.below ((Below.refl _ w).alloc (Nat.le_refl _) _)) hl
  have hV := callsIn_wide.1 (vals_in bs 1 w)
  go_enter Tryz.func125, Tryz.ntmps125
  go_wp2_with (first | (go_at_call 199; refine hV.mono ?_; rintro e w1 ⟨rfl, rfl⟩) | (go_at_call 198; refine hA.mono ?_; rintro e w2 ⟨v2, xs, rfl, hb2, ho2, hx, hxl⟩; obtain ⟨q2, k2, rfl, hc2⟩ := ho2.at))
  go_ret
  refine ⟨_, xs, rfl, ((Below.refl _ w).alloc (Nat.le_refl _) _).trans (hb2.mono (by simp)), ?_, hx, hxl⟩
  refine ⟨ho2.1, ?_⟩
  rcases ho2.2 with hn | ⟨g, cap, cur, hv, hbb, rest⟩
  · exact .inl hn
  · exact .inr ⟨g, cap, cur, hv, by simp at hbb; omega, rest⟩
set_option maxHeartbeats 1000000 in
theorem lastSnap_any (T bs : Nat) (l : SnL) (w : World) (hc : w.cell? ⟨T, 9, none⟩ = some (.map (some bs))) (hm : SnAt w bs l) :
    Calls Tryz.prog 101 #[.pointer (some ⟨T, 0, none⟩)] w fun e w' => e = .returned (.int .i64 ((l.map (·.2)).foldl max (-1))) ∧ Below w.heap.size w w' := by
  have hown := hm.own
  have hinc := hm.inc
  go_enter Tryz.func101, Tryz.ntmps101
  go_wp2_with (first
    | (at_range; refine wpList_range_own _ rfl _ 109 rfl 3 3 keyedI Tryz.underlying109 _ bs _ _ rfl hown ?_; intro w0 hrg0 hg0 hs0)
    | go_in)
  have hB0 : Below w.heap.size w w0 := (Below.refl _ _).grown hg0 (Nat.le_refl _) (fun j hj => by cases hj)
  go_frame
  go_loopw [3] (fun v wr => ∃ left cnt ps, v = .int .i64 ((ps.map (·.2)).foldl max (-1)) ∧ wr.ranges Tryz.prog 3 (plainElem (H := Unit) Tryz.prog 3) bs w.heap.size l.length (datI l) left cnt ∧ SnW l left cnt ps ∧ Below w.heap.size w wr) (fun _ wr => wr.rangeLeft bs w.heap.size)
  case atStart => exact ⟨_, _, [], rfl, hrg0, SnW.start l, hB0⟩
  case round =>
    obtain ⟨left, cnt, ps, rfl, hrg, hS, hB⟩ := hrel
    have hmeas := hrg.left_eq
    go_wp2_with (first
      | (at_next; refine wpList_next_ranges_ii _ rfl _ rfl 3 3 .i64 .i64 keyedI Tryz.underlying3 Tryz.underlying3 bs w.heap.size l.length _ _ _ rfl hrg ?_ ?_)
      | go_in)
    · intro _ hl0
      have HM : Hid ((ps.map (·.2)).foldl max (-1) = (l.map (·.2)).foldl max (-1)) := foldl_max_congr (hS.ended hl0) (-1)
      go_wp2
      go_ret
      exact ⟨by rw [← HM.out]; rfl, hB⟩
    · intro x c w1 cnt1 hwx hwc hlx hat hrg1 hlt hg1 hs1 hen
      have hS1 := hS.next hinc hat hlt
      have hB1 : Below w.heap.size w w1 := hB.trans ⟨hg1.os, hg1.tape, hg1.output, hg1.size, fun i hi => hg1.block i (Nat.lt_of_lt_of_le hi hB.size) (fun e => by cases e; omega)⟩
      have HF : Hid (((ps ++ [(x, c)]).map (·.2)).foldl max (-1) = max ((ps.map (·.2)).foldl max (-1)) c) := by show _ = _; rw [List.map_append, List.foldl_append]; rfl
      generalize (ps.map (·.2)).foldl max (-1) = m0 at *
      go_wp2
      go_roundw
      case rel => exact ⟨_, _, _, by rw [HF.out], hrg1, hS1, hB1⟩
      case measure => rw [hrg1.left_eq, hmeas]; exact hlt
theorem needed_any (T bs : Nat) (l : SnL) (q : Option Addr) (qc : Nat) (xs : List (Sl × Ly)) (lw : Bool) (w : World) (hc : w.cell? ⟨T, 9, none⟩ = some (.map (some bs))) (hm : SnAt w bs l) (hl0 : l.length ≤ 1000)
    (hp : Lyp w q xs) (hqn : q = none → qc = 0 ∧ xs = []) (hqa : ∀ a, q = some a → ∃ g off, a = ⟨g, off, none⟩) (hl : xs.length ≤ 1000000) (hsl : sumL xs ≤ 100000) :
    Calls Tryz.prog 69 #[.pointer (some ⟨T, 0, none⟩), .slice q xs.length qc, .bool lw] w fun e w' => ∃ v, e = .returned v ∧ Below w.heap.size w w' ∧ OwnE w' w.heap.size v (needL (l.map (·.2)) lw (mergeL (xs.map (·.2)))) := by
  have hB1 : Below w.heap.size w (w.alloc (.cells #[.slice q xs.length qc] 133)) := (Below.refl _ w).alloc (Nat.le_refl _) _
  have hM := callsIn_wide.1 (layMerge_in q xs.length qc 1 w)
  have hS := seen_any T bs l (w.alloc (.cells #[.slice q xs.length qc] 133)) (cell_below hB1 hc) (hm.below hB1) hl0
  have hN := fun (w1 : World) (qb : Option Addr) (bc : Nat) (ss : List Int) (h : Below (w.heap.size + 1) (w.alloc (.cells #[.slice q xs.length qc] 133)) w1) (hi : Izp w1 qb ss) (hsl' : ss.length ≤ 1000000) =>
    Needed_any w.heap.size q qc xs qb bc ss lw w1 ((h.block _ (by omega)).trans (Boxed.new w _ _)) (hp.below (hB1.trans (h.mono (by omega)))) hqn hqa hl hsl hi hsl'
  go_enter Tryz.func69, Tryz.ntmps69
  go_wp2_with (first
    | (go_at_call 124; refine hM.mono ?_; rintro e w1 ⟨rfl, rfl⟩)
    | (go_at_call 125; refine hS.mono ?_; rintro e w2 ⟨v2, ss, rfl, hb2, ho2, hx, hxl⟩; obtain ⟨q2, k2, rfl, hi2⟩ := ho2.izp; have HX : Hid (∀ b, b ∈ ss ↔ b ∈ l.map (·.2)) := hx; clear hx)
    | (go_at_call 123; refine (hN _ q2 k2 ss (by simpa using hb2) hi2 (by omega)).mono ?_; rintro e w3 ⟨v3, rfl, hb3, ho3⟩))
  go_ret
  have hz2 : w.heap.size ≤ w2.heap.size := Nat.le_trans (by simp) hb2.size
  refine ⟨_, rfl, hB1.trans ((hb2.mono (by simp)).trans (hb3.mono hz2)), ?_⟩
  rw [← needL_congr HX.out]
  exact ho3.low hz2
end Go.Proofs.YtoabedkcieindabGreatDoor
