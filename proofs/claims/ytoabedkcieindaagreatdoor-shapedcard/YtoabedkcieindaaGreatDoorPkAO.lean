import Derived.Test.YtoabedkcieindaaGreatDoorPkAM
import Derived.Test.YtoabedkcieindaaGreatDoorPkAN
import Derived.RangeFuncBox
import Derived.RangeFuncBound
import Derived.RangeFuncCalls
import Derived.RangeFuncLeaves
import Derived.Shelf.Abstract
import Derived.Shelf.RegionOpen
import Derived.OwnWalkIn
import Derived.TacticsInMore
import Derived.LoopNIn
import Derived.LoopIn
namespace Go.Proofs.YtoabedkcieindaaGreatDoor
open Go.RowKit Go.Maps Go.Sort Go.Shelf

attribute [local go_sem] Oper.semAt_some

theorem Tryz.info162 : (Tryz.prog.info? 162).map (fun i => (i.zero, i.size, i.bytes)) = some (some (.slice none 0 0), 1, 24) := by kernel_rfl
abbrev OwnL (w : World) (base : Nat) (v : Value) (l : List Sl) : Prop := OwnR 162 slC 1 w base v l

set_option maxHeartbeats 1000000 in
set_option maxRecDepth 20000 in
theorem cloneL_any (q : Option Addr) (qc : Nat) (ss : List Sl) (w : World) (hq : Rp slC 1 w q ss) (hqn : q = none → qc = 0 ∧ ss = []) (hqa : ∀ a, q = some a → ∃ g off, a = ⟨g, off, none⟩) (hl : ss.length ≤ 1000000) :
    Calls Tryz.prog 228 #[.slice q ss.length qc] w fun e w' => ∃ v, e = .returned v ∧ Below w.heap.size w w' ∧ OwnL w' w.heap.size v ss := by
  have q0 : ∀ (w : World) (a : Option Addr) (n c n' c' : Nat), (binOp .eql 202 (.slice a n c) (.slice none n' c')).run Tryz.prog w = .ok (.bool a.isNone) w := fun w a n c n' c' => Lib.run_eql_slice_nil w _ _ a n c n' c' Tryz.underlying202
  cases q with
  | none =>
    obtain ⟨rfl, rfl⟩ := hqn rfl
    go_enter Tryz.func228, Tryz.ntmps228
    go_wp2
    go_ret
    exact ⟨_, rfl, Below.refl _ _, OwnR.nil _ _ _ _ _⟩
  | some a =>
    obtain ⟨g, off, rfl⟩ := hqa a rfl
    have h0 : OwnL (w.alloc (.cells #[] 162)) w.heap.size (.slice (some ⟨w.heap.size, 0, none⟩) 0 0) [] := World.ownsRow_lit (size := 1) w #[] 0 (Nat.le_refl _) (Nat.zero_le _) rfl
    go_enter Tryz.func228, Tryz.ntmps228
    go_wp2_with (first
      | (at_builtin; refine wpList_appR _ rfl (.tmp 5) (.tmp 6) 162 202 Tryz.info162 rfl (by decide) Tryz.underlying202 slC_len slC_one rfl w.heap.size _ [] ss (some ⟨g, off, none⟩) qc rfl rfl (by simp) h0 (fun e => by cases e) (fun a ha => ⟨_, _, (Option.some.inj ha).symm⟩) (hq.below ((Below.refl _ _).alloc (Nat.le_refl _) _)) (by simp; omega) (by simp; omega) ?_; intro v3 w3 hown3 kp3; have hb3 := OwnR.belowOwn (by simp) h0 kp3; obtain ⟨a3, cap3, rfl⟩ := hown3.shape)
      | go_in)
    go_ret
    refine ⟨_, rfl, ((Below.refl _ _).alloc (Nat.le_refl _) _).trans hb3, ?_⟩
    simpa using hown3

def TnM (b : Nat) (A B : World) : Prop := Kp (fun k => b ≤ k ∧ ∃ cs z, A.heap[k]? = some (.cells cs 162 z)) A B
theorem TnM.of_below {b : Nat} {A B : World} (h : Below A.heap.size A B) : TnM b A B := Kp.of_below h
theorem TnM.others {b : Nat} {A B : World} (h : TnM b A B) (j : Nat) (o : Obj) (hj : A.heap[j]? = some o) (hc : o.isCells = false) : B.heap[j]? = some o :=
  Kp.at h hj (fun ⟨_, cs, z, e⟩ => by rw [hj] at e; cases e; cases hc)

structure KrM (Z : Nat → Prop) (n0 : Nat) (W W' : World) : Prop where
  size : W.heap.size ≤ W'.heap.size
  low : ∀ k, Z k → k < W.heap.size → W'.heap[k]? = W.heap[k]?
  ent : ∀ (k : Nat) (cs : Array Value) (z : Nat × Nat), n0 ≤ k → W.heap[k]? = some (.cells cs 162 z) → W'.heap[k]? = some (.cells cs 162 z)
theorem KrM.trans {Z : Nat → Prop} {n0 : Nat} {A B C : World} (h : KrM Z n0 A B) (k : KrM Z n0 B C) : KrM Z n0 A C :=
  ⟨Nat.le_trans h.size k.size, fun i z hi => (k.low i z (Nat.lt_of_lt_of_le hi h.size)).trans (h.low i z hi), fun i cs z hn hi => k.ent i cs z hn (h.ent i cs z hn hi)⟩
theorem KrM.of_kp {Z S : Nat → Prop} {n0 : Nat} {A B : World} (h : Kp S A B) (hz : ∀ i, Z i → ¬ S i) (he : ∀ (k : Nat) (cs : Array Value) (z : Nat × Nat), n0 ≤ k → A.heap[k]? = some (.cells cs 162 z) → ¬ S k) : KrM Z n0 A B :=
  ⟨h.size, fun i z hi => h.block i hi (hz i z), fun i cs z hn hi => h.at hi (he i cs z hn hi)⟩
theorem KrM.sl {Z : Nat → Prop} {n0 : Nat} {A B : World} (h : KrM Z n0 A B) {s : Sl} {l : Ly} (hs : SlAt A s l) (hz : ∀ a, s.1 = some a → 0 < l.length → Z a.block) : SlAt B s l := by
  refine ⟨hs.len, hs.cap, hs.nil, hs.pl, fun i hi => ?_⟩
  obtain ⟨g, off, hq, c0, c1, c2, c3⟩ := hs.row i hi
  have hb := h.low g (hz _ hq (by omega)) (World.block_lt_of_cell? A ⟨g, off + i * 4, none⟩ c0)
  have hc : ∀ o, B.cell? ⟨g, o, none⟩ = A.cell? ⟨g, o, none⟩ := fun o => by simp only [World.cell?, hb]
  exact ⟨g, off, hq, (hc _).trans c0, (hc _).trans c1, (hc _).trans c2, (hc _).trans c3⟩
theorem KrM.row {Z : Nat → Prop} {n0 base : Nat} {A B : World} (h : KrM Z n0 A B) {v : Value} {l : List Sl} (ho : OwnL A base v l) (hb : n0 ≤ base) : OwnL B base v l := by
  refine ⟨ho.1, ?_⟩
  rcases ho.2 with hn | ⟨g, cap, cur, hv, hbb, hg, rest⟩
  · exact .inl hn
  · exact .inr ⟨g, cap, cur, hv, hbb, h.ent _ _ _ (by omega) hg, rest⟩

def restLen (w : World) (v : Value) : Nat := match v with
  | .slice (some a) n _ => match w.heap[a.block]? with
    | some (.cells cs _ _) => ((cs.toList.take n).map fun u => match u with | .slice _ m _ => m | _ => 0).sum
    | _ => 0
  | _ => 0
theorem flat_slC (l : List Sl) : l.flatMap slC = l.map slV := by induction l with | nil => rfl | cons x r ih => simp [slC, ih]
theorem restLen_is {w : World} {base : Nat} {v : Value} {ys : List (Sl × Ly)} (h : OwnL w base v (ys.map (·.1))) (hy : ∀ y ∈ ys, y.1.2.1 = y.2.length) : restLen w v = sumL ys := by
  rcases h.2 with ⟨rfl, hn⟩ | ⟨g, cap, cur, rfl, _, hg, _, _, _, h4⟩
  · have : ys = [] := by simpa using hn
    subst this; rfl
  · simp only [restLen, hg]
    rw [Nat.mul_one] at h4
    rw [h4, flat_slC, List.map_map, List.map_map]
    unfold sumL
    congr 1
    apply List.map_congr_left
    intro y hyy
    exact hy y hyy

theorem merge_len : ∀ (k : Nat) (ls : List Ly), ls.flatten.length = k → (mergeF k ls).length = k
  | 0, ls, _ => by simp [mergeF]
  | k + 1, ls, h => by
    rw [mergeF]
    cases hl : leastI ls with
    | none =>
      exfalso
      have : ls.flatten = [] := by
        rw [List.flatten_eq_nil_iff]
        intro l hm
        obtain ⟨i, _, rfl⟩ := mem_getD hm
        exact leastI_none hl i
      rw [this] at h; simp at h
    | some i =>
      obtain ⟨e, he, _⟩ := leastI_is hl
      simp only [he]
      have hc : ∃ t, ls.getD i [] = e :: t := by
        cases hg : ls.getD i [] with
        | nil => rw [hg] at he; cases he
        | cons a t => rw [hg] at he; cases he; exact ⟨t, rfl⟩
      obtain ⟨t, ht⟩ := hc
      rw [ht, List.length_cons, List.tail_cons, merge_len k _ (by have := set_flat ls i e t ht; omega)]
theorem sum_flat (ys : List (Sl × Ly)) : (ys.map (·.2)).flatten.length = sumL ys := by simp [sumL, List.length_flatten, List.map_map]; rfl

end Go.Proofs.YtoabedkcieindaaGreatDoor

namespace Go.Proofs.YtoabedkcieindaaGreatDoor
open Go.RowKit Go.Maps Go.Sort Go.Shelf

attribute [local go_sem] Oper.semAt_some

structure MgI (wr : World) (base : Nat) (Z : Nat → Prop) (v : Value) (xs ys : List (Sl × Ly)) (pre : Ly) : Prop where
  row : OwnL wr base v (ys.map (·.1))
  each : ∀ y ∈ ys, SlAt wr y.1 y.2 ∧ ∀ a, y.1.1 = some a → 0 < y.2.length → Z a.block
  len : ys.length = xs.length
  cnt : pre.length + sumL ys = sumL xs
  mg : pre ++ mergeF (sumL ys) (ys.map (·.2)) = mergeL (xs.map (·.2))

theorem MgI.below {wr W' : World} {base : Nat} {Z : Nat → Prop} {v : Value} {xs ys : List (Sl × Ly)} {pre : Ly} (h : MgI wr base Z v xs ys pre) (k : Below wr.heap.size wr W') : MgI W' base Z v xs ys pre :=
  ⟨h.row.below k, fun y hy => ⟨(h.each y hy).1.below k, (h.each y hy).2⟩, h.len, h.cnt, h.mg⟩
theorem MgI.kr {wr W' : World} {base n0 : Nat} {Z : Nat → Prop} {v : Value} {xs ys : List (Sl × Ly)} {pre : Ly} (h : MgI wr base Z v xs ys pre) (k : KrM Z n0 wr W') (hn : n0 ≤ base) : MgI W' base Z v xs ys pre :=
  ⟨k.row h.row hn, fun y hy => ⟨k.sl (h.each y hy).1 (h.each y hy).2, (h.each y hy).2⟩, h.len, h.cnt, h.mg⟩
theorem MgI.lyp {wr : World} {base : Nat} {Z : Nat → Prop} {v : Value} {xs ys : List (Sl × Ly)} {pre : Ly} (h : MgI wr base Z v xs ys pre) : ∃ q cap, v = .slice q ys.length cap ∧ Lyp wr q ys ∧ ∀ a, q = some a → ∃ g, a = ⟨g, 0, none⟩ ∧ base ≤ g ∧ ∃ cs, wr.heap[g]? = some (.cells cs 162 (0, 0)) := by
  obtain ⟨q, cap, hv, _, hr, _, hb⟩ := h.row.rp slC_len
  refine ⟨q, cap, by rw [hv, List.length_map], ⟨hr, fun y hy => (h.each y hy).1⟩, fun a ha => ?_⟩
  rcases h.row.2 with ⟨hv2, _⟩ | ⟨g, c, cur, hv2, hbb, hg, _⟩
  · rw [hv2] at hv
    have := (Value.slice.inj hv).1
    rw [ha] at this
    cases this
  · rw [hv2] at hv
    have := (Value.slice.inj hv).1
    rw [ha] at this
    cases this
    exact ⟨g, rfl, hbb, cur, hg⟩
theorem MgI.atEnd {wr : World} {base : Nat} {Z : Nat → Prop} {v : Value} {xs ys : List (Sl × Ly)} {pre : Ly} (h : MgI wr base Z v xs ys pre) (hl : leastI (ys.map (·.2)) = none) : pre = mergeL (xs.map (·.2)) := by
  have hm := h.mg
  cases hs : sumL ys with
  | zero => rw [hs] at hm; simpa [mergeF] using hm
  | succ k => rw [hs, mergeF, hl] at hm; simpa using hm
theorem MgI.atLeast {wr : World} {base : Nat} {Z : Nat → Prop} {v : Value} {xs ys : List (Sl × Ly)} {pre : Ly} {i : Nat} (h : MgI wr base Z v xs ys pre) (hl : leastI (ys.map (·.2)) = some i) :
    ∃ (hi : i < ys.length) (e : En) (t : Ly), ys[i].2 = e :: t ∧ pre ++ [e] <+: mergeL (xs.map (·.2)) ∧ pre.length < sumL xs ∧
      (pre ++ [e]).length + sumL (ys.set i (slTail ys[i].1, t)) = sumL xs ∧ (pre ++ [e]) ++ mergeF (sumL (ys.set i (slTail ys[i].1, t))) ((ys.set i (slTail ys[i].1, t)).map (·.2)) = mergeL (xs.map (·.2)) := by
  obtain ⟨e, he, _⟩ := leastI_is hl
  have hi : i < ys.length := by
    rcases Nat.lt_or_ge i ys.length with h | h
    · exact h
    · simp [List.getD, List.getElem?_eq_none (by simpa using h : (ys.map (·.2)).length ≤ i)] at he
  have hg := sndAt ys i hi
  rw [hg] at he
  obtain ⟨t, ht⟩ : ∃ t, ys[i].2 = e :: t := by
    cases hy : ys[i].2 with
    | nil => rw [hy] at he; cases he
    | cons a t => rw [hy] at he; cases he; exact ⟨t, rfl⟩
  have hfl := set_flat (ys.map (·.2)) i e t (by rw [hg, ht])
  have hms : (ys.set i (slTail ys[i].1, t)).map (·.2) = (ys.map (·.2)).set i t := by rw [List.map_set]
  rw [← hms, sum_flat, sum_flat] at hfl
  have hm := h.mg
  rw [← hfl, mergeF, hl] at hm
  simp only [hg, ht, List.head?_cons, List.tail_cons] at hm
  rw [← hms] at hm
  have hc := h.cnt
  refine ⟨hi, e, t, ht, ⟨mergeF (sumL (ys.set i (slTail ys[i].1, t))) ((ys.set i (slTail ys[i].1, t)).map (·.2)), by rw [← hm]; simp⟩, by omega, by simp only [List.length_append, List.length_singleton]; omega, by rw [← hm]; simp⟩

theorem own_set {w : World} {base g n cap : Nat} {ss : List Sl} {i : Nat} (h : OwnL w base (.slice (some ⟨g, 0, none⟩) n cap) ss) (s : Sl) : OwnL (w.setCell ⟨g, i, none⟩ (slV s)) base (.slice (some ⟨g, 0, none⟩) n cap) (ss.set i s) := by
  refine ⟨by rw [flatR_len slC_len], ?_⟩
  rcases h.2 with ⟨hv, _⟩ | ⟨g', cap', cur, hv, hb, hg, h1, h2, h3, h4⟩
  · cases hv
  · obtain ⟨rfl, rfl, rfl⟩ : g = g' ∧ n = ss.length ∧ cap = cap' := by simpa using hv
    refine .inr ⟨g, cap, cur.setIfInBounds i (slV s), by rw [List.length_set], hb, block_set hg _, by rw [List.length_set]; exact h1, h2, by simpa using h3, ?_⟩
    rw [Nat.mul_one] at h4 ⊢
    rw [List.length_set, flat_slC, List.map_set, ← flat_slC, ← h4]
    simp only [Array.toList_setIfInBounds]
    rw [List.take_set]

theorem MgI.store {wr : World} {base n0 : Nat} {Z : Nat → Prop} {g n cap : Nat} {xs ys : List (Sl × Ly)} {pre : Ly} {i : Nat} {e : En} {t : Ly} (h : MgI wr base Z (.slice (some ⟨g, 0, none⟩) n cap) xs ys pre) (hn : n0 ≤ base) (hZ : ∀ k, Z k → k < n0) (hi : i < ys.length) (ht : ys[i].2 = e :: t)
    (hc : (pre ++ [e]).length + sumL (ys.set i (slTail ys[i].1, t)) = sumL xs) (hm : (pre ++ [e]) ++ mergeF (sumL (ys.set i (slTail ys[i].1, t))) ((ys.set i (slTail ys[i].1, t)).map (·.2)) = mergeL (xs.map (·.2))) :
    MgI (wr.setCell ⟨g, i, none⟩ (slV (slTail ys[i].1))) base Z (.slice (some ⟨g, 0, none⟩) n cap) xs (ys.set i (slTail ys[i].1, t)) (pre ++ [e]) := by
  have hgb : base ≤ g := (World.ownsRow.lt h.row g rfl).1
  have keep : ∀ {s : Sl} {l : Ly}, SlAt wr s l → (∀ a, s.1 = some a → 0 < l.length → Z a.block) → SlAt (wr.setCell ⟨g, i, none⟩ (slV (slTail ys[i].1))) s l := fun hs hz => hs.kept (Kp.set1 wr g i _) (fun a ha hl e => by have := hZ _ (hz a ha hl); omega)
  refine ⟨?_, fun y hy => ?_, by rw [List.length_set]; exact h.len, hc, hm⟩
  · rw [List.map_set]
    exact own_set h.row _
  · rcases List.mem_or_eq_of_mem_set hy with hy | rfl
    · exact ⟨keep (h.each y hy).1 (h.each y hy).2, (h.each y hy).2⟩
    · obtain ⟨h1, h2⟩ := h.each _ (List.getElem_mem hi)
      rw [ht] at h1 h2
      have hz : ∀ a, (slTail ys[i].1).1 = some a → 0 < t.length → Z a.block := fun a ha hl => slTail_blk (E := Z) (fun b hb => h2 b hb (by simp)) a ha
      exact ⟨keep h1.tail hz, hz⟩

theorem restLen_below {w w' : World} {base : Nat} {v : Value} {ss : List Sl} (h : OwnL w base v ss) (k : Below w.heap.size w w') : restLen w' v = restLen w v := by
  rcases h.2 with ⟨rfl, _⟩ | ⟨g, cap, cur, rfl, _, hg, _⟩
  · rfl
  · simp only [restLen, (k.block g (lt_of_block hg))]
theorem firstV_some {ls : List Ly} {i : Nat} (h : leastI ls = some i) : firstV ls = i := by unfold firstV; rw [h]
theorem firstV_none {ls : List Ly} (h : leastI ls = none) : firstV ls = -1 := by unfold firstV; rw [h]

abbrev encE (e : En) : Array Value := #[aggE e]

set_option maxRecDepth 100000 in
set_option maxHeartbeats 1600000 in
theorem merge1_in (l Bl n0 : Nat) (Z : Nat → Prop) (q : Option Addr) (qc : Nat) (xs : List (Sl × Ly)) (J Jx : Ly → World → Prop) (W : World) (hJ : ∀ s A B, J s A → TnM W.heap.size A B → J s B)
    (hY : ∀ pre x W1, J pre W1 → pre.length < sumL xs → YieldAt Fence.wide 4 Tryz.prog l (encE x) W1 fun e W' =>
      (e = .returned (.bool true) ∧ J (pre ++ [x]) W' ∧ KrM Z n0 W1 W') ∨ (e = .returned (.bool false) ∧ Jx (pre ++ [x]) W'))
    (b1 : Boxed W Bl 202 (.slice q xs.length qc)) (hp : Lyp W q xs) (hqn : q = none → qc = 0 ∧ xs = []) (hqa : ∀ a, q = some a → ∃ g off, a = ⟨g, off, none⟩) (hn : n0 ≤ W.heap.size) (hZ : ∀ k, Z k → k < n0) (hz : ∀ x ∈ xs, ∀ a, x.1.1 = some a → 0 < x.2.length → Z a.block) (hl : xs.length ≤ 1000000) (h0 : J [] W) :
    CallsIn Fence.wide 5 Tryz.prog 227 #[.func (.yield l) #[] #[], .pointer (some ⟨Bl, 0, none⟩)] W fun e W' => (∃ v, e = .returned v) ∧
      ((∃ ys, ys = mergeL (xs.map (·.2)) ∧ J ys W') ∨ (∃ pre, pre <+: mergeL (xs.map (·.2)) ∧ Jx pre W')) := by
  have hcl : CallsIn Fence.wide 4 Tryz.prog 228 #[.slice q xs.length qc] W fun e w' => ∃ v, e = .returned v ∧ Below W.heap.size W w' ∧ OwnL w' W.heap.size v (xs.map (·.1)) := by
    have := cloneL_any q qc (xs.map (·.1)) W hp.row (fun h => ⟨(hqn h).1, by rw [(hqn h).2]; rfl⟩) hqa (by simpa using hl)
    rw [List.length_map] at this
    exact callsIn_wide.2 this
  have hfa : ∀ (w : World) (q : Option Addr) (cap : Nat) (ys : List (Sl × Ly)), Lyp w q ys → ys.length ≤ 1000000 → CallsIn Fence.wide 4 Tryz.prog 229 #[.slice q ys.length cap] w fun e w' => e = .returned (.int .i64 (firstV (ys.map (·.2)))) ∧ Below w.heap.size w w' := fun w q cap ys h1 h2 => callsIn_wide.2 (first_any q cap ys w h1 h2)
  have c1 := b1.cell
  have hf1 : Fence.wide.fn 228 := trivial
  have hf2 : Fence.wide.fn 229 := trivial
  refine callsIn_of_wp Tryz.func227 rfl trivial ?_ rfl
  simp only [Tryz.ntmps227, List.size_toArray, List.length_cons, List.length_nil, Nat.reduceAdd, Nat.reduceSub, Array.replicate_succ, Array.replicate_zero, List.push_toArray, List.append_toArray, List.nil_append, List.cons_append]
  gi_wp2_with (first
    | (gi_at_call 228; refine hcl.mono ?_; rintro e w1 ⟨v, rfl, hbl, hown⟩; have hM1 : MgI w1 W.heap.size Z v xs xs [] := ⟨hown, fun y hy => ⟨(hp.each y hy).below hbl, hz y hy⟩, rfl, by simp, by simp only [List.nil_append]; unfold mergeL; rw [sum_flat]⟩; obtain ⟨q1, cap1, hv1, hly1, _⟩ := hM1.lyp; subst hv1; have hfc := hfa w1 q1 cap1 xs hly1 hl)
    | (gi_at_call 229; refine hfc.mono ?_; rintro e w2 ⟨rfl, hb2⟩))
  have hM2 := hM1.below hb2
  have hJ2 := hJ [] W w2 h0 (TnM.of_below (hbl.trans (hb2.mono hbl.size)))
  clear hM1 hfc hly1 hown c1 hcl b1 hp h0
  gi_loopw [4] (fun i wr => ∃ (ys : List (Sl × Ly)) (pre : Ly), i = .int .i64 (firstV (ys.map (·.2))) ∧ MgI wr W.heap.size Z (.slice q1 xs.length cap1) xs ys pre ∧ J pre wr) (fun _ wr => restLen wr (.slice q1 xs.length cap1))
  case atStart => exact ⟨xs, [], rfl, hM2, hJ2⟩
  case round =>
    clear hM2 hJ2
    obtain ⟨ys, pre, rfl, hM, hJp⟩ := hrel
    cases hli : leastI (ys.map (·.2)) with
    | none =>
      have E : Hid (pre = mergeL (xs.map (·.2))) := hM.atEnd hli
      rw [firstV_none hli]
      gi_wp2
      go_end0
      exact ⟨⟨_, rfl⟩, .inl ⟨_, rfl, by rw [← E.out]; exact hJp⟩⟩
    | some i =>
      obtain ⟨hi, e, t, ht, hpf, hplt, hcn, hmg⟩ := hM.atLeast hli
      have HP : Hid (pre ++ [e] <+: mergeL (xs.map (·.2))) := hpf
      have HC : Hid ((pre ++ [e]).length + sumL (ys.set i (slTail ys[i].1, t)) = sumL xs) := hcn
      have HG : Hid ((pre ++ [e]) ++ mergeF (sumL (ys.set i (slTail ys[i].1, t))) ((ys.set i (slTail ys[i].1, t)).map (·.2)) = mergeL (xs.map (·.2))) := hmg
      clear hpf hcn hmg
      rw [firstV_some hli]
      obtain ⟨q2, cap2, hv2, hly, hqq⟩ := hM.lyp
      obtain ⟨rfl, hlen, rfl⟩ : q1 = q2 ∧ xs.length = ys.length ∧ cap1 = cap2 := by simpa using hv2
      obtain ⟨g, off, rfl, cr⟩ := hly.at i hi
      obtain ⟨g', e', hgb, cs, hgc⟩ := hqq _ rfl
      cases e'
      have hsl := (hM.each _ (List.getElem_mem hi)).1
      rw [ht] at hsl
      obtain ⟨sa, sn, sc, hyi⟩ : ∃ sa sn sc, ys[i].1 = (sa, sn, sc) := ⟨_, _, _, rfl⟩
      rw [hyi] at hsl cr
      have hln : sn = t.length + 1 := by have := hsl.len; simpa using this
      have hcap : t.length + 1 ≤ sc := by have := hsl.cap; simpa using this
      subst hln
      obtain ⟨g1, off1, hq1, d0, d1, d2, d3⟩ := hsl.head
      simp only at hq1
      subst hq1
      rw [Nat.zero_add] at cr
      replace cr : wr.cell? ⟨g, i, none⟩ = some (.slice (some ⟨g1, off1, none⟩) (t.length + 1) sc) := cr
      obtain ⟨fn, tmps, assign, body, hy, hR⟩ := hY pre e wr hJp hplt
      have hix : (i : Int) < (xs.length : Int) := by omega
      have hrl := restLen_is hM.row (fun y hy => (hM.each y hy).1.len)
      have hrs : sumL (ys.set i (slTail ys[i].1, t)) < sumL ys := by
        have h1 := HC.out
        have h2 := hM.cnt
        simp only [List.length_append, List.length_singleton] at h1
        omega
      have HRL : Hid (restLen wr (.slice (some ⟨g, 0, none⟩) xs.length cap1) = sumL ys) := hrl
      have HLN : Hid (xs.length = ys.length) := hlen
      clear hY hqq hv2 hrl hlen
      gi_wp2
      refine hR.mono ?_
      rintro er W3 (⟨rfl, hJ3, hk3⟩ | ⟨rfl, hJx3⟩)
      · have hM3 := hM.kr hk3 hn
        have hlen := HLN.out
        obtain ⟨q3, cap3, hv3, hly3, _⟩ := hM3.lyp
        obtain ⟨hq3, -, rfl⟩ : some (⟨g, 0, none⟩ : Addr) = q3 ∧ xs.length = ys.length ∧ cap1 = cap3 := by simpa using hv3
        subst hq3
        obtain ⟨g', off', e', cr3⟩ := hly3.at i hi
        cases e'
        rw [hyi, Nat.zero_add] at cr3
        replace cr3 : W3.cell? ⟨g, i, none⟩ = some (.slice (some ⟨g1, off1, none⟩) (t.length + 1) sc) := cr3
        have hgc3 := hk3.ent g cs (0, 0) (by omega) hgc
        have fz3 : W3.frozen? ⟨g, i, none⟩ = false := frozen_block hgc3
        have hst := hM3.store hn hZ hi ht HC.out HG.out
        have hJ4 := hJ _ _ _ hJ3 (show TnM W.heap.size W3 (W3.setCell ⟨g, i, none⟩ (slV (slTail ys[i].1))) from (Kp.set1 W3 g i _).mono (fun k hk => by subst hk; exact ⟨hgb, cs, (0, 0), hgc3⟩))
        have hrl4 := restLen_is hst.row (fun y hy => (hst.each y hy).1.len)
        obtain ⟨q4, cap4, hv4, hly4, _⟩ := hst.lyp
        obtain ⟨hq4, hl4, rfl⟩ : some (⟨g, 0, none⟩ : Addr) = q4 ∧ xs.length = (ys.set i (slTail ys[i].1, t)).length ∧ cap1 = cap4 := by simpa using hv4
        subst hq4
        have hfc := hfa _ _ cap1 _ hly4 (by omega)
        rw [← hl4] at hfc
        have hTl : ∀ sc' : Nat, sc = sc' → slV (slTail ys[i].1) = .slice (if sc' = 1 then some ⟨g1, off1, none⟩ else some ⟨g1, off1 + 4, none⟩) t.length (sc' - 1) := fun sc' h => by
          subst h
          rw [hyi]
          simp only [slTail, slV]
          split
          · simp
          · simp [Addr.add_lit]
        have HRS : Hid (restLen (W3.setCell ⟨g, i, none⟩ (slV (slTail ys[i].1))) (.slice (some ⟨g, 0, none⟩) xs.length cap1) < restLen wr (.slice (some ⟨g, 0, none⟩) xs.length cap1)) := by show _ < _; rw [HRL.out, hrl4]; exact hrs
        clear hrl4 hM3 hly3 hv3 hv4 hrs hl4 hlen
        by_cases hsc : sc = 1
        · obtain rfl : t = [] := List.eq_nil_of_length_eq_zero (by omega)
          have hT := hTl 1 hsc
          subst hsc
          rw [if_pos rfl] at hT
          simp only [List.length_nil, Nat.sub_self] at hT
          rw [hT] at hfc hJ4 hst HRS
          clear hTl hT hly4 HRL HC HG hly hM hR hy
          gi_wp2_with (gi_at_call 229; refine hfc.mono ?_; rintro er2 w5 ⟨rfl, hb5⟩)
          go_roundw
          case rel => exact ⟨_, _, by rw [List.map_set], hst.below hb5, hJ _ _ _ hJ4 (TnM.of_below hb5)⟩
          case measure => exact Nat.lt_of_le_of_lt (Nat.le_of_eq (restLen_below hst.row hb5)) HRS.out
        · have hT := hTl sc rfl
          rw [if_neg hsc] at hT
          rw [hT] at hfc hJ4 hst HRS
          clear hTl hT hly4 HRL HC HG hly hM hR hy
          gi_wp2_with (gi_at_call 229; refine hfc.mono ?_; rintro er2 w5 ⟨rfl, hb5⟩)
          go_roundw
          case rel => exact ⟨_, _, by rw [List.map_set], hst.below hb5, hJ _ _ _ hJ4 (TnM.of_below hb5)⟩
          case measure => exact Nat.lt_of_le_of_lt (Nat.le_of_eq (restLen_below hst.row hb5)) HRS.out
      · gi_wp2
        refine bodyPost_ret (results_none rfl _ _ _) rfl ?_
        exact ⟨⟨_, rfl⟩, .inr ⟨_, HP.out, hJx3⟩⟩

theorem layMerge_in (q : Option Addr) (n qc : Nat) (m : Nat) (w : World) :
    CallsIn Fence.wide m Tryz.prog 173 #[.slice q n qc] w fun e w' => e = .returned (.func (.func 227) #[] #[.pointer (some ⟨w.heap.size, 0, none⟩)]) ∧ w' = w.alloc (.cells #[.slice q n qc] 202) := by
  refine callsIn_wide.2 ?_
  go_enter Tryz.func173, Tryz.ntmps173
  go_wp2
  go_ret
  exact ⟨rfl, rfl⟩

theorem merge_seq (Bl n0 : Nat) (Z : Nat → Prop) (q : Option Addr) (qc : Nat) (xs : List (Sl × Ly)) (w : World) (b1 : Boxed w Bl 202 (.slice q xs.length qc)) (hp : Lyp w q xs) (hqn : q = none → qc = 0 ∧ xs = []) (hqa : ∀ a, q = some a → ∃ g off, a = ⟨g, off, none⟩) (hn : n0 ≤ w.heap.size) (hZ : ∀ k, Z k → k < n0) (hz : ∀ x ∈ xs, ∀ a, x.1.1 = some a → 0 < x.2.length → Z a.block) (hl : xs.length ≤ 1000000) :
    SeqT Fence.wide 5 Tryz.prog 227 #[.pointer (some ⟨Bl, 0, none⟩)] encE (KrM Z n0) TnM (fun ys => ys = mergeL (xs.map (·.2))) (fun pre => pre <+: mergeL (xs.map (·.2))) (sumL xs) w := fun l J Jx W hW hJ _ hY h0 =>
  merge1_in l Bl n0 Z q qc xs J Jx W hJ hY ((hW.block Bl b1.lt).trans b1) (hp.below hW) hqn hqa (Nat.le_trans hn hW.size) hZ hz hl h0

end Go.Proofs.YtoabedkcieindaaGreatDoor
