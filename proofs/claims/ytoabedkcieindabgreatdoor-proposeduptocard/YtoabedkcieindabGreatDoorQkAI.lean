import Derived.Test.YtoabedkcieindabGreatDoorQkAH
namespace Go.Proofs.YtoabedkcieindabGreatDoor
open Go.RowKit Go.Maps Go.Sort Go.Shelf
attribute [local go_sem] Oper.semAt_some
structure MgI (wr : World) (base : Nat) (Z : Nat → Prop) (v : Value) (xs ys : List (Sl × Ly)) (pre : Ly) : Prop where
  row : OwnL wr base v (ys.map (·.1))
  each : ∀ y ∈ ys, SlAt wr y.1 y.2 ∧ ∀ a, y.1.1 = some a → 0 < y.2.length → Z a.block
  len : ys.length = xs.length
  cnt : pre.length + sumL ys = sumL xs
  mg : pre ++ mergeF (sumL ys) (ys.map (·.2)) = mergeL (xs.map (·.2))
theorem MgI.below {wr W' : World} {base : Nat} {Z : Nat → Prop} {v : Value} {xs ys : List (Sl × Ly)} {pre : Ly} (h : MgI wr base Z v xs ys pre) (k : Below wr.heap.size wr W') : MgI W' base Z v xs ys pre :=
  ⟨h.row.below k, fun y hy => ⟨(h.each y hy).1.below k, (h.each y hy).2⟩, h.len, h.cnt, h.mg⟩
theorem MgI.kr {wr W' : World} {base n0 : Nat} {Z : Nat → Prop} {v : Value} {xs ys : List (Sl × Ly)} {pre : Ly} (h : MgI wr base Z v xs ys pre) (k : KrM Z n0 wr W') (hn : n0 ≤ base) : MgI W' base Z v xs ys pre :=
  ⟨k.row h.row hn, fun y hy => ⟨k.sl (h.each y hy).1 (h.each y hy).2, (h.each y hy).2⟩, h.len, h.cnt, h.mg⟩
theorem MgI.lyp {wr : World} {base : Nat} {Z : Nat → Prop} {v : Value} {xs ys : List (Sl × Ly)} {pre : Ly} (h : MgI wr base Z v xs ys pre) : ∃ q cap, v = .slice q ys.length cap ∧ Lyp wr q ys ∧ ∀ a, q = some a → ∃ g, a = ⟨g, 0, none⟩ ∧ base ≤ g ∧ ∃ cs, wr.heap[g]? = some (.cells cs 112 (0, 0)) := by
  obtain ⟨q, cap, hv, _, hr, _, hb⟩ := h.row.rp slC_len
  refine ⟨q, cap, by rw [hv, List.length_map], ⟨hr, fun y hy => (h.each y hy).1⟩, fun a ha => ?_⟩
  rcases h.row.2 with ⟨hv2, _⟩ | ⟨g, c, cur, hv2, hbb, hg, _⟩
  · rw [hv2] at hv
    have := (Value.slice.inj hv).1
    rw [ha] at this
    cases this
  · rw [hv2] at hv
    have := (Value.slice.inj hv).1
    rw [ha] at this
    cases this
    exact ⟨g, rfl, hbb, cur, hg⟩
theorem MgI.atEnd {wr : World} {base : Nat} {Z : Nat → Prop} {v : Value} {xs ys : List (Sl × Ly)} {pre : Ly} (h : MgI wr base Z v xs ys pre) (hl : leastI (ys.map (·.2)) = none) : pre = mergeL (xs.map (·.2)) := by
  have hm := h.mg
  cases hs : sumL ys with
  | zero => rw [hs] at hm; simpa [mergeF] using hm
  | succ k => rw [hs, mergeF, hl] at hm; simpa using hm
theorem MgI.atLeast {wr : World} {base : Nat} {Z : Nat → Prop} {v : Value} {xs ys : List (Sl × Ly)} {pre : Ly} {i : Nat} (h : MgI wr base Z v xs ys pre) (hl : leastI (ys.map (·.2)) = some i) :
    ∃ (hi : i < ys.length) (e : En) (t : Ly), ys[i].2 = e :: t ∧ pre ++ [e] <+: mergeL (xs.map (·.2)) ∧ pre.length < sumL xs ∧
      (pre ++ [e]).length + sumL (ys.set i (slTail ys[i].1, t)) = sumL xs ∧ (pre ++ [e]) ++ mergeF (sumL (ys.set i (slTail ys[i].1, t))) ((ys.set i (slTail ys[i].1, t)).map (·.2)) = mergeL (xs.map (·.2)) := by
  obtain ⟨e, he, _⟩ := leastI_is hl
  have hi : i < ys.length := by
    rcases Nat.lt_or_ge i ys.length with h | h
    · exact h
    · simp [List.getD, List.getElem?_eq_none (by simpa using h : (ys.map (·.2)).length ≤ i)] at he
  have hg := sndAt ys i hi
  rw [hg] at he
  obtain ⟨t, ht⟩ : ∃ t, ys[i].2 = e :: t := by
    cases hy : ys[i].2 with
    | nil => rw [hy] at he; cases he
    | cons a t => rw [hy] at he; cases he; exact ⟨t, rfl⟩
  have hfl := set_flat (ys.map (·.2)) i e t (by rw [hg, ht])
  have hms : (ys.set i (slTail ys[i].1, t)).map (·.2) = (ys.map (·.2)).set i t := by rw [List.map_set]
  rw [← hms, sum_flat, sum_flat] at hfl
  have hm := h.mg
  rw [← hfl, mergeF, hl] at hm
  simp only [hg, ht, List.head?_cons, List.tail_cons] at hm
  rw [← hms] at hm
  have hc := h.cnt
  refine ⟨hi, e, t, ht, ⟨mergeF (sumL (ys.set i (slTail ys[i].1, t))) ((ys.set i (slTail ys[i].1, t)).map (·.2)), by rw [← hm]; simp⟩, by omega, by simp only [List.length_append, List.length_singleton]; omega, by rw [← hm]; simp⟩
theorem own_set {w : World} {base g n cap : Nat} {ss : List Sl} {i : Nat} (h : OwnL w base (.slice (some ⟨g, 0, none⟩) n cap) ss) (s : Sl) : OwnL (w.setCell ⟨g, i, none⟩ (slV s)) base (.slice (some ⟨g, 0, none⟩) n cap) (ss.set i s) := by
  refine ⟨by rw [flatR_len slC_len], ?_⟩
  rcases h.2 with ⟨hv, _⟩ | ⟨g', cap', cur, hv, hb, hg, h1, h2, h3, h4⟩
  · cases hv
  · obtain ⟨rfl, rfl, rfl⟩ : g = g' ∧ n = ss.length ∧ cap = cap' := by simpa using hv
    refine .inr ⟨g, cap, cur.setIfInBounds i (slV s), by rw [List.length_set], hb, block_set hg _, by rw [List.length_set]; exact h1, h2, by simpa using h3, ?_⟩
    rw [Nat.mul_one] at h4 ⊢
    rw [List.length_set, flat_slC, List.map_set, ← flat_slC, ← h4]
    simp only [Array.toList_setIfInBounds]
    rw [List.take_set]
theorem MgI.store {wr : World} {base n0 : Nat} {Z : Nat → Prop} {g n cap : Nat} {xs ys : List (Sl × Ly)} {pre : Ly} {i : Nat} {e : En} {t : Ly} (h : MgI wr base Z (.slice (some ⟨g, 0, none⟩) n cap) xs ys pre) (hn : n0 ≤ base) (hZ : ∀ k, Z k → k < n0) (hi : i < ys.length) (ht : ys[i].2 = e :: t)
    (hc : (pre ++ [e]).length + sumL (ys.set i (slTail ys[i].1, t)) = sumL xs) (hm : (pre ++ [e]) ++ mergeF (sumL (ys.set i (slTail ys[i].1, t))) ((ys.set i (slTail ys[i].1, t)).map (·.2)) = mergeL (xs.map (·.2))) :
    MgI (wr.setCell ⟨g, i, none⟩ (slV (slTail ys[i].1))) base Z (.slice (some ⟨g, 0, none⟩) n cap) xs (ys.set i (slTail ys[i].1, t)) (pre ++ [e]) := by
  have hgb : base ≤ g := (World.ownsRow.lt h.row g rfl).1
  have keep : ∀ {s : Sl} {l : Ly}, SlAt wr s l → (∀ a, s.1 = some a → 0 < l.length → Z a.block) → SlAt (wr.setCell ⟨g, i, none⟩ (slV (slTail ys[i].1))) s l := fun hs hz => hs.kept (Kp.set1 wr g i _) (fun a ha hl e => by have := hZ _ (hz a ha hl); omega)
  refine ⟨?_, fun y hy => ?_, by rw [List.length_set]; exact h.len, hc, hm⟩
  · rw [List.map_set]
    exact own_set h.row _
  · rcases List.mem_or_eq_of_mem_set hy with hy | rfl
    · exact ⟨keep (h.each y hy).1 (h.each y hy).2, (h.each y hy).2⟩
    · obtain ⟨h1, h2⟩ := h.each _ (List.getElem_mem hi)
      rw [ht] at h1 h2
      have hz : ∀ a, (slTail ys[i].1).1 = some a → 0 < t.length → Z a.block := fun a ha hl => slTail_blk (E := Z) (fun b hb => h2 b hb (by simp)) a ha
      exact ⟨keep h1.tail hz, hz⟩
theorem restLen_below {w w' : World} {base : Nat} {v : Value} {ss : List Sl} (h : OwnL w base v ss) (k : Below w.heap.size w w') : restLen w' v = restLen w v := by
  rcases h.2 with ⟨rfl, _⟩ | ⟨g, cap, cur, rfl, _, hg, _⟩
  · rfl
  · simp only [restLen, (k.block g (lt_of_block hg))]
theorem firstV_some {ls : List Ly} {i : Nat} (h : leastI ls = some i) : firstV ls = i := by unfold firstV; rw [h]
theorem firstV_none {ls : List Ly} (h : leastI ls = none) : firstV ls = -1 := by unfold firstV; rw [h]
abbrev encE (e : En) : Array Value := #[aggE e]
set_option maxRecDepth 100000 in
set_option maxHeartbeats 1600000 in
theorem merge1_in (l Bl n0 : Nat) (Z : Nat → Prop) (q : Option Addr) (qc : Nat) (xs : List (Sl × Ly)) (J Jx : Ly → World → Prop) (W : World) (hJ : ∀ s A B, J s A → TnM W.heap.size A B → J s B)
    (hY : ∀ pre x W1, J pre W1 → pre.length < sumL xs → YieldAt Fence.wide 4 Tryz.prog l (encE x) W1 fun e W' =>
      (e = .returned (.bool true) ∧ J (pre ++ [x]) W' ∧ KrM Z n0 W1 W') ∨ (e = .returned (.bool false) ∧ Jx (pre ++ [x]) W'))
    (b1 : Boxed W Bl 133 (.slice q xs.length qc)) (hp : Lyp W q xs) (hqn : q = none → qc = 0 ∧ xs = []) (hqa : ∀ a, q = some a → ∃ g off, a = ⟨g, off, none⟩) (hn : n0 ≤ W.heap.size) (hZ : ∀ k, Z k → k < n0) (hz : ∀ x ∈ xs, ∀ a, x.1.1 = some a → 0 < x.2.length → Z a.block) (hl : xs.length ≤ 1000000) (h0 : J [] W) :
    CallsIn Fence.wide 5 Tryz.prog 195 #[.func (.yield l) #[] #[], .pointer (some ⟨Bl, 0, none⟩)] W fun e W' => (∃ v, e = .returned v) ∧
      ((∃ ys, ys = mergeL (xs.map (·.2)) ∧ J ys W') ∨ (∃ pre, pre <+: mergeL (xs.map (·.2)) ∧ Jx pre W')) := by
  have hcl : CallsIn Fence.wide 4 Tryz.prog 196 #[.slice q xs.length qc] W fun e w' => ∃ v, e = .returned v ∧ Below W.heap.size W w' ∧ OwnL w' W.heap.size v (xs.map (·.1)) := by
    have := cloneL_any q qc (xs.map (·.1)) W hp.row (fun h => ⟨(hqn h).1, by rw [(hqn h).2]; rfl⟩) hqa (by simpa using hl)
    rw [List.length_map] at this
    exact callsIn_wide.2 this
  have hfa : ∀ (w : World) (q : Option Addr) (cap : Nat) (ys : List (Sl × Ly)), Lyp w q ys → ys.length ≤ 1000000 → CallsIn Fence.wide 4 Tryz.prog 197 #[.slice q ys.length cap] w fun e w' => e = .returned (.int .i64 (firstV (ys.map (·.2)))) ∧ Below w.heap.size w w' := fun w q cap ys h1 h2 => callsIn_wide.2 (first_any q cap ys w h1 h2)
  have c1 := b1.cell
  have hf1 : Fence.wide.fn 196 := trivial
  have hf2 : Fence.wide.fn 197 := trivial
  refine callsIn_of_wp Tryz.func195 rfl trivial ?_ rfl
  simp only [Tryz.ntmps195, List.size_toArray, List.length_cons, List.length_nil, Nat.reduceAdd, Nat.reduceSub, Array.replicate_succ, Array.replicate_zero, List.push_toArray, List.append_toArray, List.nil_append, List.cons_append]
  gi_wp2_with (first
    | (gi_at_call 196; refine hcl.mono ?_; rintro e w1 ⟨v, rfl, hbl, hown⟩; have hM1 : MgI w1 W.heap.size Z v xs xs [] := ⟨hown, fun y hy => ⟨(hp.each y hy).below hbl, hz y hy⟩, rfl, by simp, by simp only [List.nil_append]; unfold mergeL; rw [sum_flat]⟩; obtain ⟨q1, cap1, hv1, hly1, _⟩ := hM1.lyp; subst hv1; have hfc := hfa w1 q1 cap1 xs hly1 hl)
    | (gi_at_call 197; refine hfc.mono ?_; rintro e w2 ⟨rfl, hb2⟩))
  have hM2 := hM1.below hb2
  have hJ2 := hJ [] W w2 h0 (TnM.of_below (hbl.trans (hb2.mono hbl.size)))
  clear hM1 hfc hly1 hown c1 hcl b1 hp h0
  gi_loopw [4] (fun i wr => ∃ (ys : List (Sl × Ly)) (pre : Ly), i = .int .i64 (firstV (ys.map (·.2))) ∧ MgI wr W.heap.size Z (.slice q1 xs.length cap1) xs ys pre ∧ J pre wr) (fun _ wr => restLen wr (.slice q1 xs.length cap1))
  case atStart => exact ⟨xs, [], rfl, hM2, hJ2⟩
  case round =>
    clear hM2 hJ2
    obtain ⟨ys, pre, rfl, hM, hJp⟩ := hrel
    cases hli : leastI (ys.map (·.2)) with
    | none =>
      have E : Hid (pre = mergeL (xs.map (·.2))) := hM.atEnd hli
      rw [firstV_none hli]
      gi_wp2
      go_end0
      exact ⟨⟨_, rfl⟩, .inl ⟨_, rfl, by rw [← E.out]; exact hJp⟩⟩
    | some i =>
      obtain ⟨hi, e, t, ht, hpf, hplt, hcn, hmg⟩ := hM.atLeast hli
      have HP : Hid (pre ++ [e] <+: mergeL (xs.map (·.2))) := hpf
      have HC : Hid ((pre ++ [e]).length + sumL (ys.set i (slTail ys[i].1, t)) = sumL xs) := hcn
      have HG : Hid ((pre ++ [e]) ++ mergeF (sumL (ys.set i (slTail ys[i].1, t))) ((ys.set i (slTail ys[i].1, t)).map (·.2)) = mergeL (xs.map (·.2))) := hmg
      clear hpf hcn hmg
      rw [firstV_some hli]
      obtain ⟨q2, cap2, hv2, hly, hqq⟩ := hM.lyp
      obtain ⟨rfl, hlen, rfl⟩ : q1 = q2 ∧ xs.length = ys.length ∧ cap1 = cap2 := by simpa using hv2
      obtain ⟨g, off, rfl, cr⟩ := hly.at i hi
      obtain ⟨g', e', hgb, cs, hgc⟩ := hqq _ rfl
      cases e'
      have hsl := (hM.each _ (List.getElem_mem hi)).1
      rw [ht] at hsl
      obtain ⟨sa, sn, sc, hyi⟩ : ∃ sa sn sc, ys[i].1 = (sa, sn, sc) := ⟨_, _, _, rfl⟩
      rw [hyi] at hsl cr
      have hln : sn = t.length + 1 := by have := hsl.len; simpa using this
      have hcap : t.length + 1 ≤ sc := by have := hsl.cap; simpa using this
      subst hln
      obtain ⟨g1, off1, hq1, d0, d1, d2, d3⟩ := hsl.head
      simp only at hq1
      subst hq1
      rw [Nat.zero_add] at cr
      replace cr : wr.cell? ⟨g, i, none⟩ = some (.slice (some ⟨g1, off1, none⟩) (t.length + 1) sc) := cr
      obtain ⟨fn, tmps, assign, body, hy, hR⟩ := hY pre e wr hJp hplt
      have hix : (i : Int) < (xs.length : Int) := by omega
      have hrl := restLen_is hM.row (fun y hy => (hM.each y hy).1.len)
      have hrs : sumL (ys.set i (slTail ys[i].1, t)) < sumL ys := by
        have h1 := HC.out
        have h2 := hM.cnt
        simp only [List.length_append, List.length_singleton] at h1
        omega
      have HRL : Hid (restLen wr (.slice (some ⟨g, 0, none⟩) xs.length cap1) = sumL ys) := hrl
      have HLN : Hid (xs.length = ys.length) := hlen
      clear hY hqq hv2 hrl hlen
      gi_wp2
      refine hR.mono ?_
      rintro er W3 (⟨rfl, hJ3, hk3⟩ | ⟨rfl, hJx3⟩)
      · have hM3 := hM.kr hk3 hn
        have hlen := HLN.out
        obtain ⟨q3, cap3, hv3, hly3, _⟩ := hM3.lyp
        obtain ⟨hq3, -, rfl⟩ : some (⟨g, 0, none⟩ : Addr) = q3 ∧ xs.length = ys.length ∧ cap1 = cap3 := by simpa using hv3
        subst hq3
        obtain ⟨g', off', e', cr3⟩ := hly3.at i hi
        cases e'
        rw [hyi, Nat.zero_add] at cr3
        replace cr3 : W3.cell? ⟨g, i, none⟩ = some (.slice (some ⟨g1, off1, none⟩) (t.length + 1) sc) := cr3
        have hgc3 := hk3.ent g cs (0, 0) (by omega) hgc
        have fz3 : W3.frozen? ⟨g, i, none⟩ = false := frozen_block hgc3
        have hst := hM3.store hn hZ hi ht HC.out HG.out
        have hJ4 := hJ _ _ _ hJ3 (show TnM W.heap.size W3 (W3.setCell ⟨g, i, none⟩ (slV (slTail ys[i].1))) from (Kp.set1 W3 g i _).mono (fun k hk => by subst hk; exact ⟨hgb, cs, (0, 0), hgc3⟩))
        have hrl4 := restLen_is hst.row (fun y hy => (hst.each y hy).1.len)
        obtain ⟨q4, cap4, hv4, hly4, _⟩ := hst.lyp
        obtain ⟨hq4, hl4, rfl⟩ : some (⟨g, 0, none⟩ : Addr) = q4 ∧ xs.length = (ys.set i (slTail ys[i].1, t)).length ∧ cap1 = cap4 := by simpa using hv4
        subst hq4
        have hfc := hfa _ _ cap1 _ hly4 (by omega)
        rw [← hl4] at hfc
        have hTl : ∀ sc' : Nat, sc = sc' → slV (slTail ys[i].1) = .slice (if sc' = 1 then some ⟨g1, off1, none⟩ else some ⟨g1, off1 + 4, none⟩) t.length (sc' - 1) := fun sc' h => by
          subst h
          rw [hyi]
          simp only [slTail, slV]
          split
          · simp
          · simp [Addr.add_lit]
        have HRS : Hid (restLen (W3.setCell ⟨g, i, none⟩ (slV (slTail ys[i].1))) (.slice (some ⟨g, 0, none⟩) xs.length cap1) < restLen wr (.slice (some ⟨g, 0, none⟩) xs.length cap1)) := by show _ < _; rw [HRL.out, hrl4]; exact hrs
        clear hrl4 hM3 hly3 hv3 hv4 hrs hl4 hlen
        by_cases hsc : sc = 1
        · obtain rfl : t = [] := List.eq_nil_of_length_eq_zero (by omega)
          have hT := hTl 1 hsc
          subst hsc
          rw [if_pos rfl] at hT
          simp only [List.length_nil, Nat.sub_self] at hT
          rw [hT] at hfc hJ4 hst HRS
          clear hTl hT hly4 HRL HC HG hly hM hR hy
          gi_wp2_with (gi_at_call 197; refine hfc.mono ?_; rintro er2 w5 ⟨rfl, hb5⟩)
          go_roundw
          case rel => exact ⟨_, _, by rw [List.map_set], hst.below hb5, hJ _ _ _ hJ4 (TnM.of_below hb5)⟩
          case measure => exact Nat.lt_of_le_of_lt (Nat.le_of_eq (restLen_below hst.row hb5)) HRS.out
        · have hT := hTl sc rfl
          rw [if_neg hsc] at hT
          rw [hT] at hfc hJ4 hst HRS
          clear hTl hT hly4 HRL HC HG hly hM hR hy
          gi_wp2_with (gi_at_call 197; refine hfc.mono ?_; rintro er2 w5 ⟨rfl, hb5⟩)
          go_roundw
          case rel => exact ⟨_, _, by rw [List.map_set], hst.below hb5, hJ _ _ _ hJ4 (TnM.of_below hb5)⟩
          case measure => exact Nat.lt_of_le_of_lt (Nat.le_of_eq (restLen_below hst.row hb5)) HRS.out
      · gi_wp2
        refine bodyPost_ret (results_none rfl _ _ _) rfl ?_
        exact ⟨⟨_, rfl⟩, .inr ⟨_, HP.out, hJx3⟩⟩
theorem layMerge_in (q : Option Addr) (n qc : Nat) (m : Nat) (w : World) :
    CallsIn Fence.wide m Tryz.prog 124 #[.slice q n qc] w fun e w' => e = .returned (.func (.func 195) #[] #[.pointer (some ⟨w.heap.size, 0, none⟩)]) ∧ w' = w.alloc (.cells #[.slice q n qc] 133) := by
  refine callsIn_wide.2 ?_
  go_enter Tryz.func124, Tryz.ntmps124
  go_wp2
  go_ret
  exact ⟨rfl, rfl⟩
theorem merge_seq (Bl n0 : Nat) (Z : Nat → Prop) (q : Option Addr) (qc : Nat) (xs : List (Sl × Ly)) (w : World) (b1 : Boxed w Bl 133 (.slice q xs.length qc)) (hp : Lyp w q xs) (hqn : q = none → qc = 0 ∧ xs = []) (hqa : ∀ a, q = some a → ∃ g off, a = ⟨g, off, none⟩) (hn : n0 ≤ w.heap.size) (hZ : ∀ k, Z k → k < n0) (hz : ∀ x ∈ xs, ∀ a, x.1.1 = some a → 0 < x.2.length → Z a.block) (hl : xs.length ≤ 1000000) :
    SeqT Fence.wide 5 Tryz.prog 195 #[.pointer (some ⟨Bl, 0, none⟩)] encE (KrM Z n0) TnM (fun ys => ys = mergeL (xs.map (·.2))) (fun pre => pre <+: mergeL (xs.map (·.2))) (sumL xs) w := fun l J Jx W hW hJ _ hY h0 =>
  merge1_in l Bl n0 Z q qc xs J Jx W hJ hY ((hW.block Bl b1.lt).trans b1) (hp.below hW) hqn hqa (Nat.le_trans hn hW.size) hZ hz hl h0
end Go.Proofs.YtoabedkcieindabGreatDoor

namespace Go.Proofs.YtoabedkcieindabGreatDoor
open Go.RowKit
section
variable {F : Fence} {n : Nat} {P : Program} {α : Type}
def SeqU (F : Fence) (n : Nat) (P : Program) (g : Nat) (lb : Array Value) (encs : α → Array Value) (Kr : Nat → World → World → Prop) (Tn : Nat → World → World → Prop) (S Sp : List α → Prop) (N : Nat) (G : α → Prop) (w : World) : Prop :=
  ∀ (l : Nat) (J Jx : List α → World → Prop) (W : World), Below w.heap.size w W → (∀ s A B, J s A → Tn W.heap.size A B → J s B) → (∀ s A B, Jx s A → Tn W.heap.size A B → Jx s B) →
    (∀ pre x W1, J pre W1 → pre.length < N → G x → YieldAt F (n - 1) P l (encs x) W1 fun e W' =>
      (e = .returned (.bool true) ∧ J (pre ++ [x]) W' ∧ Kr W.heap.size W1 W') ∨ (e = .returned (.bool false) ∧ Jx (pre ++ [x]) W' ∧ Kr W.heap.size W1 W')) →
    J [] W →
    CallsIn F n P g (#[.func (.yield l) #[] #[]] ++ lb) W fun e W' => (∃ v, e = .returned v) ∧ ((∃ xs, S xs ∧ J xs W') ∨ (∃ pre, Sp pre ∧ Jx pre W'))
def ownPostU (B : Nat) (Kr : World → World → Prop) (I : List α → World → Prop) (Ix : Code → List α → World → Prop) (xs : List α) (W : World) : Exit → Act → World → Prop
  | .normal, _, W' => KeepsFrom B W W' ∧ Kr W W' ∧ I xs W'
  | .ret, _, W' => KeepsFrom B W W' ∧ Kr W W' ∧ Ix .ret xs W'
  | .exit id, _, W' => KeepsFrom B W W' ∧ Kr W W' ∧ Ix (.exit id) xs W'
  | .goto t, _, W' => KeepsFrom B W W' ∧ Kr W W' ∧ Ix (.goto t) xs W'
  | .panic _, _, _ => False
  | .outgrown, _, _ => False
theorem Bk.stepU {W W' : World} {b : Nat} {r : Loop} (h : Bk W b r) (k : ∀ (j : Nat) (o : Obj), j < b + 2 → W.heap[j]? = some o → o.isCells = false → o.isWalk = false → W'.heap[j]? = some o) : Bk W' b r :=
  ⟨k _ _ (by omega) h.loop rfl rfl, k _ _ (by omega) h.dfr rfl rfl⟩
theorem rangeFunc_U {g : Operand} {ps : Array Tmp} {assign body : Code} {Q : Exit → Act → World → Prop} {a : Act} {w : World}
    (hro : F.round = none) (h1 : 1 ≤ n) {gf : Nat} {lb : Array Value} (hg : a.eval g = .func (.func gf) #[] lb) (hFg : F.fn gf) (eg : ∀ args w, (callFunc gf args).run P w = .ok (.enter gf args) w)
    {encs : α → Array Value} {Kr : Nat → World → World → Prop} {Tn : Nat → World → World → Prop} {S Sp : List α → Prop} {N : Nat} {G : α → Prop} {w0 : World} (hseq : SeqU F (n - 1) P gf lb encs Kr Tn S Sp N G w0)
    (hKt : ∀ {A B C : World}, Kr (w.heap.size + 2) A B → Kr (w.heap.size + 2) B C → Kr (w.heap.size + 2) A C) (hKb : ∀ (W : World) (o o' : Obj), W.heap[w.heap.size + 1]? = some o → o.isCells = false → o.isWalk = false → Kr (w.heap.size + 2) W (W.putObj (w.heap.size + 1) o'))
    (hTo : ∀ {b : Nat} {A B : World}, Tn b A B → ∀ (j : Nat) (o : Obj), j < b → A.heap[j]? = some o → o.isCells = false → o.isWalk = false → B.heap[j]? = some o)
    (hb0 : Below w0.heap.size w0 w) (hps : ∀ x, (encs x).size = ps.size)
    (I : List α → World → Prop) (Ix : Code → List α → World → Prop) (hI : OwnFrom w.heap.size I) (hIx : ∀ c, OwnFrom w.heap.size (Ix c))
    (hIT : ∀ s A B, I s A → Tn (w.heap.size + 2) A B → I s B) (hIxT : ∀ c s A B, Ix c s A → Tn (w.heap.size + 2) A B → Ix c s B) (h0 : I [] w) (Ax : α → Act → World → Prop) (hAx : ∀ x a', OwnFrom w.heap.size (fun (_ : Unit) W => Ax x a' W))
    (hassign : ∀ (l : Nat) (pre : List α) (x : α) (W : World) (K : Act → World → Prop), I pre W → (∀ a' W', KeepsFrom w.heap.size W W' → Kr (w.heap.size + 2) W W' → I pre W' → Ax x a' W' → K a' W') →
      assign.wpIn (F.inRound l) (n - 1 - 1) P (Exit.then K (fun _ _ _ => False)) { tmps := (ps.zip (encs x)).foldl (fun t (p, v) => t.setIfInBounds p v) a.tmps, defers := [] } W)
    (hbody : ∀ (l : Nat) (pre : List α) (x : α) (a' : Act) (W : World), w.heap.size ≤ l → (∃ r, W.heap[l]? = some (.loop r)) → I pre W → Ax x a' W → pre.length < N → G x → body.wpIn (F.inRound l) (n - 1 - 1) P (ownPostU w.heap.size (Kr (w.heap.size + 2)) I Ix (pre ++ [x]) W) a' W)
    (hdone : ∀ (D : Nat) (xs : List α) (W : World), w.heap.size ≤ D → S xs → I xs W → W.heap[D]? = some (.deferred (some [])) → Q .normal { a with defers := { target := .collected D, args := #[] } :: a.defers } W)
    (hstop : ∀ (D : Nat) (c : Code) (pre : List α) (W : World), w.heap.size ≤ D → Sp pre → Ix c pre W → W.heap[D]? = some (.deferred (some [])) → c.wpIn F n P Q { a with defers := { target := .collected D, args := #[] } :: a.defers } W) :
    (Code.rangeFunc g ps assign body).wpIn F n P Q a w := by
  refine wpIn_rangeFunc fun fn hfn => ?_
  rw [hro]
  generalize hR : (fun (st : LoopState) (pe : Option Code) => ({ state := st, pending := pe, fn, tmps := a.tmps, params := ps, assign, body, defers := w.heap.size } : Loop)) = R
  have hst : ∀ st pe, R st pe = { state := st, pending := pe, fn, tmps := a.tmps, params := ps, assign, body, defers := w.heap.size } := fun st pe => by rw [← hR]
  have hbk1 : Bk ((w.alloc (.deferred (some []))).alloc (.loop (R .ready none))) w.heap.size (R .ready none) := by
    refine ⟨?_, block_alloc (block_new w _)⟩
    have := block_new (w.alloc (.deferred (some []))) (.loop (R .ready none))
    rwa [World.size_alloc] at this
  have hsz1 : ((w.alloc (.deferred (some []))).alloc (.loop (R .ready none))).heap.size = w.heap.size + 2 := by simp
  have hI1 := hI.alloc (.loop (R .ready none)) (hI.alloc (.deferred (some [])) h0)
  have hb1 : Below w0.heap.size w0 ((w.alloc (.deferred (some []))).alloc (.loop (R .ready none))) := (hb0.alloc hb0.size _).alloc (by have := hb0.size; simp; omega) _
  refine ⟨w.heap.size + 1, [{ target := .collected w.heap.size, args := #[] }], (w.alloc (.deferred (some []))).alloc (.loop (R .ready none)), { target := .fn (.func gf) lb, args := #[.func (.yield (w.heap.size + 1)) #[] #[]] }, (w.alloc (.deferred (some []))).alloc (.loop (R .ready none)), gf,
    #[.func (.yield (w.heap.size + 1)) #[] #[]] ++ lb, (w.alloc (.deferred (some []))).alloc (.loop (R .ready none)), ?_, ?_, ?_, ?_, fun _ => h1, ?_⟩
  · rw [hst]; exact run_enterLoop_outer _ _ _ _ _
  · simp only [resolve, hg]
    simp [go_sem]
  · intro f' hf'; simp [Target.leads] at hf'; subst hf'; exact hFg
  · simp [invoke, go_sem, eg]
  generalize (w.alloc (.deferred (some []))).alloc (.loop (R .ready none)) = W1 at *
  have hput : ∀ {s : List α} {W : World} {r : Loop} (r' : Loop), I s W → Bk W w.heap.size r → I s (W.putObj (w.heap.size + 1) (.loop r')) := fun r' hi hb => hI.putObj _ hi (by omega) hb.loop rfl
  refine (hseq (w.heap.size + 1) (fun s W => I s W ∧ Bk W w.heap.size (R .ready none)) (fun s W => ∃ c, Ix c s W ∧ Bk W w.heap.size (R .done (some c))) W1 hb1
    (fun s A B hs ht => by rw [hsz1] at ht; exact ⟨hIT s A B hs.1 ht, hs.2.stepU (hTo ht)⟩)
    (fun s A B hs ht => by
      rw [hsz1] at ht
      obtain ⟨c, hc, hb⟩ := hs
      exact ⟨c, hIxT c s A B hc ht, hb.stepU (hTo ht)⟩) ?_ ⟨hI1, hbk1⟩).mono ?_
  ·
    rintro pre x W ⟨hi, hb⟩ hlen hG
    have hy := run_yield (P := P) (args := encs x) hb.loop (by rw [hst]; exact hps x)
    rw [hst] at hy
    refine ⟨fn, _, assign, body, hy, roundIn_of_wpIn hfn (hassign _ pre x W _ hi ?_)⟩
    intro a' V hkf hkr hi' hax
    replace hb := hb.from hkf
    refine ⟨_, run_beginRound hb.loop (by rw [hst]), ?_⟩
    have hbB := hb.put { R .ready none with state := .busy }
    have hkB := hKb V _ (.loop { R .ready none with state := .busy }) hb.loop rfl rfl
    refine wpIn_mono (hbody _ pre x a' _ (by omega) ⟨_, hbB.loop⟩ (hput _ hi' hb) ((hAx x a').putObj (s := ()) _ hax (by omega) hb.loop rfl) hlen hG) ?_
    have fin : ∀ (j : Option Code) (U : World), Bk U w.heap.size { R .ready none with state := .busy } → (Instr.endRound (w.heap.size + 1) j).run P U = .ok (.bool j.isNone) (U.putObj (w.heap.size + 1) (.loop (R (if j.isNone then .ready else .done) j))) := fun j U hU => by
      have := run_endRound (P := P) j hU.loop
      rw [hst] at this ⊢
      exact this
    rintro e a3 U hp
    cases e with
    | normal =>
      obtain ⟨hkf3, hkr3, hi3⟩ := hp
      have hb3 := hbB.from hkf3
      exact ⟨_, _, fin none U hb3, .inl ⟨rfl, ⟨hput _ hi3 hb3, hb3.put _⟩, (by rw [hsz1]; exact hKt hkr (hKt (hKt hkB hkr3) (hKb _ _ _ hb3.loop rfl rfl)))⟩⟩
    | ret =>
      have hb3 := hbB.from hp.1
      exact ⟨_, _, fin (some .ret) U hb3, .inr ⟨rfl, ⟨.ret, (hIx _).putObj _ hp.2.2 (by omega) hb3.loop rfl, hb3.put _⟩, (by rw [hsz1]; exact hKt hkr (hKt (hKt hkB hp.2.1) (hKb _ _ _ hb3.loop rfl rfl)))⟩⟩
    | exit id =>
      have hb3 := hbB.from hp.1
      exact ⟨_, _, fin (some (.exit id)) U hb3, .inr ⟨rfl, ⟨.exit id, (hIx _).putObj _ hp.2.2 (by omega) hb3.loop rfl, hb3.put _⟩, (by rw [hsz1]; exact hKt hkr (hKt (hKt hkB hp.2.1) (hKb _ _ _ hb3.loop rfl rfl)))⟩⟩
    | goto t =>
      have hb3 := hbB.from hp.1
      exact ⟨_, _, fin (some (.goto t)) U hb3, .inr ⟨rfl, ⟨.goto t, (hIx _).putObj _ hp.2.2 (by omega) hb3.loop rfl, hb3.put _⟩, (by rw [hsz1]; exact hKt hkr (hKt (hKt hkB hp.2.1) (hKb _ _ _ hb3.loop rfl rfl)))⟩⟩
    | panic ch => exact hp.elim
    | outgrown => exact hp.elim
  ·
    rintro e U ⟨⟨v, rfl⟩, (⟨xs, hS, hi, hb⟩ | ⟨pre, hSp, c, hi, hb⟩)⟩
    · exact ⟨none, _, by have := run_endLoop (P := P) hb.loop (by rw [hst]; simp); rw [hst] at this; exact this, hdone _ xs _ (Nat.le_refl _) hS (hput _ hi hb) ((World.putObj_heap_other (by omega)).trans hb.dfr)⟩
    · exact ⟨some c, _, by have := run_endLoop (P := P) hb.loop (by rw [hst]; simp); rw [hst] at this; exact this, hstop _ c pre _ (Nat.le_refl _) hSp ((hIx c).putObj _ hi (by omega) hb.loop rfl) ((World.putObj_heap_other (by omega)).trans hb.dfr)⟩
end
end Go.Proofs.YtoabedkcieindabGreatDoor

namespace Go.Proofs.YtoabedkcieindabGreatDoor
open Go.RowKit Go.Maps Go.Sort Go.Shelf
attribute [local go_sem] Oper.semAt_some
set_option maxRecDepth 100000 in
set_option maxHeartbeats 1600000 in
theorem merge1_inG (l Bl n0 : Nat) (Z : Nat → Prop) (q : Option Addr) (qc : Nat) (xs : List (Sl × Ly)) (J Jx : Ly → World → Prop) (W : World) (hJ : ∀ s A B, J s A → TnM W.heap.size A B → J s B)
    (hY : ∀ pre x W1, J pre W1 → pre.length < sumL xs → x ∈ mergeL (xs.map (·.2)) → YieldAt Fence.wide 4 Tryz.prog l (encE x) W1 fun e W' =>
      (e = .returned (.bool true) ∧ J (pre ++ [x]) W' ∧ KrM Z n0 W1 W') ∨ (e = .returned (.bool false) ∧ Jx (pre ++ [x]) W' ∧ KrM Z n0 W1 W'))
    (b1 : Boxed W Bl 133 (.slice q xs.length qc)) (hp : Lyp W q xs) (hqn : q = none → qc = 0 ∧ xs = []) (hqa : ∀ a, q = some a → ∃ g off, a = ⟨g, off, none⟩) (hn : n0 ≤ W.heap.size) (hZ : ∀ k, Z k → k < n0) (hz : ∀ x ∈ xs, ∀ a, x.1.1 = some a → 0 < x.2.length → Z a.block) (hl : xs.length ≤ 1000000) (h0 : J [] W) :
    CallsIn Fence.wide 5 Tryz.prog 195 #[.func (.yield l) #[] #[], .pointer (some ⟨Bl, 0, none⟩)] W fun e W' => (∃ v, e = .returned v) ∧
      ((∃ ys, ys = mergeL (xs.map (·.2)) ∧ J ys W') ∨ (∃ pre, pre <+: mergeL (xs.map (·.2)) ∧ Jx pre W')) := by
  have hcl : CallsIn Fence.wide 4 Tryz.prog 196 #[.slice q xs.length qc] W fun e w' => ∃ v, e = .returned v ∧ Below W.heap.size W w' ∧ OwnL w' W.heap.size v (xs.map (·.1)) := by
    have := cloneL_any q qc (xs.map (·.1)) W hp.row (fun h => ⟨(hqn h).1, by rw [(hqn h).2]; rfl⟩) hqa (by simpa using hl)
    rw [List.length_map] at this
    exact callsIn_wide.2 this
  have hfa : ∀ (w : World) (q : Option Addr) (cap : Nat) (ys : List (Sl × Ly)), Lyp w q ys → ys.length ≤ 1000000 → CallsIn Fence.wide 4 Tryz.prog 197 #[.slice q ys.length cap] w fun e w' => e = .returned (.int .i64 (firstV (ys.map (·.2)))) ∧ Below w.heap.size w w' := fun w q cap ys h1 h2 => callsIn_wide.2 (first_any q cap ys w h1 h2)
  have c1 := b1.cell
  have hf1 : Fence.wide.fn 196 := trivial
  have hf2 : Fence.wide.fn 197 := trivial
  refine callsIn_of_wp Tryz.func195 rfl trivial ?_ rfl
  simp only [Tryz.ntmps195, List.size_toArray, List.length_cons, List.length_nil, Nat.reduceAdd, Nat.reduceSub, Array.replicate_succ, Array.replicate_zero, List.push_toArray, List.append_toArray, List.nil_append, List.cons_append]
  gi_wp2_with (first
    | (gi_at_call 196; refine hcl.mono ?_; rintro e w1 ⟨v, rfl, hbl, hown⟩; have hM1 : MgI w1 W.heap.size Z v xs xs [] := ⟨hown, fun y hy => ⟨(hp.each y hy).below hbl, hz y hy⟩, rfl, by simp, by simp only [List.nil_append]; unfold mergeL; rw [sum_flat]⟩; obtain ⟨q1, cap1, hv1, hly1, _⟩ := hM1.lyp; subst hv1; have hfc := hfa w1 q1 cap1 xs hly1 hl)
    | (gi_at_call 197; refine hfc.mono ?_; rintro e w2 ⟨rfl, hb2⟩))
  have hM2 := hM1.below hb2
  have hJ2 := hJ [] W w2 h0 (TnM.of_below (hbl.trans (hb2.mono hbl.size)))
  clear hM1 hfc hly1 hown c1 hcl b1 hp h0
  gi_loopw [4] (fun i wr => ∃ (ys : List (Sl × Ly)) (pre : Ly), i = .int .i64 (firstV (ys.map (·.2))) ∧ MgI wr W.heap.size Z (.slice q1 xs.length cap1) xs ys pre ∧ J pre wr) (fun _ wr => restLen wr (.slice q1 xs.length cap1))
  case atStart => exact ⟨xs, [], rfl, hM2, hJ2⟩
  case round =>
    clear hM2 hJ2
    obtain ⟨ys, pre, rfl, hM, hJp⟩ := hrel
    cases hli : leastI (ys.map (·.2)) with
    | none =>
      have E : Hid (pre = mergeL (xs.map (·.2))) := hM.atEnd hli
      rw [firstV_none hli]
      gi_wp2
      go_end0
      exact ⟨⟨_, rfl⟩, .inl ⟨_, rfl, by rw [← E.out]; exact hJp⟩⟩
    | some i =>
      obtain ⟨hi, e, t, ht, hpf, hplt, hcn, hmg⟩ := hM.atLeast hli
      have HP : Hid (pre ++ [e] <+: mergeL (xs.map (·.2))) := hpf
      have HC : Hid ((pre ++ [e]).length + sumL (ys.set i (slTail ys[i].1, t)) = sumL xs) := hcn
      have HG : Hid ((pre ++ [e]) ++ mergeF (sumL (ys.set i (slTail ys[i].1, t))) ((ys.set i (slTail ys[i].1, t)).map (·.2)) = mergeL (xs.map (·.2))) := hmg
      clear hpf hcn hmg
      rw [firstV_some hli]
      obtain ⟨q2, cap2, hv2, hly, hqq⟩ := hM.lyp
      obtain ⟨rfl, hlen, rfl⟩ : q1 = q2 ∧ xs.length = ys.length ∧ cap1 = cap2 := by simpa using hv2
      obtain ⟨g, off, rfl, cr⟩ := hly.at i hi
      obtain ⟨g', e', hgb, cs, hgc⟩ := hqq _ rfl
      cases e'
      have hsl := (hM.each _ (List.getElem_mem hi)).1
      rw [ht] at hsl
      obtain ⟨sa, sn, sc, hyi⟩ : ∃ sa sn sc, ys[i].1 = (sa, sn, sc) := ⟨_, _, _, rfl⟩
      rw [hyi] at hsl cr
      have hln : sn = t.length + 1 := by have := hsl.len; simpa using this
      have hcap : t.length + 1 ≤ sc := by have := hsl.cap; simpa using this
      subst hln
      obtain ⟨g1, off1, hq1, d0, d1, d2, d3⟩ := hsl.head
      simp only at hq1
      subst hq1
      rw [Nat.zero_add] at cr
      replace cr : wr.cell? ⟨g, i, none⟩ = some (.slice (some ⟨g1, off1, none⟩) (t.length + 1) sc) := cr
      obtain ⟨fn, tmps, assign, body, hy, hR⟩ := hY pre e wr hJp hplt (HP.out.subset (by simp))
      have hix : (i : Int) < (xs.length : Int) := by omega
      have hrl := restLen_is hM.row (fun y hy => (hM.each y hy).1.len)
      have hrs : sumL (ys.set i (slTail ys[i].1, t)) < sumL ys := by
        have h1 := HC.out
        have h2 := hM.cnt
        simp only [List.length_append, List.length_singleton] at h1
        omega
      have HRL : Hid (restLen wr (.slice (some ⟨g, 0, none⟩) xs.length cap1) = sumL ys) := hrl
      have HLN : Hid (xs.length = ys.length) := hlen
      clear hY hqq hv2 hrl hlen
      gi_wp2
      refine hR.mono ?_
      rintro er W3 (⟨rfl, hJ3, hk3⟩ | ⟨rfl, hJx3, _⟩)
      · have hM3 := hM.kr hk3 hn
        have hlen := HLN.out
        obtain ⟨q3, cap3, hv3, hly3, _⟩ := hM3.lyp
        obtain ⟨hq3, -, rfl⟩ : some (⟨g, 0, none⟩ : Addr) = q3 ∧ xs.length = ys.length ∧ cap1 = cap3 := by simpa using hv3
        subst hq3
        obtain ⟨g', off', e', cr3⟩ := hly3.at i hi
        cases e'
        rw [hyi, Nat.zero_add] at cr3
        replace cr3 : W3.cell? ⟨g, i, none⟩ = some (.slice (some ⟨g1, off1, none⟩) (t.length + 1) sc) := cr3
        have hgc3 := hk3.ent g cs (0, 0) (by omega) hgc
        have fz3 : W3.frozen? ⟨g, i, none⟩ = false := frozen_block hgc3
        have hst := hM3.store hn hZ hi ht HC.out HG.out
        have hJ4 := hJ _ _ _ hJ3 (show TnM W.heap.size W3 (W3.setCell ⟨g, i, none⟩ (slV (slTail ys[i].1))) from (Kp.set1 W3 g i _).mono (fun k hk => by subst hk; exact ⟨hgb, cs, (0, 0), hgc3⟩))
        have hrl4 := restLen_is hst.row (fun y hy => (hst.each y hy).1.len)
        obtain ⟨q4, cap4, hv4, hly4, _⟩ := hst.lyp
        obtain ⟨hq4, hl4, rfl⟩ : some (⟨g, 0, none⟩ : Addr) = q4 ∧ xs.length = (ys.set i (slTail ys[i].1, t)).length ∧ cap1 = cap4 := by simpa using hv4
        subst hq4
        have hfc := hfa _ _ cap1 _ hly4 (by omega)
        rw [← hl4] at hfc
        have hTl : ∀ sc' : Nat, sc = sc' → slV (slTail ys[i].1) = .slice (if sc' = 1 then some ⟨g1, off1, none⟩ else some ⟨g1, off1 + 4, none⟩) t.length (sc' - 1) := fun sc' h => by
          subst h
          rw [hyi]
          simp only [slTail, slV]
          split
          · simp
          · simp [Addr.add_lit]
        have HRS : Hid (restLen (W3.setCell ⟨g, i, none⟩ (slV (slTail ys[i].1))) (.slice (some ⟨g, 0, none⟩) xs.length cap1) < restLen wr (.slice (some ⟨g, 0, none⟩) xs.length cap1)) := by show _ < _; rw [HRL.out, hrl4]; exact hrs
        clear hrl4 hM3 hly3 hv3 hv4 hrs hl4 hlen
        by_cases hsc : sc = 1
        · obtain rfl : t = [] := List.eq_nil_of_length_eq_zero (by omega)
          have hT := hTl 1 hsc
          subst hsc
          rw [if_pos rfl] at hT
          simp only [List.length_nil, Nat.sub_self] at hT
          rw [hT] at hfc hJ4 hst HRS
          clear hTl hT hly4 HRL HC HG hly hM hR hy
          gi_wp2_with (gi_at_call 197; refine hfc.mono ?_; rintro er2 w5 ⟨rfl, hb5⟩)
          go_roundw
          case rel => exact ⟨_, _, by rw [List.map_set], hst.below hb5, hJ _ _ _ hJ4 (TnM.of_below hb5)⟩
          case measure => exact Nat.lt_of_le_of_lt (Nat.le_of_eq (restLen_below hst.row hb5)) HRS.out
        · have hT := hTl sc rfl
          rw [if_neg hsc] at hT
          rw [hT] at hfc hJ4 hst HRS
          clear hTl hT hly4 HRL HC HG hly hM hR hy
          gi_wp2_with (gi_at_call 197; refine hfc.mono ?_; rintro er2 w5 ⟨rfl, hb5⟩)
          go_roundw
          case rel => exact ⟨_, _, by rw [List.map_set], hst.below hb5, hJ _ _ _ hJ4 (TnM.of_below hb5)⟩
          case measure => exact Nat.lt_of_le_of_lt (Nat.le_of_eq (restLen_below hst.row hb5)) HRS.out
      · gi_wp2
        refine bodyPost_ret (results_none rfl _ _ _) rfl ?_
        exact ⟨⟨_, rfl⟩, .inr ⟨_, HP.out, hJx3⟩⟩
theorem merge_seqG (Bl n0 : Nat) (Z : Nat → Prop) (q : Option Addr) (qc : Nat) (xs : List (Sl × Ly)) (w : World) (b1 : Boxed w Bl 133 (.slice q xs.length qc)) (hp : Lyp w q xs) (hqn : q = none → qc = 0 ∧ xs = []) (hqa : ∀ a, q = some a → ∃ g off, a = ⟨g, off, none⟩) (hn : n0 ≤ w.heap.size) (hZ : ∀ k, Z k → k < n0) (hz : ∀ x ∈ xs, ∀ a, x.1.1 = some a → 0 < x.2.length → Z a.block) (hl : xs.length ≤ 1000000) :
    SeqU Fence.wide 5 Tryz.prog 195 #[.pointer (some ⟨Bl, 0, none⟩)] encE (fun _ => KrM Z n0) TnM (fun ys => ys = mergeL (xs.map (·.2))) (fun pre => pre <+: mergeL (xs.map (·.2))) (sumL xs) (fun x => x ∈ mergeL (xs.map (·.2))) w := fun l J Jx W hW hJ _ hY h0 =>
  merge1_inG l Bl n0 Z q qc xs J Jx W hJ hY ((hW.block Bl b1.lt).trans b1) (hp.below hW) hqn hqa (Nat.le_trans hn hW.size) hZ hz hl h0
end Go.Proofs.YtoabedkcieindabGreatDoor
