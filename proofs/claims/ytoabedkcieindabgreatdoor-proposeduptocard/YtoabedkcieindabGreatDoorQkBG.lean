import Derived.Test.YtoabedkcieindabGreatDoorQkBD
import Derived.Test.YtoabedkcieindabGreatDoorQkBF
import Derived.Test.YtoabedkcieindabGreatDoorQkBE
namespace Go.Proofs.YtoabedkcieindabGreatDoor
open Go.RowKit Go.Maps Go.Sort Go.Shelf
variable {Q : Sq}
theorem sortI_perm {l m : List Int} (h : l.Perm m) : l.mergeSort (fun x y => decide (x ≤ y)) = m.mergeSort (fun x y => decide (x ≤ y)) := by
  have tr : ∀ a b c : Int, decide (a ≤ b) = true → decide (b ≤ c) = true → decide (a ≤ c) = true := by simp; omega
  have tt : ∀ a b : Int, (decide (a ≤ b) || decide (b ≤ a)) = true := by simp; omega
  refine List.Perm.eq_of_pairwise (le := fun a b : Int => decide (a ≤ b) = true) (fun a b _ _ h1 h2 => ?_) (List.pairwise_mergeSort tr tt l) (List.pairwise_mergeSort tr tt m) (((List.mergeSort_perm l _).trans h).trans (List.mergeSort_perm m _).symm)
  simp at h1 h2
  omega
theorem idxs_perm {st : Ls} {ns ms : List Nat} (h : ns.Perm ms) : (idxs st ns).Perm (idxs st ms) := h.map _
theorem idxF_at : ∀ {l : List Nat} (_ : l.Nodup) (i : Nat) (hi : i < l.length) (k : Int), idxF l (l[i] : Int) k = k + i
  | [], _, i, hi, _ => by simp at hi
  | x :: r, hd, 0, _, k => by simp [idxF]
  | x :: r, hd, i + 1, hi, k => by
    obtain ⟨h1, h2⟩ := List.nodup_cons.1 hd
    have hi' : i < r.length := by simpa using hi
    have ih := idxF_at h2 i hi' (k + 1)
    rw [idxF]
    have hne : ¬ ((x : Int) = ((x :: r)[i + 1] : Int)) := fun e => by
      have e' : x = r[i] := by simp only [List.getElem_cons_succ] at e; omega
      exact h1 (e' ▸ List.getElem_mem hi')
    rw [if_neg hne]
    simp only [List.getElem_cons_succ]
    rw [ih]
    omega
theorem span_tabs {st : Ls} {f t : Nat} (hd : (st.tabs.map (·.number)).Nodup) (hft : f < t) (htl : t ≤ st.tabs.length) : spanR ((idxs st (((st.tabs.map (·.number)).drop f).take (t - f))).mergeSort (fun x y => decide (x ≤ y))) = ((f : Int), (t : Int)) := by
  have e : idxs st (((st.tabs.map (·.number)).drop f).take (t - f)) = (List.range (t - f)).map fun i => ((f + i : Nat) : Int) := by
    unfold idxs
    apply List.ext_getElem
    · simp; omega
    · intro i h1 h2
      simp only [List.getElem_map, List.getElem_take, List.getElem_drop, List.getElem_range]
      have hi : f + i < (st.tabs.map (·.number)).length := by simp at h1 ⊢; omega
      have := idxF_at hd (f + i) hi 0
      simp only [List.getElem_map] at this
      rw [this]
      omega
  rw [e, List.mergeSort_of_pairwise]
  · have hlen : ((List.range (t - f)).map fun i => ((f + i : Nat) : Int)).length = t - f := by simp
    have hg : ∀ i, i < t - f → ((List.range (t - f)).map fun i => ((f + i : Nat) : Int)).getD i 0 = f + i := fun i hi => by
      rw [List.getD_eq_getElem?_getD, List.getElem?_map, List.getElem?_range hi]
      simp
    have h0 := hg 0 (by omega)
    rw [spanR_yes (fun i hi => by rw [hlen] at hi; rw [hg i hi, h0]; omega) (by rw [hlen]; omega), hlen, h0]
    simp
    omega
  · rw [List.pairwise_map]
    refine List.Pairwise.imp (fun h => ?_) (List.pairwise_lt_range (n := t - f))
    simp
    omega
theorem span_two {st : Ls} {i j : Nat} (hd : (st.tabs.map (·.number)).Nodup) (hi : i < st.tabs.length) (hj : j < st.tabs.length) (hij : i ≤ j) (hn : j ≠ i + 1) : spanR ((idxs st [(st.tabs.map (·.number)).getD i 0, (st.tabs.map (·.number)).getD j 0]).mergeSort (fun x y => decide (x ≤ y))) = (0, 0) := by
  have hi' : i < (st.tabs.map (·.number)).length := by simpa using hi
  have hj' : j < (st.tabs.map (·.number)).length := by simpa using hj
  have e : idxs st [(st.tabs.map (·.number)).getD i 0, (st.tabs.map (·.number)).getD j 0] = [(i : Int), (j : Int)] := by
    have e1 := idxF_at hd i hi' 0
    have e2 := idxF_at hd j hj' 0
    rw [Int.zero_add] at e1 e2
    unfold idxs
    rw [List.getD_eq_getElem?_getD, List.getD_eq_getElem?_getD, List.getElem?_eq_getElem hi', List.getElem?_eq_getElem hj']
    simp only [Option.getD_some, List.map_cons, List.map_nil, e1, e2]
  rw [e, List.mergeSort_of_pairwise (by simp; omega)]
  exact spanR_no (k := 1) (by simp) (.inr (by simp; omega))
set_option maxHeartbeats 400000 in
set_option maxRecDepth 20000 in
theorem span_no (T bd bm bsn : Nat) (s : Sl) (l : List Tr) (st : Ls) (E : Nat → Prop) (q : Option Addr) (qc m : Nat) (w : World) (hL : LsAt w E T bd bm bsn s l st) (h1 : m = 0 ∨ (¬ m = 0 ∧ l.length < m)) :
    Calls Tryz.prog 68 #[.pointer (some ⟨T, 0, none⟩), .slice q m qc] w fun e w' => e = .returned (.tuple #[.int .i64 0, .int .i64 0]) ∧ w' = w := by
  obtain ⟨sq, sn, sc⟩ := s
  obtain rfl : sn = l.length := hL.tab.len
  have c4 : w.cell? ⟨T, 4, none⟩ = some (.slice sq l.length sc) := hL.cell 4
  obtain ⟨k, hk⟩ : ∃ k, l.length = k := ⟨_, rfl⟩
  rw [hk] at c4 h1
  clear hk
  rcases h1 with rfl | ⟨h1, h2⟩
  · go_enter Tryz.func68, Tryz.ntmps68
    go_wp2
    go_ret2
    exact ⟨rfl, rfl⟩
  · have g1 : ¬ ((m : Int) = 0) := by omega
    have g2 : (k : Int) < (m : Int) := by omega
    clear h1 h2
    go_enter Tryz.func68, Tryz.ntmps68
    go_wp2
    go_ret2
    exact ⟨rfl, rfl⟩
def NoP (st : Ls) (ns : List Nat) : Prop := ns.length = 0 ∨ (¬ ns.length = 0 ∧ st.tabs.length < ns.length) ∨ ((1 ≤ ns.length ∧ ns.length ≤ st.tabs.length) ∧ spanR ((idxs st ns).mergeSort (fun x y => decide (x ≤ y))) = (0, 0))
set_option maxHeartbeats 400000 in
set_option maxRecDepth 20000 in
theorem sMerge_no (T bd bm bsn : Nat) (s : Sl) (l : List Tr) (d : Dk) (st : Ls) (S E : Nat → Prop) (M : Mp) (n c : Nat) (q : Option Addr) (qc : Nat) (ns : List Nat) (w : World) (h : Lsy w S E T bd bm bsn s l d st) (hl : Lsu d st M n c Q) (hn : n ≤ 110) (hq : Inp w q ns) (hN : NoP st ns) :
    Calls Tryz.prog 42 #[.pointer (some ⟨T, 0, none⟩), .slice q ns.length qc] w fun e w' => e = .returned (.int .i64 1) ∧ Below w.heap.size w w' := by
  have hL := h.at_
  have hlen : l.length = st.tabs.length := by rw [← hL.is]; simp
  have hfew := hl.few
  obtain ⟨dm, dr, df, hd, _⟩ := h.prog.raw
  have hw := lWritable_any hL hd
  rw [hl.lwr.1] at hw
  have hSp : ∀ w1, Below w.heap.size w w1 → Calls Tryz.prog 68 #[.pointer (some ⟨T, 0, none⟩), .slice q ns.length qc] w1 fun e w' => e = .returned (.tuple #[.int .i64 0, .int .i64 0]) ∧ Below w1.heap.size w1 w' := fun w1 hb => by
    rcases hN with h0 | h0 | ⟨⟨h1, h2⟩, h3⟩
    · refine (span_no T bd bm bsn s l st E q qc ns.length w1 (hL.below hb) (.inl h0)).mono ?_
      rintro e w' ⟨rfl, rfl⟩; exact ⟨rfl, Below.refl _ _⟩
    · refine (span_no T bd bm bsn s l st E q qc ns.length w1 (hL.below hb) (.inr ⟨h0.1, by omega⟩)).mono ?_
      rintro e w' ⟨rfl, rfl⟩; exact ⟨rfl, Below.refl _ _⟩
    · have := span_any T bd bm bsn s l st E q qc ns w1 (hL.below hb) (by omega) (hq.below hb) h1 (by omega)
      rw [h3] at this
      exact this
  clear hd
  generalize ns.length = m at *
  go_enter Tryz.func42, Tryz.ntmps42
  go_wp2_with (first
    | (go_at_call 53; refine hw.mono ?_; rintro e w1 ⟨rfl, hb1⟩; have hSp1 := hSp w1 hb1; clear hw hSp)
    | (go_at_call 68; refine hSp1.mono ?_; rintro e w2 ⟨rfl, hb2⟩; clear hSp1))
  go_ret
  exact ⟨rfl, hb1.trans (hb2.mono hb1.size)⟩
theorem commit_tabs {d : Dk} {s : Ls} {T : List Tb} {log : Nat} (h0 : (commitX d s T log).1 = 0) : (commitX d s T log).2.2.tabs.map (fun t => (t.level, t.es)) = T.map (fun t => (t.level, t.es)) := by
  unfold commitX at h0 ⊢
  simp only at h0 ⊢
  by_cases hx : (writtenF s.next T d).1 = 0
  · rw [if_neg (by simp [hx])] at h0 ⊢
    by_cases hy : (lreplace (writtenF s.next T d).2.1 manN (encMan (manOf (writtenF s.next T d).2.2.1 log (writtenF s.next T d).2.2.2))).1 = 0
    · rw [if_neg (by simp [hy])]
      have hs := writtenF_same T s.next d hx
      unfold Ls.turned
      split <;> exact hs
    · rw [if_pos hy] at h0
      exact absurd h0 hy
  · rw [if_pos hx] at h0
    exact absurd h0 hx
def AftM (w w' : World) (S E : Nat → Prop) (T bd bm bsn : Nat) (M : Mp) (n c : Nat) (Q : Sq) (X : List Tb) : Prop :=
  ∃ r : Int × Dk × Ls, Lsu r.2.1 r.2.2 M n c Q ∧ CmPost w w' S E T bd bm bsn r ∧ Kp (fun k => S k ∨ k = T ∨ k = bm) w w' ∧ r.2.2.tabs.map (fun t => (t.level, t.es)) = X.map (fun t => (t.level, t.es))
set_option maxHeartbeats 400000 in
theorem sMerge_lsu (T bd bm bsn : Nat) (s : Sl) (l : List Tr) (d : Dk) (st : Ls) (S E : Nat → Prop) (M : Mp) (n c f t : Nat) (q : Option Addr) (qc : Nat) (ns : List Nat) (w : World) (h : Lsy w S E T bd bm bsn s l d st) (hl : Lsu d st M n c Q) (hn : n ≤ 110) (hc : c ≤ 1000000000) (hft : f < t) (htl : t ≤ st.tabs.length) (hns : ns.Perm (((st.tabs.map (·.number)).drop f).take (t - f))) (hq : Inp w q ns) :
    Calls Tryz.prog 42 #[.pointer (some ⟨T, 0, none⟩), .slice q ns.length qc] w fun e w' => e = .returned (.int .i64 0) ∧ AftM w w' S E T bd bm bsn M n (c + 1) Q (replT st.tabs f t ⟨0, (st.tabs.map (·.level)).getD f 0, mergeT st.kept st.tabs f t⟩) := by
  have hL := h.at_
  obtain ⟨dm, dr, df, hd, _⟩ := h.prog.raw
  have hents := hl.ents
  have hfew := hl.few
  have hlen : l.length = st.tabs.length := by rw [← hL.is]; simp
  have hnl : ns.length = t - f := by rw [hns.length_eq]; simp; omega
  have hlv : (l[f]'(by omega)).1.level = (st.tabs.map (·.level)).getD f 0 := by
    rw [← hL.is, List.getD_eq_getElem?_getD]
    simp [show f < l.length by omega]
  have hC := hl.mergeC hft htl
  have hml : (mergeT st.kept st.tabs f t).length ≤ 110 := by
    have h1 := mergeT_len st.kept st.tabs f t
    have h2 := entsT_split st.tabs f t (by omega)
    omega
  refine sMerge_any T bd bm bsn s l st E q qc ns f t _ (mergeT st.kept st.tabs f t) w _ hL hd hl.lwr.1 hq (by omega) (by omega) (by rw [sortI_perm (idxs_perm hns)]; exact span_tabs hl.num.2.2 hft htl) hft (by omega) (by omega) hlv (by rw [hL.is]; omega) (by rw [hL.is]) (by omega) (fun w1 s2 l2 hb ht he his hf => ?_)
  rw [hL.is] at his
  refine (commit_lsu T bd bm bsn s s2 l l2 d st S E M n c _ _ w w1 h hl hn hc hC hb ht he his hf).mono ?_
  rintro e w' ⟨rfl, hp, hk⟩
  refine ⟨_, rfl, ?_⟩
  obtain ⟨_, hc0, hlr, _⟩ := hl.commit hn hc hC
  obtain ⟨S', E', s', l', h1', h2', h3', h4', h5', h6', hP2, hL2⟩ := id hp
  obtain ⟨m2, r2, f2, hd2, _⟩ := hP2.raw
  rw [hlr.stl.al] at hd2
  have hO := outcome_any (e0 := 0) (hL2.cell 0) hd2
  simp only [Bool.false_eq_true, if_false] at hO
  refine hO.mono ?_
  rintro e w3 ⟨rfl, rfl⟩
  exact ⟨⟨_, rfl⟩, rfl, _, hlr, hp, hk, commit_tabs hc0⟩
theorem Lsu.flushM {d : Dk} {s : Ls} {M : Mp} {n c : Nat} (h : Lsu d s M n c Q) (hn : n ≤ 110) (hc : c ≤ 1000000000) : (flushX d s).2.2.mem = [] := by
  by_cases hm : s.mem = []
  · have e : flushX d s = settleX d s s.tabs s.log := by unfold flushX; rw [if_pos (by simp [hm])]
    rw [e]
    obtain ⟨_, c1, _, _, _, _, c6⟩ := h.commit hn hc h.shape
    unfold settleX
    simp only
    split
    · exact hm
    · rw [if_neg (by rw [c1]; simp), c6, if_pos rfl]; exact hm
  · obtain ⟨_, c1, _, _, _, _, c6⟩ := h.commit hn hc (h.flushC hm)
    have e : flushX d s = commitX d s (shapedX s.policy s.kept (tabF0 s)) (s.log + 1) := by
      unfold flushX
      rw [if_neg (by simpa using hm)]
      simp only
      have e1 : (if (needL s.kept s.tabs.isEmpty (mergeL [flatM s.mem])).isEmpty then s.tabs else s.tabs ++ [⟨0, 0, needL s.kept s.tabs.isEmpty (mergeL [flatM s.mem])⟩]) = tabF0 s := rfl
      rw [e1]
      unfold settleX
      simp only
      rw [if_neg (by omega), if_neg (by rw [c1]; simp)]
    rw [e, c6, if_neg (by omega)]
theorem Lsu.none {d : Dk} {s : Ls} {M : Mp} {n c : Nat} (h : Lsu d s M n c Q) (hm : s.mem = []) (ht : s.tabs = []) : M = [] := by
  cases hM : M with
  | nil => rfl
  | cons x r =>
    have := h.view x.1
    rw [Lsu.lay, hm, ht, hM] at this
    simp [getF, viewE, flatM, newF, atK, pickE, liveE] at this
end Go.Proofs.YtoabedkcieindabGreatDoor

namespace Go.Proofs.YtoabedkcieindabGreatDoor
open Go.RowKit Go.Maps Go.Sort Go.Shelf
variable {Q : Sq}
set_option maxHeartbeats 400000 in
theorem xTables_lg (bx bz : Nat) (d : Dk) (st : Ls) (U : Nat → Prop) (M : Mp) (n c : Nat) (w : World) (h : Lx w U bx bz d st) (hl : Lsu d st M n c Q) (hn : n ≤ 110) :
    Calls Tryz.prog 12 #[.pointer (some ⟨bz, 0, none⟩)] w fun e w' => ∃ v, e = .returned (.tuple #[v, .int .i64 0]) ∧ OwnTt w' w.heap.size v (st.tabs.map ttOf) ∧ Below w.heap.size w w' := by
  obtain ⟨bd, T, bm, bsn, S, E, s, l, h1, h2, h3, h4, h5, h6⟩ := h.ex
  have hin := sinner_any h2
  obtain ⟨dm, dr, df, hd, _⟩ := h6.prog.raw
  have hlen : l.length = st.tabs.length := by rw [← h6.at_.is]; simp
  have hfew := hl.few
  have hents := hl.ents
  have hB := sTables_any T bd bm bsn s l st E w h6.at_ hd hl.lwr.2 (by omega) (fun x hx => by have := entsT_at (show x.1 ∈ st.tabs by rw [← h6.at_.is]; exact List.mem_map.2 ⟨x, hx, rfl⟩); omega)
  clear hd
  generalize st.tabs.map ttOf = X at *
  go_enter Tryz.func12, Tryz.ntmps12
  go_wp2_with (first
    | (go_at_call 30; refine hin.mono ?_; rintro e w' ⟨rfl, rfl⟩; clear hin)
    | (go_at_call 32; refine hB.mono ?_; rintro e w1 ⟨v, rfl, ho, hb⟩; obtain ⟨a2, k2, rfl⟩ := ho.shape; clear hB))
  go_ret2
  exact ⟨_, rfl, ho, hb⟩
set_option maxHeartbeats 400000 in
theorem xFlush_m (bx bz : Nat) (U : Nat → Prop) (M : Mp) (n c : Nat) (w : World) (h : Lg w U bx bz M n c Q) (hn : n ≤ 110) (hc : c ≤ 1000000000) :
    Calls Tryz.prog 19 #[.pointer (some ⟨bz, 0, none⟩)] w fun e w' => e = .returned (.int .i64 0) ∧ (∃ d st, Lx w' (Nw U w) bx bz d st ∧ Lsu d st M n (c + 1) Q ∧ st.mem = []) ∧ Kp U w w' := by
  obtain ⟨d, st, hx, hl⟩ := h
  obtain ⟨bd, T, bm, bsn, S, E, s, l, h1, h2, h3, h4, h5, h6⟩ := hx.ex
  have hin := sinner_any h2
  have hB := sFlush_lsu T bd bm bsn s l d st S E M n c w h6 hl hn hc
  have hlX := (hl.flush hn hc).2
  have hmX := hl.flushM hn hc
  generalize flushX d st = X at *
  go_enter Tryz.func19, Tryz.ntmps19
  go_wp2_with (first
    | (go_at_call 30; refine hin.mono ?_; rintro e w' ⟨rfl, rfl⟩; clear hin)
    | (go_at_call 40; refine hB.mono ?_; rintro e w1 ⟨rfl, hc1, k1⟩; clear hB))
  go_ret
  obtain ⟨a, b⟩ := Lx.step h1 h2 h3 h4 h5 hc1 k1
  exact ⟨rfl, ⟨_, _, a, hlX, hmX⟩, b⟩
set_option maxHeartbeats 400000 in
theorem xMerge_no (bx bz : Nat) (d : Dk) (st : Ls) (U : Nat → Prop) (M : Mp) (n c : Nat) (q : Option Addr) (qc : Nat) (ns : List Nat) (w : World) (hx : Lx w U bx bz d st) (hl : Lsu d st M n c Q) (hn : n ≤ 110) (hq : Inp w q ns) (hN : NoP st ns) :
    Calls Tryz.prog 21 #[.pointer (some ⟨bz, 0, none⟩), .slice q ns.length qc] w fun e w' => e = .returned (.int .i64 1) ∧ Below w.heap.size w w' := by
  obtain ⟨bd, T, bm, bsn, S, E, s, l, h1, h2, h3, h4, h5, h6⟩ := hx.ex
  have hin := sinner_any h2
  have hB := sMerge_no T bd bm bsn s l d st S E M n c q qc ns w h6 hl hn hq hN
  clear hN hq
  generalize ns.length = m at *
  go_enter Tryz.func21, Tryz.ntmps21
  go_wp2_with (first
    | (go_at_call 30; refine hin.mono ?_; rintro e w' ⟨rfl, rfl⟩; clear hin)
    | (go_at_call 42; refine hB.mono ?_; rintro e w1 ⟨rfl, hb1⟩; clear hB))
  go_ret
  exact ⟨rfl, hb1⟩
set_option maxHeartbeats 400000 in
theorem xMerge_lg (bx bz : Nat) (d : Dk) (st : Ls) (U : Nat → Prop) (M : Mp) (n c f t : Nat) (q : Option Addr) (qc : Nat) (ns : List Nat) (w : World) (hx : Lx w U bx bz d st) (hl : Lsu d st M n c Q) (hn : n ≤ 110) (hc : c ≤ 1000000000) (hft : f < t) (htl : t ≤ st.tabs.length) (hns : ns.Perm (((st.tabs.map (·.number)).drop f).take (t - f))) (hq : Inp w q ns) :
    Calls Tryz.prog 21 #[.pointer (some ⟨bz, 0, none⟩), .slice q ns.length qc] w fun e w' => e = .returned (.int .i64 0) ∧ (∃ d' st', Lx w' (Nw U w) bx bz d' st' ∧ Lsu d' st' M n (c + 1) Q ∧ st'.tabs.map (fun t => (t.level, t.es)) = (replT st.tabs f t ⟨0, (st.tabs.map (·.level)).getD f 0, mergeT st.kept st.tabs f t⟩).map (fun t => (t.level, t.es))) ∧ Kp U w w' := by
  obtain ⟨bd, T, bm, bsn, S, E, s, l, h1, h2, h3, h4, h5, h6⟩ := hx.ex
  have hin := sinner_any h2
  have hB := sMerge_lsu T bd bm bsn s l d st S E M n c f t q qc ns w h6 hl hn hc hft htl hns hq
  clear hns hq
  generalize replT st.tabs f t ⟨0, (st.tabs.map (·.level)).getD f 0, mergeT st.kept st.tabs f t⟩ = X at *
  generalize ns.length = m at *
  go_enter Tryz.func21, Tryz.ntmps21
  go_wp2_with (first
    | (go_at_call 30; refine hin.mono ?_; rintro e w' ⟨rfl, rfl⟩; clear hin)
    | (go_at_call 42; refine hB.mono ?_; rintro e w1 ⟨rfl, r, hlr, hc1, k1, hr1⟩; clear hB))
  go_ret
  obtain ⟨a, b⟩ := Lx.step h1 h2 h3 h4 h5 hc1 k1
  exact ⟨rfl, ⟨_, _, a, hlr, hr1⟩, b⟩
theorem merged_tt {ts us : List Tb} {f t : Nat} {b : Tb} (hft : f < t) (htl : t ≤ ts.length) (he : us.map (fun t => (t.level, t.es)) = (replT ts f t b).map (fun t => (t.level, t.es))) :
    us.length + (t - f) = ts.length ∨ (us.length + (t - f) = ts.length + 1 ∧ ∃ h : f < us.length, us[f].level = b.level ∧ us[f].es = b.es) := by
  have hl : us.length = (replT ts f t b).length := by have := congrArg List.length he; simpa using this
  unfold replT at he hl
  cases hb : b.es.isEmpty with
  | true =>
    rw [hb] at hl
    left
    simp at hl
    omega
  | false =>
    rw [hb] at hl he
    simp only [Bool.false_eq_true, if_false] at hl he
    right
    have hl' : us.length + (t - f) = ts.length + 1 := by simp at hl; omega
    have hf : f < us.length := by omega
    refine ⟨hl', hf, ?_⟩
    have h1 := congrArg (fun l => l[f]?) he
    simp only [List.getElem?_map, List.getElem?_eq_getElem hf] at h1
    have h2 : (ts.take f ++ ([b] ++ ts.drop t))[f]? = some b := by
      have hlt : (ts.take f).length = f := by rw [List.length_take]; omega
      rw [List.getElem?_append_right (by omega), hlt, Nat.sub_self]
      rfl
    rw [h2] at h1
    simp only [Option.map_some, Option.some.injEq, Prod.mk.injEq] at h1
    exact h1
theorem below_drewN {w w1 : World} (hb : Below w.heap.size w w1) (n : Nat) : Below w.heap.size w (w1.drewN n) := ((Kp.of_below (S := fun _ => False) hb).drewN n).below
theorem Dop.one {w : World} {g off : Nat} {L : List DoV} (h : Dop w (some ⟨g, off, none⟩) L) (i : Nat) (hi : i < L.length) : Dop w (some ⟨g, off + i * 4, none⟩) [L[i]] := fun j hj => by
  have hj0 : j = 0 := by simpa using hj
  subst hj0
  obtain ⟨g', off', e, c0, c1, c2, c3⟩ := h i hi
  cases e
  exact ⟨_, _, rfl, by simpa using c0, by simpa using c1, by simpa using c2, by simpa using c3⟩
theorem PRowS.over {w w' : World} {U U' : Nat → Prop} {v : Value} {l : List (Nm × Nm)} (h : PRowS w U v l) (k : Kp U w w') (hU : ∀ i, U' i → Nw U w i) : PRowS w' U' v l := by
  obtain ⟨q, c, e, hp, hn⟩ := h
  obtain ⟨q', c', e', hp', _⟩ := PRowS.kept ⟨q, c, e, hp, hn⟩ k
  rw [e] at e'
  cases e'
  refine ⟨q, c, e, hp', fun a ha h0 s => ?_⟩
  rcases hU _ s with s | s
  · exact hn a ha h0 s
  · have := Pairp.lt hp a ha h0; omega
theorem inp_two {W : World} {g : Nat} {x y : Nat} (h : W.heap[g]? = some (.cells #[.int .i64 x, .int .i64 y] 3)) : Inp W (some ⟨g, 0, none⟩) [x, y] := fun i hi => by
  match i, hi with
  | 0, _ => exact ⟨g, 0, rfl, by simpa using cell_block (j := 0) h⟩
  | 1, _ => exact ⟨g, 0, rfl, by simpa using cell_block (j := 1) h⟩
theorem tt_cells {w : World} {q : Option Addr} {l : List (Nat × Nat × Nat)} (h : Rp ttC 3 w q l) (i : Nat) (hi : i < l.length) : ∃ g off, q = some ⟨g, off, none⟩ ∧ w.cell? ⟨g, off + i * 3, none⟩ = some (.int .i64 l[i].1) ∧ w.cell? ⟨g, off + i * 3 + 1, none⟩ = some (.int .i64 l[i].2.1) ∧ w.cell? ⟨g, off + i * 3 + 2, none⟩ = some (.int .i64 l[i].2.2) := by
  obtain ⟨g, off, e, c0⟩ := h i hi 0 _ rfl
  obtain ⟨g', off', e', c1⟩ := h i hi 1 _ rfl
  obtain ⟨g'', off'', e'', c2⟩ := h i hi 2 _ rfl
  rw [e] at e' e''
  cases e'
  cases e''
  exact ⟨g, off, e, by simpa using c0, by rw [Nat.add_assoc]; exact c1, by rw [Nat.add_assoc]; exact c2⟩
def sumTT (l : List (Nat × Nat × Nat)) : Nat := (l.map (·.2.2)).sum
end Go.Proofs.YtoabedkcieindabGreatDoor
