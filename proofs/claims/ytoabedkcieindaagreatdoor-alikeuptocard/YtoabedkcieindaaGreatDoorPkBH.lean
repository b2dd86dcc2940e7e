import Derived.Test.YtoabedkcieindaaGreatDoorPkBD
import Derived.Test.YtoabedkcieindaaGreatDoorPkBG
import Derived.Test.YtoabedkcieindaaGreatDoorPkAZ
namespace Go.Proofs.YtoabedkcieindaaGreatDoor
open Go.RowKit Go.Maps Go.Sort Go.Shelf
theorem CmPost.stay {w w' : World} {S E : Nat → Prop} {T bd bm bsn : Nat} {s : Sl} {l : List Tr} {d : Dk} {st : Ls} {z : Int} (h : Lsy w S E T bd bm bsn s l d st) (hb : Below w.heap.size w w') : CmPost w w' S E T bd bm bsn (z, d, st) :=
  ⟨S, E, s, l, fun _ h => .inl h, fun _ h => .inl h, h.dj, h.nT, h.nm, h.nn, progBelow h.prog hb, h.at_.below hb⟩
def Aft (w w' : World) (S E : Nat → Prop) (T bd bm bsn : Nat) (M : Mp) (n c : Nat) : Prop :=
  ∃ r : Int × Dk × Ls, Lsu r.2.1 r.2.2 M n c ∧ CmPost w w' S E T bd bm bsn r ∧ Kp (fun k => S k ∨ k = T ∨ k = bm) w w'
set_option maxHeartbeats 400000 in
set_option maxRecDepth 20000 in
theorem sSync_lsu (T bd bm bsn : Nat) (s : Sl) (l : List Tr) (d : Dk) (st : Ls) (S E : Nat → Prop) (M : Mp) (n c : Nat) (w : World) (h : Lsy w S E T bd bm bsn s l d st) (hl : Lsu d st M n c) (hn : n ≤ 110) :
    Calls Tryz.prog 54 #[.pointer (some ⟨T, 0, none⟩)] w fun e w' => e = .returned (.int .i64 0) ∧ Aft w w' S E T bd bm bsn M n c := by
  cases hlo : st.loose with
  | true =>
    obtain ⟨h0, h1⟩ := hl.sync hn hlo
    have hlg := hl.log
    refine (sSync_any T bd bm bsn s l d st S E w h hl.ok hl.lwr.1 (by omega) hlo h0).mono ?_
    rintro e w' ⟨rfl, hp, hk⟩
    exact ⟨rfl, _, h1, hp, hk⟩
  | false =>
    obtain ⟨dm, dr, df, hd, _⟩ := h.prog.raw
    have hw := lWritable_any h.at_ hd
    rw [hl.lwr.1] at hw
    clear hd
    go_enter Tryz.func54, Tryz.ntmps54
    go_wp2_with (go_at_call 96; refine hw.mono ?_; rintro e w3 ⟨rfl, hB3⟩; have c11 : w3.cell? ⟨T, 11, none⟩ = some (.bool st.loose) := (h.at_.below hB3).cell 11; rw [hlo] at c11; clear hw)
    go_ret
    exact ⟨rfl, (0, d, st), hl, CmPost.stay h hB3, Kp.of_below hB3⟩
set_option maxHeartbeats 400000 in
theorem scompact_lsu (T bd bm bsn : Nat) (s : Sl) (l : List Tr) (d : Dk) (st : Ls) (S E : Nat → Prop) (M : Mp) (n c : Nat) (w : World) (h : Lsy w S E T bd bm bsn s l d st) (hl : Lsu d st M n c) (hn : n ≤ 110) (hc : c ≤ 1000000000) :
    Calls Tryz.prog 179 #[.pointer (some ⟨T, 0, none⟩)] w fun e w' => e = .returned (.int .i64 0) ∧ Aft w w' S E T bd bm bsn M n (c + 1) := by
  have hL := h.at_
  have hents := hl.ents
  have hfew := hl.few
  have hlg := hl.log
  have hml := hl.memlen
  have hlay := hl.laylen
  have hlen : l.length = st.tabs.length := by rw [← hL.is]; simp
  have hin : ∀ x ∈ l, x.1 ∈ st.tabs := fun x hx => by rw [← hL.is]; exact List.mem_map.2 ⟨x, hx, rfl⟩
  have hall := hl.all.2.2.1
  have hhi : (l.map (·.1.level)).getD 0 0 = (st.tabs.map (·.level)).getD 0 0 := by rw [← hL.is]; simp [Function.comp_def]
  refine compact_any T bd bm bsn s l st E (allE st) _ w _ hL hl.mok.1 (by omega) (by omega) hl.keylen (by omega) (fun x hx => ⟨by have := entsT_at (hin x hx); omega, hl.srt _ (hin x hx)⟩) (by omega) rfl (by omega) hhi (by omega) (fun _ w' hb => ?_) (fun _ w1 s2 l2 hb ht he his hf => ?_)
  · exact ⟨rfl, (0, d, st), hl.up (by omega), CmPost.stay h hb, Kp.of_below hb⟩
  · have hC := hl.compactC
    have hT : l2.map (·.1) = replT st.tabs 0 st.tabs.length ⟨0, (st.tabs.map (·.level)).getD 0 0, allE st⟩ := by
      rw [his, replT_all]
      cases allE st <;> rfl
    refine (commit_lsu T bd bm bsn s s2 l l2 d st S E M n c _ _ w w1 h hl hn hc hC hb ht he hT (fun x hx => .inr (hf x hx))).mono ?_
    rintro e w' ⟨rfl, hp, hk⟩
    exact ⟨⟨_, rfl⟩, rfl, _, (hl.commit hn hc hC).2.2.1, hp, hk⟩
set_option maxHeartbeats 400000 in
set_option maxRecDepth 20000 in
theorem sCompact_lsu (T bd bm bsn : Nat) (s : Sl) (l : List Tr) (d : Dk) (st : Ls) (S E : Nat → Prop) (M : Mp) (n c : Nat) (w : World) (h : Lsy w S E T bd bm bsn s l d st) (hl : Lsu d st M n c) (hn : n ≤ 110) (hc : c ≤ 1000000000) :
    Calls Tryz.prog 120 #[.pointer (some ⟨T, 0, none⟩)] w fun e w' => e = .returned (.int .i64 0) ∧ Aft w w' S E T bd bm bsn M n (c + 1) := by
  obtain ⟨dm, dr, df, hd, _⟩ := h.prog.raw
  have hw := lWritable_any h.at_ hd
  rw [hl.lwr.1] at hw
  have hF := fun w1 (hb : Below w.heap.size w w1) => scompact_lsu T bd bm bsn s l d st S E M n c w1 (h.below hb) hl hn hc
  clear hd
  go_enter Tryz.func120, Tryz.ntmps120
  go_wp2_with (first
    | (go_at_call 96; refine hw.mono ?_; rintro e w1 ⟨rfl, hb1⟩; have hF1 := hF w1 hb1; clear hw hF)
    | (go_at_call 179; refine hF1.mono ?_; rintro e w2 ⟨rfl, r, hlr, hc2, hk2⟩; obtain ⟨S', E', s', l', h1', h2', h3', h4', h5', h6', hP2, hL2⟩ := id hc2; obtain ⟨m2, r2, f2, hd2, _⟩ := hP2.raw; rw [hlr.stl.al] at hd2; have hO := outcome_any (e0 := 0) (hL2.cell 0) hd2; simp only [Bool.false_eq_true, if_false] at hO; clear h1' h2' h3' h4' h5' h6' hP2 hL2 hd2 hF1)
    | (go_at_call 111; refine hO.mono ?_; rintro e w3 ⟨rfl, rfl⟩))
  go_ret
  exact ⟨rfl, r, hlr, hc2.up hb1.size, (Kp.of_below (S := fun k => S k ∨ k = T ∨ k = bm) hb1).trans hk2 (fun _ _ h => h)⟩
theorem idxF_at : ∀ {l : List Nat} (_ : l.Nodup) (i : Nat) (hi : i < l.length) (k : Int), idxF l (l[i] : Int) k = k + i
  | [], _, i, hi, _ => by simp at hi
  | x :: r, hd, 0, _, k => by simp [idxF]
  | x :: r, hd, i + 1, hi, k => by
    obtain ⟨h1, h2⟩ := List.nodup_cons.1 hd
    have hi' : i < r.length := by simpa using hi
    have ih := idxF_at h2 i hi' (k + 1)
    rw [idxF]
    have hne : ¬ ((x : Int) = ((x :: r)[i + 1] : Int)) := fun e => by
      have e' : x = r[i] := by simp only [List.getElem_cons_succ] at e; omega
      exact h1 (e' ▸ List.getElem_mem hi')
    rw [if_neg hne]
    simp only [List.getElem_cons_succ]
    rw [ih]
    omega
theorem span_tabs {st : Ls} {f t : Nat} (hd : (st.tabs.map (·.number)).Nodup) (hft : f < t) (htl : t ≤ st.tabs.length) : spanR ((idxs st (((st.tabs.map (·.number)).drop f).take (t - f))).mergeSort (fun x y => decide (x ≤ y))) = ((f : Int), (t : Int)) := by
  have e : idxs st (((st.tabs.map (·.number)).drop f).take (t - f)) = (List.range (t - f)).map fun i => ((f + i : Nat) : Int) := by
    unfold idxs
    apply List.ext_getElem
    · simp; omega
    · intro i h1 h2
      simp only [List.getElem_map, List.getElem_take, List.getElem_drop, List.getElem_range]
      have hi : f + i < (st.tabs.map (·.number)).length := by simp at h1 ⊢; omega
      have := idxF_at hd (f + i) hi 0
      simp only [List.getElem_map] at this
      rw [this]
      omega
  rw [e, List.mergeSort_of_pairwise]
  · have hlen : ((List.range (t - f)).map fun i => ((f + i : Nat) : Int)).length = t - f := by simp
    have hg : ∀ i, i < t - f → ((List.range (t - f)).map fun i => ((f + i : Nat) : Int)).getD i 0 = f + i := fun i hi => by
      rw [List.getD_eq_getElem?_getD, List.getElem?_map, List.getElem?_range hi]
      simp
    have h0 := hg 0 (by omega)
    rw [spanR_yes (fun i hi => by rw [hlen] at hi; rw [hg i hi, h0]; omega) (by rw [hlen]; omega), hlen, h0]
    simp
    omega
  · rw [List.pairwise_map]
    refine List.Pairwise.imp (fun h => ?_) (List.pairwise_lt_range (n := t - f))
    simp
    omega
set_option maxHeartbeats 400000 in
theorem sMerge_lsu (T bd bm bsn : Nat) (s : Sl) (l : List Tr) (d : Dk) (st : Ls) (S E : Nat → Prop) (M : Mp) (n c f t : Nat) (q : Option Addr) (qc : Nat) (ns : List Nat) (w : World) (h : Lsy w S E T bd bm bsn s l d st) (hl : Lsu d st M n c) (hn : n ≤ 110) (hc : c ≤ 1000000000) (hft : f < t) (htl : t ≤ st.tabs.length) (hns : ns = ((st.tabs.map (·.number)).drop f).take (t - f)) (hq : Inp w q ns) :
    Calls Tryz.prog 121 #[.pointer (some ⟨T, 0, none⟩), .slice q ns.length qc] w fun e w' => e = .returned (.int .i64 0) ∧ Aft w w' S E T bd bm bsn M n (c + 1) := by
  have hL := h.at_
  obtain ⟨dm, dr, df, hd, _⟩ := h.prog.raw
  have hents := hl.ents
  have hfew := hl.few
  have hlen : l.length = st.tabs.length := by rw [← hL.is]; simp
  have hnl : ns.length = t - f := by rw [hns]; simp; omega
  have hlv : (l[f]'(by omega)).1.level = (st.tabs.map (·.level)).getD f 0 := by
    rw [← hL.is, List.getD_eq_getElem?_getD]
    simp [show f < l.length by omega]
  have hC := hl.mergeC hft htl
  have hml : (mergeT [] st.tabs f t).length ≤ 110 := by
    have h1 := mergeT_len [] st.tabs f t
    have h2 := entsT_split st.tabs f t (by omega)
    omega
  refine sMerge_any T bd bm bsn s l st E q qc ns f t _ (mergeT [] st.tabs f t) w _ hL hd hl.lwr.1 hq (by omega) (by omega) (by rw [hns]; exact span_tabs hl.num.2.2 hft htl) hft (by omega) (by omega) hlv (by rw [hL.is]; omega) (by rw [hL.is]) (by omega) (fun w1 s2 l2 hb ht he his hf => ?_)
  rw [hL.is] at his
  refine (commit_lsu T bd bm bsn s s2 l l2 d st S E M n c _ _ w w1 h hl hn hc hC hb ht he his hf).mono ?_
  rintro e w' ⟨rfl, hp, hk⟩
  refine ⟨_, rfl, ?_⟩
  have hlr := (hl.commit hn hc hC).2.2.1
  obtain ⟨S', E', s', l', h1', h2', h3', h4', h5', h6', hP2, hL2⟩ := id hp
  obtain ⟨m2, r2, f2, hd2, _⟩ := hP2.raw
  rw [hlr.stl.al] at hd2
  have hO := outcome_any (e0 := 0) (hL2.cell 0) hd2
  simp only [Bool.false_eq_true, if_false] at hO
  refine hO.mono ?_
  rintro e w3 ⟨rfl, rfl⟩
  exact ⟨⟨_, rfl⟩, rfl, _, hlr, hp, hk⟩
end Go.Proofs.YtoabedkcieindaaGreatDoor

namespace Go.Proofs.YtoabedkcieindaaGreatDoor
open Go.RowKit Go.Maps Go.Sort Go.Shelf
def Lg (w : World) (U : Nat → Prop) (bx bz : Nat) (M : Mp) (n c : Nat) : Prop := ∃ d st, Lx w U bx bz d st ∧ Lsu d st M n c
theorem Lg.kept {w w' : World} {U V : Nat → Prop} {bx bz : Nat} {M : Mp} {n c : Nat} (h : Lg w U bx bz M n c) (k : Kp V w w') (hV : ∀ i, U i → ¬ V i) : Lg w' U bx bz M n c := by
  obtain ⟨d, st, h1, h2⟩ := h
  exact ⟨d, st, h1.kept k hV, h2⟩
theorem Lg.below {w w' : World} {U : Nat → Prop} {bx bz : Nat} {M : Mp} {n c : Nat} (h : Lg w U bx bz M n c) (k : Below w.heap.size w w') : Lg w' U bx bz M n c := h.kept (V := fun _ => False) (Kp.of_below k) (fun _ _ f => f)
theorem Lg.mono {w : World} {U V : Nat → Prop} {bx bz : Nat} {M : Mp} {n c : Nat} (h : Lg w U bx bz M n c) (hV : ∀ k, k < w.heap.size → U k → V k) : Lg w V bx bz M n c := by
  obtain ⟨d, st, h1, h2⟩ := h
  exact ⟨d, st, h1.mono hV, h2⟩
theorem Lg.up {w : World} {U : Nat → Prop} {bx bz : Nat} {M : Mp} {n c c' : Nat} (h : Lg w U bx bz M n c) (hc : c ≤ c') : Lg w U bx bz M n c' := by
  obtain ⟨d, st, h1, h2⟩ := h
  exact ⟨d, st, h1, h2.up hc⟩
set_option maxHeartbeats 400000 in
theorem xBatch_lg (bx bz : Nat) (U : Nat → Prop) (M : Mp) (n c : Nat) (q : Option Addr) (qc : Nat) (ops : List Ox) (w : World) (h : Lg w U bx bz M n c) (hc : c ≤ 1000000000) (hb : batchOk ops = true) (hn : n + ops.length ≤ 110) (hk : OxLen ops) (hp : Opp w q ops) (hq : ∀ a, q = some a → 0 < ops.length → ¬ U a.block) :
    Calls Tryz.prog 34 #[.pointer (some ⟨bz, 0, none⟩), .slice q ops.length qc] w fun e w' => e = .returned (.int .i64 0) ∧ Lg w' (Nw U w) bx bz (doAll M ops) (n + ops.length) (c + 1) ∧ Kp U w w' := by
  obtain ⟨d, st, hx, hl⟩ := h
  obtain ⟨bd, T, bm, bsn, S, E, s, l, h1, h2, h3, h4, h5, h6⟩ := hx.ex
  have hin := sinner_any h2
  have hB := sBatch_lsu T bd bm bsn s l d st S E M n c q qc ops w h6 hl hc hb hn hk hp (fun a ha h0 => ⟨fun x => hq a ha h0 (h5 _ (.inl x)).1, fun e => hq a ha h0 (by rw [e]; exact (h5 T (.inr (.inr (.inl rfl)))).1)⟩)
  have hlX := (hl.batchX hc hb hn).2
  generalize lbatchX d st ops = X at *
  go_enter Tryz.func34, Tryz.ntmps34
  go_wp2_with (first
    | (go_at_call 53; refine hin.mono ?_; rintro e w' ⟨rfl, rfl⟩; clear hin)
    | (go_at_call 63; refine hB.mono ?_; rintro e w1 ⟨rfl, hc1, k1⟩; clear hB))
  go_ret
  obtain ⟨a, b⟩ := Lx.step h1 h2 h3 h4 h5 hc1 k1
  exact ⟨rfl, ⟨_, _, a, hlX⟩, b⟩
set_option maxHeartbeats 400000 in
theorem xFlush_lg (bx bz : Nat) (U : Nat → Prop) (M : Mp) (n c : Nat) (w : World) (h : Lg w U bx bz M n c) (hn : n ≤ 110) (hc : c ≤ 1000000000) :
    Calls Tryz.prog 39 #[.pointer (some ⟨bz, 0, none⟩)] w fun e w' => e = .returned (.int .i64 0) ∧ Lg w' (Nw U w) bx bz M n (c + 1) ∧ Kp U w w' := by
  obtain ⟨d, st, hx, hl⟩ := h
  obtain ⟨bd, T, bm, bsn, S, E, s, l, h1, h2, h3, h4, h5, h6⟩ := hx.ex
  have hin := sinner_any h2
  have hB := sFlush_lsu T bd bm bsn s l d st S E M n c w h6 hl hn hc
  have hlX := (hl.flush hn hc).2
  generalize flushX d st = X at *
  go_enter Tryz.func39, Tryz.ntmps39
  go_wp2_with (first
    | (go_at_call 53; refine hin.mono ?_; rintro e w' ⟨rfl, rfl⟩; clear hin)
    | (go_at_call 68; refine hB.mono ?_; rintro e w1 ⟨rfl, hc1, k1⟩; clear hB))
  go_ret
  obtain ⟨a, b⟩ := Lx.step h1 h2 h3 h4 h5 hc1 k1
  exact ⟨rfl, ⟨_, _, a, hlX⟩, b⟩
set_option maxHeartbeats 400000 in
theorem xSync_lg (bx bz : Nat) (U : Nat → Prop) (M : Mp) (n c : Nat) (w : World) (h : Lg w U bx bz M n c) (hn : n ≤ 110) :
    Calls Tryz.prog 21 #[.pointer (some ⟨bz, 0, none⟩)] w fun e w' => e = .returned (.int .i64 0) ∧ Lg w' (Nw U w) bx bz M n c ∧ Kp U w w' := by
  obtain ⟨d, st, hx, hl⟩ := h
  obtain ⟨bd, T, bm, bsn, S, E, s, l, h1, h2, h3, h4, h5, h6⟩ := hx.ex
  have hin := sinner_any h2
  have hB := sSync_lsu T bd bm bsn s l d st S E M n c w h6 hl hn
  go_enter Tryz.func21, Tryz.ntmps21
  go_wp2_with (first
    | (go_at_call 53; refine hin.mono ?_; rintro e w' ⟨rfl, rfl⟩; clear hin)
    | (go_at_call 54; refine hB.mono ?_; rintro e w1 ⟨rfl, r, hlr, hc1, k1⟩; clear hB))
  go_ret
  obtain ⟨a, b⟩ := Lx.step h1 h2 h3 h4 h5 hc1 k1
  exact ⟨rfl, ⟨_, _, a, hlr⟩, b⟩
set_option maxHeartbeats 400000 in
theorem xCompact_lg (bx bz : Nat) (U : Nat → Prop) (M : Mp) (n c : Nat) (w : World) (h : Lg w U bx bz M n c) (hn : n ≤ 110) (hc : c ≤ 1000000000) :
    Calls Tryz.prog 75 #[.pointer (some ⟨bz, 0, none⟩)] w fun e w' => e = .returned (.int .i64 0) ∧ Lg w' (Nw U w) bx bz M n (c + 1) ∧ Kp U w w' := by
  obtain ⟨d, st, hx, hl⟩ := h
  obtain ⟨bd, T, bm, bsn, S, E, s, l, h1, h2, h3, h4, h5, h6⟩ := hx.ex
  have hin := sinner_any h2
  have hB := sCompact_lsu T bd bm bsn s l d st S E M n c w h6 hl hn hc
  go_enter Tryz.func75, Tryz.ntmps75
  go_wp2_with (first
    | (go_at_call 53; refine hin.mono ?_; rintro e w' ⟨rfl, rfl⟩; clear hin)
    | (go_at_call 120; refine hB.mono ?_; rintro e w1 ⟨rfl, r, hlr, hc1, k1⟩; clear hB))
  go_ret
  obtain ⟨a, b⟩ := Lx.step h1 h2 h3 h4 h5 hc1 k1
  exact ⟨rfl, ⟨_, _, a, hlr⟩, b⟩
set_option maxHeartbeats 400000 in
theorem xMerge_lg (bx bz : Nat) (d : Dk) (st : Ls) (U : Nat → Prop) (M : Mp) (n c f t : Nat) (q : Option Addr) (qc : Nat) (ns : List Nat) (w : World) (hx : Lx w U bx bz d st) (hl : Lsu d st M n c) (hn : n ≤ 110) (hc : c ≤ 1000000000) (hft : f < t) (htl : t ≤ st.tabs.length) (hns : ns = ((st.tabs.map (·.number)).drop f).take (t - f)) (hq : Inp w q ns) :
    Calls Tryz.prog 76 #[.pointer (some ⟨bz, 0, none⟩), .slice q ns.length qc] w fun e w' => e = .returned (.int .i64 0) ∧ Lg w' (Nw U w) bx bz M n (c + 1) ∧ Kp U w w' := by
  obtain ⟨bd, T, bm, bsn, S, E, s, l, h1, h2, h3, h4, h5, h6⟩ := hx.ex
  have hin := sinner_any h2
  have hB := sMerge_lsu T bd bm bsn s l d st S E M n c f t q qc ns w h6 hl hn hc hft htl hns hq
  clear hns
  go_enter Tryz.func76, Tryz.ntmps76
  go_wp2_with (first
    | (go_at_call 53; refine hin.mono ?_; rintro e w' ⟨rfl, rfl⟩; clear hin)
    | (go_at_call 121; refine hB.mono ?_; rintro e w1 ⟨rfl, r, hlr, hc1, k1⟩; clear hB))
  go_ret
  obtain ⟨a, b⟩ := Lx.step h1 h2 h3 h4 h5 hc1 k1
  exact ⟨rfl, ⟨_, _, a, hlr⟩, b⟩
set_option maxHeartbeats 400000 in
theorem xTables_lg (bx bz : Nat) (d : Dk) (st : Ls) (U : Nat → Prop) (M : Mp) (n c : Nat) (w : World) (h : Lx w U bx bz d st) (hl : Lsu d st M n c) (hn : n ≤ 110) :
    Calls Tryz.prog 43 #[.pointer (some ⟨bz, 0, none⟩)] w fun e w' => ∃ v, e = .returned (.tuple #[v, .int .i64 0]) ∧ OwnTt w' w.heap.size v (st.tabs.map ttOf) ∧ Below w.heap.size w w' := by
  obtain ⟨bd, T, bm, bsn, S, E, s, l, h1, h2, h3, h4, h5, h6⟩ := h.ex
  have hin := sinner_any h2
  obtain ⟨dm, dr, df, hd, _⟩ := h6.prog.raw
  have hlen : l.length = st.tabs.length := by rw [← h6.at_.is]; simp
  have hfew := hl.few
  have hents := hl.ents
  have hB := sTables_any T bd bm bsn s l st E w h6.at_ hd hl.lwr.2 (by omega) (fun x hx => by have := entsT_at (show x.1 ∈ st.tabs by rw [← h6.at_.is]; exact List.mem_map.2 ⟨x, hx, rfl⟩); omega)
  clear hd
  generalize st.tabs.map ttOf = X at *
  go_enter Tryz.func43, Tryz.ntmps43
  go_wp2_with (first
    | (go_at_call 53; refine hin.mono ?_; rintro e w' ⟨rfl, rfl⟩; clear hin)
    | (go_at_call 72; refine hB.mono ?_; rintro e w1 ⟨v, rfl, ho, hb⟩; obtain ⟨a2, k2, rfl⟩ := ho.shape; clear hB))
  go_ret2
  exact ⟨_, rfl, ho, hb⟩
set_option maxHeartbeats 400000 in
theorem xScan_lg (bx bz : Nat) (U : Nat → Prop) (M : Mp) (n c : Nat) (lo : Nm) (lim : Int) (w : World) (h : Lg w U bx bz M n c) (hn : n ≤ 110) (hl0 : 0 ≤ lim) (hl1 : lim ≤ 9223372036854775807) :
    Calls Tryz.prog 37 #[.pointer (some ⟨bz, 0, none⟩), str lo, str [], .int .i64 lim] w fun e w' => ∃ v, e = .returned (.tuple #[v, .int .i64 0]) ∧ Below w.heap.size w w' ∧ OwnP w' w.heap.size v ((fromL lo M).take lim.toNat) := by
  obtain ⟨d, st, hx, hl⟩ := h
  obtain ⟨bd, T, bm, bsn, S, E, s, l, h1, h2, h3, h4, h5, h6⟩ := hx.ex
  have hin := sinner_any h2
  have hB := sScan_lsu T bd bm bsn s l d st S E M n c lo lim w h6 hl hn hl0 hl1
  generalize (fromL lo M).take lim.toNat = X at *
  go_enter Tryz.func37, Tryz.ntmps37
  go_wp2_with (first
    | (go_at_call 53; refine hin.mono ?_; rintro e w' ⟨rfl, rfl⟩; clear hin)
    | (go_at_call 66; refine hB.mono ?_; rintro e w1 ⟨v, rfl, ho, hb⟩; obtain ⟨a2, k2, rfl⟩ := ho.shape; clear hB))
  go_ret2
  exact ⟨_, rfl, hb, ho⟩
set_option maxHeartbeats 400000 in
theorem xGet_lg (bx bz : Nat) (U : Nat → Prop) (M : Mp) (n c : Nat) (key : Nm) (w : World) (h : Lg w U bx bz M n c) (hn : n ≤ 110) (hk : keyOk key = true) :
    Calls Tryz.prog 25 #[.pointer (some ⟨bz, 0, none⟩), str key] w fun e w' => e = .returned (.tuple #[(gotM (getF key M)).1, (gotM (getF key M)).2, .int .i64 0]) ∧ Below w.heap.size w w' := by
  obtain ⟨d, st, hx, hl⟩ := h
  obtain ⟨bd, T, bm, bsn, S, E, s, l, h1, h2, h3, h4, h5, h6⟩ := hx.ex
  have hin := sinner_any h2
  have hB := sGet_lsu T bd bm bsn s l d st S E M n c key w h6 hl hn hk
  generalize gotM (getF key M) = X at *
  obtain ⟨x1, x2⟩ := X
  go_enter Tryz.func25, Tryz.ntmps25
  go_wp2_with (first
    | (go_at_call 53; refine hin.mono ?_; rintro e w' ⟨rfl, rfl⟩; clear hin)
    | (go_at_call 58; refine hB.mono ?_; rintro e w1 ⟨rfl, hb⟩; clear hB))
  go_ret3
  exact ⟨rfl, hb⟩
end Go.Proofs.YtoabedkcieindaaGreatDoor

namespace Go.Proofs.YtoabedkcieindaaGreatDoor
open Go.RowKit Go.Maps Go.Sort Go.Shelf
theorem Lsu.of0 {d : Dk} {s : Ls} {M : Mp} (h : Lst d s M 0) (hlo : s.loose = false) : Lsu d s M 0 0 := by
  have h1 := h.ents
  have h2 := h.few
  have h3 := h.log
  have h4 := h.next
  have hm : flatM s.mem = [] := List.length_eq_zero_iff.1 (by omega)
  have ht : s.tabs = [] := List.length_eq_zero_iff.1 (by omega)
  have hz : s.log = 0 := by omega
  obtain ⟨bs, m, a, b, c⟩ := h.lin
  exact ⟨⟨bs, m, a, b, c⟩, h.ok, h.stl, h.qu, h.turn, h.pol, h.sn, h.stk, h.mok, h.mop, h.bat, h.rise, h.view, h.srt, h.tok, h.ne, h.lv, h.ents, h.lev, h.few, h.log, by rw [hz] at h4; omega, fun e he => (by rw [hm] at he; cases he), fun x hx => (by rw [ht] at hx; cases hx), fun e => (by rw [hlo] at e; cases e)⟩
theorem fresh_lg (p : Int) (w : World) (hp : 0 ≤ p ∧ p ≤ 2) :
    Calls Tryz.prog 17 #[.int .i64 1048576, .int .i64 p] w fun e w' => ∃ bx bz, e = .returned (.tuple #[.pointer (some ⟨bx, 0, none⟩), .pointer (some ⟨bz, 0, none⟩), .bool true]) ∧ Lg w' (fun k => w.heap.size ≤ k ∧ k < w'.heap.size) bx bz [] 0 0 ∧ Below w.heap.size w w' := by
  have hN := xNew_ok 1048576 w (by decide)
  have hok : (newDk 1048576).Ok := newDk_ok (by decide)
  go_enter Tryz.func17, Tryz.ntmps17
  go_wp2_with (first
    | (go_at_call 32; refine hN.mono ?_; rintro e w1 ⟨bx, rfl, hX, hb1⟩; clear hN)
    | (go_at_call 28; refine (xOpen_nil bx (newDk 1048576) _ p w1 hX rfl hok rfl (by decide) (by decide) hp).mono ?_; rintro e w2 ⟨bz, rfl, hS, k⟩))
  go_ret3
  refine ⟨bx, bz, rfl, ⟨_, _, hS.mono (fun i hi s => ⟨s.elim id (fun h => Nat.le_trans hb1.size h), hi⟩), ?_⟩, below_kp hb1 k⟩
  exact Lsu.of0 (Lst.empty (d := { newDk 1048576 with turn := (newDk 1048576).turn + 1 }) rfl ⟨hok.quota, hok.used, hok.left0, hok.left1, hok.safe, hok.rise, hok.name⟩ ⟨rfl, by decide⟩ (by decide) hp) rfl
theorem Lsu.mlen {d : Dk} {s : Ls} {M : Mp} {n c : Nat} (h : Lsu d s M n c) : M.length ≤ n := by
  have hs := h.scan []
  have e : fromL [] M = M := List.filter_eq_self.2 fun x _ => by rw [before_nil]; rfl
  rw [e, scanX_all] at hs
  have h1 := behF_len s.batch (mergeL s.layers) []
  rw [hs] at h1
  have h2 : (mergeL s.layers).length ≤ s.layers.flatten.length := mergeF_len _ _
  have := h.laylen
  omega
theorem fromL_nil (M : Mp) : fromL [] M = M := List.filter_eq_self.2 fun x _ => by rw [before_nil]; rfl
set_option maxHeartbeats 400000 in
theorem holds_lg (bx bz : Nat) (U V : Nat → Prop) (M : Mp) (n c : Nat) (v : Value) (w : World) (h : Lg w U bx bz M n c) (hn : n ≤ 110) (hv : PRowS w V v M) :
    Calls Tryz.prog 31 #[.pointer (some ⟨bz, 0, none⟩), v] w fun e w' => e = .returned (.bool true) ∧ Below w.heap.size w w' := by
  have hsc := xScan_lg bx bz U M n c [] 1099511627776 w h hn (by omega) (by omega)
  obtain ⟨d, st, hx, hl⟩ := h
  have hml := hl.mlen
  rw [fromL_nil, List.take_of_length_le (by show _ ≤ 1099511627776; omega)] at hsc
  obtain ⟨q, c, rfl, hp, _⟩ := hv
  clear hx hl
  go_enter Tryz.func31, Tryz.ntmps31
  go_wp2_with (first
    | (go_at_call 37; refine hsc.mono ?_; rintro e w1 ⟨v1, rfl, hb1, ho1⟩; clear hsc; obtain ⟨q1, c1, rfl, hp1, _⟩ := ho1.pairp)
    | (go_at_call 27; refine (ksame_any q1 q c1 c M M _ hp1 (hp.below hb1) (by omega) (by omega)).mono ?_; rintro e w2 ⟨he, n, rfl⟩; rw [decide_eq_true rfl] at he; subst he))
  go_ret
  exact ⟨rfl, ((Kp.of_below (S := fun _ => False) hb1).drewN n).below⟩
end Go.Proofs.YtoabedkcieindaaGreatDoor

namespace Go.Proofs.YtoabedkcieindaaGreatDoor
open Go.RowKit Go.Maps Go.Sort Go.Shelf
def pickX (c n : Int) : Int := if c < 0 then -((c + 1).tmod n) else c % n
set_option maxHeartbeats 1000000 in
theorem kpick_at (c n : Int) (w : World) (hc0 : -9223372036854775808 ≤ c) (hc1 : c ≤ 9223372036854775807) (hn : 0 < n) (hn2 : n ≤ 4194304) :
    Calls Tryz.prog 18 #[.int .i64 c, .int .i64 n] w fun e w' => e = .returned (.int .i64 (pickX c n)) ∧ w' = w := by
  by_cases h : c < 0
  · have HP : Hid (pickX c n = -((c + 1).tmod n)) := by show _ = _; unfold pickX; rw [if_pos h]
    go_enter Tryz.func18, Tryz.ntmps18
    go_wp2
    go_ret
    rw [HP.out]
    exact ⟨rfl, rfl⟩
  · have HP : Hid (pickX c n = c % n) := by show _ = _; unfold pickX; rw [if_neg h]
    go_enter Tryz.func18, Tryz.ntmps18
    go_wp2
    go_ret
    rw [HP.out]
    exact ⟨rfl, rfl⟩
theorem pickX_bnd (c : Int) {n : Int} (hn : 0 < n) : 0 ≤ pickX c n ∧ pickX c n < n := by
  unfold pickX
  split
  · rw [← Int.neg_tmod, Int.tmod_eq_emod_of_nonneg (by omega)]
    exact ⟨Int.emod_nonneg _ (by omega), Int.emod_lt_of_pos _ hn⟩
  · exact ⟨Int.emod_nonneg _ (by omega), Int.emod_lt_of_pos _ hn⟩
set_option maxHeartbeats 1000000 in
set_option maxRecDepth 100000 in
theorem kwork_lg (bx bz : Nat) (U : Nat → Prop) (M : Mp) (n c : Nat) (k a b : Int) (q : Option Addr) (m qc : Nat) (w : World) (h : Lg w U bx bz M n c) (hn : n ≤ 110) (hc : c ≤ 1000000000) (hk : 1 ≤ k ∧ k ≤ 4) (ha : -9223372036854775808 ≤ a ∧ a ≤ 9223372036854775807) (hb : -9223372036854775808 ≤ b ∧ b ≤ 9223372036854775807) :
    Calls Tryz.prog 48 #[.pointer (some ⟨bz, 0, none⟩), .agg #[.int .i64 k, .int .i64 a, .int .i64 b, .slice q m qc]] w fun e w' => e = .returned (.bool true) ∧ Lg w' (Nw U w) bx bz M n (c + 1) ∧ Kp U w w' := by
  have hB := (Below.refl w.heap.size w).alloc (Nat.le_refl _) (.cells #[.int .i64 k, .int .i64 a, .int .i64 b, .slice q m qc] 63)
  have h1 := h.below hB
  have bigger : ∀ {w1 : World}, Lg w1 (Nw U (w.alloc (.cells #[.int .i64 k, .int .i64 a, .int .i64 b, .slice q m qc] 63))) bx bz M n (c + 1) → Lg w1 (Nw U w) bx bz M n (c + 1) := fun hh => hh.mono (fun i _ x => x.imp id (fun y => by rw [World.size_alloc] at y; omega))
  have kpb : ∀ {w1 : World}, Kp U (w.alloc (.cells #[.int .i64 k, .int .i64 a, .int .i64 b, .slice q m qc] 63)) w1 → Kp U w w1 := fun hh => (Kp.of_below hB).trans hh (fun _ _ x => x)
  obtain ⟨b0, b1, b2, b3, _⟩ := cells4 (block_new w (.cells #[.int .i64 k, .int .i64 a, .int .i64 b, .slice q m qc] 63))
  have hcase : k = 1 ∨ k = 2 ∨ k = 4 ∨ k = 3 := by omega
  rcases hcase with rfl | rfl | rfl | rfl
  · have hF := xFlush_lg bx bz U M n c _ h1 hn hc
    go_enter Tryz.func48, Tryz.ntmps48
    go_wp2_with (go_at_call 39; refine hF.mono ?_; rintro e w1 ⟨rfl, hg, hk1⟩)
    go_ret
    exact ⟨rfl, bigger hg, kpb hk1⟩
  · have hF := xCompact_lg bx bz U M n c _ h1 hn hc
    go_enter Tryz.func48, Tryz.ntmps48
    go_wp2_with (go_at_call 75; refine hF.mono ?_; rintro e w1 ⟨rfl, hg, hk1⟩)
    go_ret
    exact ⟨rfl, bigger hg, kpb hk1⟩
  · have hF := xSync_lg bx bz U M n c _ h1 hn
    go_enter Tryz.func48, Tryz.ntmps48
    go_wp2_with (go_at_call 21; refine hF.mono ?_; rintro e w1 ⟨rfl, hg, hk1⟩)
    go_ret
    exact ⟨rfl, bigger (hg.up (by omega)), kpb hk1⟩
  · obtain ⟨d, st, hx, hl⟩ := h1
    have hT := xTables_lg bx bz d st U M n c _ hx hl hn
    have hfew := hl.few
    obtain ⟨i0, hi0, hz0, hz1, hz2⟩ := info_parts Tryz.infoN
    by_cases hemp : st.tabs = []
    · rw [hemp] at hT
      go_enter Tryz.func48, Tryz.ntmps48
      go_wp2_with (go_at_call 43; refine hT.mono ?_; rintro e w1 ⟨v1, rfl, ho, hb1⟩; obtain ⟨a1, k1, hv1⟩ := ho.shape; simp only [List.map_nil, List.length_nil] at hv1; subst hv1; clear hT)
      go_ret
      exact ⟨rfl, bigger (Lg.mono ⟨d, st, hx.below hb1, hl.up (by omega)⟩ (fun i _ x => .inl x)), kpb (Kp.of_below hb1)⟩
    · obtain ⟨tl, htl⟩ : ∃ tl, st.tabs.length = tl := ⟨_, rfl⟩
      have htl0 : 1 ≤ tl := by have := List.length_pos_iff.2 hemp; omega
      have hpb := fun w1 => kpick_at b tl w1 hb.1 hb.2 (by omega) (by omega)
      have hpa := fun w1 => kpick_at a 9 w1 ha.1 ha.2 (by omega) (by omega)
      have hbb := pickX_bnd b (n := tl) (by omega)
      have hab := pickX_bnd a (n := 9) (by omega)
      obtain ⟨A, hA⟩ : ∃ A : Nat, pickX b tl = (A : Int) := ⟨(pickX b tl).toNat, by omega⟩
      obtain ⟨PA, hPA⟩ : ∃ A : Nat, pickX a 9 = (A : Int) := ⟨(pickX a 9).toNat, by omega⟩
      rw [hA] at hpb hbb
      rw [hPA] at hpa hab
      have hml : (st.tabs.map ttOf).length = tl := by rw [List.length_map]; exact htl
      have hne0 : ¬ ((tl : Int) = 0) := by omega
      go_enter Tryz.func48, Tryz.ntmps48
      go_wp2_with (first
        | (go_at_call 43; refine hT.mono ?_; rintro e w1 ⟨v1, rfl, ho, hb1⟩; obtain ⟨q1, cap1, hv1, hc1, hr1, hn1, hf1⟩ := ho.rp ttC_len; rw [hml] at hv1; subst hv1; have b1' := cell_below hb1 b1; have b2' := cell_below hb1 b2; clear hT)
        | (go_at_call 18; refine (hpb _).mono ?_; rintro e w2 ⟨rfl, hw2⟩; rw [hw2]; clear hw2))
      clear hpb
      have hBw : Below w.heap.size w w1 := hB.trans (hb1.mono hB.size)
      go_loopw [10, 12] (fun v i wr => ∃ kk : Nat, A ≤ kk ∧ kk ≤ tl ∧ kk ≤ A + PA + 1 ∧ i = .int .i64 kk ∧ OwnN wr w1.heap.size v (((st.tabs.map (·.number)).drop A).take (kk - A)) ∧ Below w1.heap.size w1 wr) (fun _ i _ => tl - (intOf i).toNat)
      case atStart => exact ⟨A, Nat.le_refl _, by omega, by omega, rfl, (by rw [Nat.sub_self, List.take_zero]; exact World.ownsRow_nil _ _ _ _), Below.refl _ _⟩
      case round =>
        obtain ⟨kk, hk1, hk2, hk3, rfl, hown, hbr⟩ := hrel
        have b1r := cell_below hbr b1'
        have hsr := hbr.size
        have hBr := hb1.trans (hbr.mono hb1.size)
        have hlk : (((st.tabs.map (·.number)).drop A).take (kk - A)).length = kk - A := by simp; omega
        by_cases hlt : kk < tl
        · by_cases hle : kk ≤ A + PA
          · obtain ⟨g, off, hq1, c0⟩ := hr1 kk (by omega) 0 _ rfl
            rw [← Nat.add_assoc, Nat.add_zero] at c0
            subst hq1
            have hltt : kk < st.tabs.length := by omega
            have c0' : wr.cell? ⟨g, off + kk * 3, none⟩ = some (encN (st.tabs[kk].number)) := by
              have := cell_below hbr c0
              simpa [ttOf] using this
            have HT : Hid (((st.tabs.map (·.number)).drop A).take (kk + 1 - A) = ((st.tabs.map (·.number)).drop A).take (kk - A) ++ [st.tabs[kk].number]) := by
              show _ = _
              rw [show kk + 1 - A = kk - A + 1 by omega, List.take_succ_eq_append_getElem (by simp; omega)]
              congr 1
              simp [List.getElem_drop, show A + (kk - A) = kk by omega]
            generalize st.tabs[kk].number = x at *
            generalize ((st.tabs.map (·.number)).drop A).take (kk - A) = L at *
            have hle' : (kk : Int) ≤ (A : Int) + (PA : Int) := by omega
            obtain ⟨va, vc, hv0, _⟩ := hown.inp
            rw [hlk] at hv0
            subst hv0
            go_wp2_with (first
              | (go_at_call 18; refine (hpa _).mono ?_; rintro e w3 ⟨rfl, hw3⟩; rw [hw3]; clear hw3)
              | (at_builtin; refine wpList_append_own _ rfl (.tmp 70) (.tmp 76) 27 rfl w1.heap.size 3 i0 _ 1 8 Tryz.underlying27 hi0 hz0 hz1 hz2 rfl (by decide) _ L.length (L.map encN) rfl (World.ownsRow.alloc hown _) ⟨wr.heap.size, 0, none⟩ 1 1 [encN x] rfl rfl ?_ (by simp [Value.oneCell']) (by unfold maxLen; omega) (by omega) (by simp; omega) ?_; rotate_left; intro v' w2 hown' hgrow _)
              | go_in)
            · go_roundw
              case rel => exact ⟨kk + 1, by omega, by omega, by omega, by go_num, by rw [HT.out]; unfold OwnN; rw [List.length_append, List.map_append]; exact hown', (hbr.alloc hsr _).grown hgrow (by simp; omega) (fun k hk => (World.ownsRow.lt hown k hk).1)⟩
              case measure => simp [intOf]; omega
            · intro j u hu
              rw [Addr.add_lit, Nat.zero_add]
              rw [cell_block (block_new wr (.cells #[encN x] 3))]
              simpa using hu
          · have hle' : ¬ ((kk : Int) ≤ (A : Int) + (PA : Int)) := by omega
            obtain ⟨qv, cv, hv0, hin⟩ := hown.inp
            obtain ⟨ns, hns⟩ : ∃ ns, ((st.tabs.map (·.number)).drop A).take (kk - A) = ns := ⟨_, rfl⟩
            rw [hns] at hv0 hin hlk
            have HN : Hid (ns = ((st.tabs.map (·.number)).drop A).take (kk - A)) := hns.symm
            have hnl : ns.length = kk - A := hlk
            rw [hnl] at hv0
            subst hv0
            clear hns hown
            have hM := xMerge_lg bx bz d st U M n c A kk qv cv ns wr (hx.below hBr) hl hn hc (by omega) (by omega) HN.out hin
            rw [hnl] at hM
            go_wp2_with (first
              | (go_at_call 18; refine (hpa _).mono ?_; rintro e w3 ⟨rfl, hw3⟩; rw [hw3]; clear hw3)
              | (go_at_call 76; refine hM.mono ?_; rintro e w4 ⟨rfl, hg, hk4⟩))
            go_ret
            refine ⟨rfl, hg.mono (fun i _ x => x.imp id (fun y => by have := hBr.size; rw [World.size_alloc] at this; omega)), kpb ((Kp.of_below hBr).trans hk4 (fun _ _ x => x))⟩
        · obtain ⟨qv, cv, hv0, hin⟩ := hown.inp
          obtain ⟨ns, hns⟩ : ∃ ns, ((st.tabs.map (·.number)).drop A).take (kk - A) = ns := ⟨_, rfl⟩
          rw [hns] at hv0 hin hlk
          have HN : Hid (ns = ((st.tabs.map (·.number)).drop A).take (kk - A)) := hns.symm
          have hnl : ns.length = kk - A := hlk
          rw [hnl] at hv0
          subst hv0
          clear hns hown
          have hM := xMerge_lg bx bz d st U M n c A kk qv cv ns wr (hx.below hBr) hl hn hc (by omega) (by omega) HN.out hin
          rw [hnl] at hM
          go_wp2_with (first
            | (go_at_call 18; refine (hpa _).mono ?_; rintro e w3 ⟨rfl, hw3⟩; rw [hw3]; clear hw3)
            | (go_at_call 76; refine hM.mono ?_; rintro e w4 ⟨rfl, hg, hk4⟩))
          go_ret
          refine ⟨rfl, hg.mono (fun i _ x => x.imp id (fun y => by have := hBr.size; rw [World.size_alloc] at this; omega)), kpb ((Kp.of_below hBr).trans hk4 (fun _ _ x => x))⟩
end Go.Proofs.YtoabedkcieindaaGreatDoor
