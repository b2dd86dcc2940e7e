import Derived.Test.YtoabedkcieindabGreatDoorQkAX
import Derived.Test.YtoabedkcieindabGreatDoorQkBB
import Derived.Test.YtoabedkcieindabGreatDoorQkAL
import Derived.Laws.ResultCell
import Derived.Test.YtoabedkcieindabGreatDoorQkAS
import Derived.Laws.OwnMore
namespace Go.Proofs.YtoabedkcieindabGreatDoor
open Go.RowKit Go.Maps Go.Sort Go.Shelf
variable {Q : Sq}
theorem Lsu.memlen {d : Dk} {s : Ls} {M : Mp} {n c : Nat} (h : Lsu d s M n c Q) : s.mem.length ≤ (flatM s.mem).length := mem_le_flat (fun x hx => (h.mok.2 x hx).2.1)
theorem Lsu.keylen {d : Dk} {s : Ls} {M : Mp} {n c : Nat} (h : Lsu d s M n c Q) : ∀ x ∈ s.mem, x.1.length ≤ 1099511627776 := fun x hx => by
  have hx2 := (h.mok.2 x hx).2
  cases hxe : x.2 with
  | nil => exact absurd hxe hx2.1
  | cons a b =>
    have ha := hx2.2 a (by rw [hxe]; simp)
    have hop := (h.mop a (List.mem_flatMap.2 ⟨x, hx, by rw [hxe]; simp⟩)).1
    have := (opOk_key hop).2
    rw [← ha]
    omega
theorem Cmt.each {d : Dk} {s : Ls} {M : Mp} {n c : Nat} (h : Lsu d s M n c Q) (hn : n ≤ 110) (hc : c ≤ 1000000000) {T : List Tb} {log : Nat} (hC : Cmt s M n T log) :
    (∀ t ∈ T, t.number ≤ 1000000000000 ∧ t.level ≤ 1000000 ∧ LyOk t.es ∧ t.es ≠ [] ∧ t.es.length ≤ 500) ∧ T.length ≤ 111 ∧ log ≤ 111 := by
  obtain ⟨X, Y, a, hX, hY⟩ := hC.stp
  obtain ⟨n1, n2, n3⟩ := h.num
  have hnx := h.next
  have hf := h.few
  have hl := a.len
  have hlg := hC.lg
  refine ⟨fun t ht => ⟨?_, ?_, fun e he => (a.ok t ht e he).1, a.ne t ht, ?_⟩, by omega, by omega⟩
  · by_cases h0 : 0 < t.number
    · have := (n2 t (a.old.subset (List.mem_filter.2 ⟨ht, by simpa using h0⟩))).2
      omega
    · omega
  · have := a.top t ht; omega
  · have h1 := entsT_at ht
    have h2 := a.ents
    omega
set_option maxHeartbeats 400000 in
theorem commit_lsu (T bd bm bsn : Nat) (s s2 : Sl) (l l2 : List Tr) (d : Dk) (st : Ls) (S E : Nat → Prop) (M : Mp) (n c : Nat) (Tt : List Tb) (log : Nat) (w w1 : World) (h : Lsy w S E T bd bm bsn s l d st) (hl : Lsu d st M n c Q) (hn : n ≤ 110) (hc : c ≤ 1000000000) (hC : Cmt st M n Tt log)
    (hb : Below w.heap.size w w1) (ht : TrAt w1 s2 l2) (he : TrEs w1 l2) (his : l2.map (·.1) = Tt) (hin : ∀ x ∈ l2, x ∈ l ∨ ∀ a, x.2.1 = some a → w.heap.size ≤ a.block ∧ a.block < w1.heap.size) :
    Calls Tryz.prog 71 #[.pointer (some ⟨T, 0, none⟩), slV s2, .int .i64 log] w1 fun e w' => e = .returned (.int .i64 0) ∧ CmPost w w' S E T bd bm bsn (commitX d st Tt log) ∧ Kp (fun k => S k ∨ k = T ∨ k = bm) w w' := by
  have hL := h.at_
  obtain ⟨n1, n2, n3⟩ := hl.num
  obtain ⟨r1, r2⟩ := hl.room hn
  have hnx := hl.next
  have hfew := hl.few
  have hlg := hl.log
  obtain ⟨e1, e2, e3⟩ := hC.each hl hn hc
  obtain ⟨hR, c1, _⟩ := hl.commit hn hc hC
  have hlen : l.length = st.tabs.length := by rw [← hL.is]; simp
  have hlen2 : l2.length = Tt.length := by rw [← his]; simp
  obtain ⟨_, _, _, _, c5, c6⟩ := Rm.commit (s := st) log hR (by omega)
  have hin1 : ∀ x ∈ l, x.1 ∈ st.tabs := fun x hx => by rw [← hL.is]; exact List.mem_map.2 ⟨x, hx, rfl⟩
  have hin2 : ∀ x ∈ l2, x.1 ∈ Tt := fun x hx => by rw [← his]; exact List.mem_map.2 ⟨x, hx, rfl⟩
  have hP0 : ProgAt w (fun k => S k ∧ k < w.heap.size) bd d := h.prog.mono (fun k hk s => ⟨s, hk⟩)
  have := commit_call T bd bm bsn s s2 l l2 st d (fun k => S k ∧ k < w.heap.size) _ log w1 (hL.grow hb) ht he
    (fun x hx a ha => by
      rcases hin x hx with hx | hx
      · exact .inl (hL.inE x hx a ha)
      · exact .inr (hx a ha))
    (progBelow hP0 hb) hl.ok (by omega) (fun h' => h.nT h'.1) (fun h' => h.nm h'.1) (fun h' => h.nn h'.1) (fun k hk hs => hk.elim (fun hk => h.dj k hk hs.1) (fun hk => by omega)) (by omega) (by omega) (by omega) (by omega) (by omega)
    (fun x hx => by have := (n2 _ (hin1 x hx)).2; omega) (fun x hx => ⟨(e1 _ (hin2 x hx)).1, (e1 _ (hin2 x hx)).2.1⟩) (fun x hx => (e1 _ (hin2 x hx)).2.2) (by rw [his]; exact c5) (by rw [his]; exact c6)
  rw [his] at this
  refine this.mono ?_
  rintro e' w' ⟨rfl, hp, hk⟩
  exact ⟨by rw [c1], hp.low hb, hk.low hb⟩
set_option maxHeartbeats 400000 in
theorem settle_lsu (T bd bm bsn : Nat) (s : Sl) (l : List Tr) (d : Dk) (st : Ls) (S E : Nat → Prop) (M : Mp) (n c : Nat) (w : World) (h : Lsy w S E T bd bm bsn s l d st) (hl : Lsu d st M n c Q) (hn : n ≤ 110) (hc : c ≤ 1000000000) :
    Calls Tryz.prog 118 #[.pointer (some ⟨T, 0, none⟩), slV s, .int .i64 st.log] w fun e w' => e = .returned (.int .i64 0) ∧ CmPost w w' S E T bd bm bsn (settleX d st st.tabs st.log) ∧ Kp (fun k => S k ∨ k = T ∨ k = bm) w w' := by
  have hL := h.at_
  have hlen : l.length = st.tabs.length := by rw [← hL.is]; simp
  have hfew := hl.few
  have hents := hl.ents
  have hlog := hl.log
  have hnx := hl.next
  obtain ⟨n1, n2, n3⟩ := hl.num
  obtain ⟨r1, r2⟩ := hl.room hn
  obtain ⟨e1, e2, e3⟩ := hl.shape.each hl hn hc
  obtain ⟨hR, c1, _⟩ := hl.commit hn hc hl.shape
  obtain ⟨_, _, _, _, c5, c6⟩ := Rm.commit (s := st) st.log hR (by omega)
  have hin : ∀ x ∈ l, x.1 ∈ st.tabs := fun x hx => by rw [← hL.is]; exact List.mem_map.2 ⟨x, hx, rfl⟩
  have hI : ShI w w s l st.policy st.kept 1000 s l := ⟨hL.tab, hL.es, Below.refl _ _, by omega, by rw [hL.is]; omega, fun x hx e he => (hl.tok _ (hin x hx) e he).1, fun x hx => by have := hl.lev _ (hin x hx); omega, rfl, .inl ⟨rfl, rfl⟩, fun x hx => .inl hx⟩
  have hS := settle_any T bd bm bsn s s l l st d S E st.log 1000 w hL hI (by omega) hl.pol hL.inE h.prog hl.ok (by omega) h.nT h.nm h.nn h.dj (by omega) (by omega) (by omega) (by omega)
    (fun x hx => by have := (n2 _ (hin x hx)).2; omega)
    (fun t ht => by rw [hL.is] at ht; exact e1 t ht)
    (by rw [hL.is]; exact c5) (by rw [hL.is]; exact c6) (by rw [hL.is, c1]; decide)
  rw [hL.is] at hS
  have h0 := (hl.settle hn hc).1
  rw [h0] at hS
  exact hS
set_option maxHeartbeats 400000 in
theorem flush_lsu (T bd bm bsn : Nat) (s : Sl) (l : List Tr) (d : Dk) (st : Ls) (S E : Nat → Prop) (M : Mp) (n c : Nat) (w : World) (h : Lsy w S E T bd bm bsn s l d st) (hl : Lsu d st M n c Q) (hn : n ≤ 110) (hc : c ≤ 1000000000) :
    Calls Tryz.prog 67 #[.pointer (some ⟨T, 0, none⟩)] w fun e w' => e = .returned (.int .i64 0) ∧ CmPost w w' S E T bd bm bsn (flushX d st) ∧ Kp (fun k => S k ∨ k = T ∨ k = bm) w w' := by
  have hL := h.at_
  by_cases hm : st.mem = []
  · have e : flushX d st = settleX d st st.tabs st.log := by unfold flushX; rw [if_pos (by simp [hm])]
    rw [e]
    refine flush_empty T bd bm bsn s l st E w _ hL hm ((settle_lsu T bd bm bsn s l d st S E M n c w.drew (h.below ((Below.refl _ w).drew)) hl hn hc).mono ?_)
    rintro e' w' ⟨rfl, hp, hk⟩
    exact ⟨⟨_, rfl⟩, rfl, hp, (Kp.of_below (S := fun k => S k ∨ k = T ∨ k = bm) ((Below.refl _ w).drew)).trans hk (fun _ _ h => h)⟩
  · have hlen : l.length = st.tabs.length := by rw [← hL.is]; simp
    have hfew := hl.few
    have hents := hl.ents
    have hlog := hl.log
    have hnx := hl.next
    obtain ⟨n1, n2, n3⟩ := hl.num
    obtain ⟨r1, r2⟩ := hl.room hn
    have hin : ∀ x ∈ l, x.1 ∈ st.tabs := fun x hx => by rw [← hL.is]; exact List.mem_map.2 ⟨x, hx, rfl⟩
    have hCm := hl.flushC hm
    obtain ⟨e1, e2, e3⟩ := hCm.each hl hn hc
    obtain ⟨hR, c1, _⟩ := hl.commit hn hc hCm
    obtain ⟨_, _, _, _, c5, c6⟩ := Rm.commit (s := st) (st.log + 1) hR (by omega)
    obtain ⟨hst, _, _, _⟩ := hl.stpF hm
    have het : tabF0 st = l.map (·.1) ++ (if (needL st.kept l.isEmpty (mergeL [flatM st.mem])).isEmpty then [] else [⟨0, 0, needL st.kept l.isEmpty (mergeL [flatM st.mem])⟩]) := by
      have e1 : st.tabs.isEmpty = l.isEmpty := by rw [← hL.is]; simp
      rw [tabF0_is, hL.is]
      unfold esF
      rw [e1]
    have hml := hl.memlen
    have e : flushX d st = settleX d st (tabF0 st) (st.log + 1) := by
      unfold flushX
      rw [if_neg (by simpa using hm)]
      rfl
    have h0 := (hl.flush hn hc).1
    rw [e] at h0 ⊢
    refine flush_some T bd bm bsn s l st E l.isEmpty w _ hL hm hl.mok.1 (by omega) (by omega) (fun x hx => hl.keylen x hx) (by omega) (by omega) rfl ?_
    intro w1 s2 l2 hF2
    have his : l2.map (·.1) = tabF0 st := by rw [hF2.is, het]
    have hll2 : l2.length = (tabF0 st).length := by rw [← his]; simp
    have hin2 : ∀ x ∈ l2, x.1 ∈ tabF0 st := fun x hx => by rw [← his]; exact List.mem_map.2 ⟨x, hx, rfl⟩
    have hl0 := hst.len
    have hI : ShI w1 w1 s2 l2 st.policy st.kept 1000 s2 l2 := ⟨hF2.at_, hF2.es_, Below.refl _ _, by omega, by rw [his]; have := hst.ents; omega, fun x hx e he => (hst.ok _ (hin2 x hx) e he).1, fun x hx => by have := hst.top _ (hin2 x hx); omega, rfl, .inl ⟨rfl, rfl⟩, fun x hx => .inl hx⟩
    have hP0 : ProgAt w (fun k => S k ∧ k < w.heap.size) bd d := h.prog.mono (fun k hk s => ⟨s, hk⟩)
    have hG := hL.grow hF2.bel
    have hSt := settle_any T bd bm bsn s s2 l l2 st d (fun k => S k ∧ k < w.heap.size) _ (st.log + 1) 1000 w1 hG hI (by omega) hl.pol
      (fun x hx a ha => by
        rcases hF2.each x hx with hx | hx
        · exact .inl (hL.inE x hx a ha)
        · exact .inr (hx a ha))
      (progBelow hP0 hF2.bel) hl.ok (by omega) (fun h' => h.nT h'.1) (fun h' => h.nm h'.1) (fun h' => h.nn h'.1) (fun k hk hs => hk.elim (fun hk => h.dj k hk hs.1) (fun hk => by omega)) (by omega) (by omega) (by omega) (by omega)
      (fun x hx => by have := (n2 _ (hin x hx)).2; omega)
      (fun t ht => by rw [his] at ht; exact e1 t ht)
      (by rw [his]; exact c5) (by rw [his]; exact c6) (by rw [his, c1]; decide)
    rw [his] at hSt
    refine hSt.mono ?_
    rintro e' w' ⟨rfl, hp, hk⟩
    exact ⟨⟨_, rfl⟩, by rw [h0], hp.low hF2.bel, hk.low hF2.bel⟩
theorem tend_lsu (T bd bm bsn : Nat) (s : Sl) (l : List Tr) (d : Dk) (st : Ls) (S E : Nat → Prop) (M : Mp) (n c : Nat) (w : World) (h : Lsy w S E T bd bm bsn s l d st) (hl : Lsu d st M n c Q) (hn : n ≤ 110) (hc : c ≤ 1000000000) :
    Calls Tryz.prog 102 #[.pointer (some ⟨T, 0, none⟩)] w fun e w' => e = .returned (.int .i64 0) ∧ CmPost w w' S E T bd bm bsn (tendX d st) ∧ Kp (fun k => S k ∨ k = T ∨ k = bm) w w' := by
  by_cases h4 : 4096 ≤ st.len
  · have e : tendX d st = (0, (flushX d st).2) := by
      unfold tendX
      simp only
      rw [if_pos h4, (hl.flush hn hc).1]; rfl
    rw [e]
    exact tend_flush T bd bm bsn s l st E 0 w _ h.at_ h4 (flush_lsu T bd bm bsn s l d st S E M n c w h hl hn hc)
  · have e : tendX d st = (0, (settleX d st st.tabs st.log).2) := by
      unfold tendX
      simp only
      rw [if_neg h4, (hl.settle hn hc).1]; rfl
    rw [e]
    refine tend_settle T bd bm bsn s l st E 0 w _ h.at_ h4 ((settle_lsu T bd bm bsn s l d st S E M n c w.drew (h.below ((Below.refl _ w).drew)) hl hn hc).mono ?_)
    rintro e' w' ⟨rfl, hp, hk⟩
    exact ⟨rfl, hp, (Kp.of_below (S := fun k => S k ∨ k = T ∨ k = bm) ((Below.refl _ w).drew)).trans hk (fun _ _ h => h)⟩
end Go.Proofs.YtoabedkcieindabGreatDoor

namespace Go.Proofs.YtoabedkcieindabGreatDoor
open Go.RowKit Go.Maps Go.Sort Go.Shelf
variable {Q : Sq}
theorem Lsu.lwr {d : Dk} {s : Ls} {M : Mp} {n c : Nat} (h : Lsu d s M n c Q) : lwritable d.turn d.dead s = 0 ∧ lready d.turn d.dead s = 0 := by
  have h1 : lready d.turn d.dead s = 0 := by unfold lready; rw [if_neg (by simp [h.turn]), h.stl.al]; rfl
  exact ⟨by unfold lwritable; rw [h1, h.stk]; rfl, h1⟩
theorem Lsu.loglen {d : Dk} {s : Ls} {M : Mp} {n c : Nat} (h : Lsu d s M n c Q) : s.len ≤ 88 * n := by
  obtain ⟨bs, m, hl, e, hb⟩ := h.lin
  have := logOf_len (bs := bs) hl.dur.says.bok
  omega
theorem Lsu.batchX {d : Dk} {s : Ls} {M : Mp} {n c : Nat} (h : Lsu d s M n c Q) (hc : c ≤ 1000000000) {l : List Ox} (hb : batchOk l = true) (hn : n + l.length ≤ 110) :
    lbatchX d s l = (0, (tendX (d.write (lgN s.log) (encode l)).2 (withB s l)).2) ∧ Lsu (lbatchX d s l).2.1 (lbatchX d s l).2.2 (doAll M l) (n + l.length) (c + 1) Q := by
  obtain ⟨a1, a2⟩ := h.append hb hn
  obtain ⟨t1, t2⟩ := a2.tend hn hc
  have e : lbatchX d s l = (0, (tendX (d.write (lgN s.log) (encode l)).2 (withB s l)).2) := by
    unfold lbatchX
    rw [if_neg (by rw [h.writ]; simp), if_neg (by rw [hb]; simp)]
    simp only
    rw [if_neg (by rw [a1]; simp)]
    unfold outX
    have hs : ({ s with loose := true, len := s.len + (encode l).length, batch := s.batch + 1, mem := doM (s.batch + 1) s.lastSnap s.mem l } : Ls) = withB s l := rfl
    rw [hs, t2.stl.al, t1]
    rfl
  rw [e]
  exact ⟨rfl, t2⟩
set_option maxHeartbeats 400000 in
set_option maxRecDepth 20000 in
theorem sFlush_lsu (T bd bm bsn : Nat) (s : Sl) (l : List Tr) (d : Dk) (st : Ls) (S E : Nat → Prop) (M : Mp) (n c : Nat) (w : World) (h : Lsy w S E T bd bm bsn s l d st) (hl : Lsu d st M n c Q) (hn : n ≤ 110) (hc : c ≤ 1000000000) :
    Calls Tryz.prog 40 #[.pointer (some ⟨T, 0, none⟩)] w fun e w' => e = .returned (.int .i64 0) ∧ CmPost w w' S E T bd bm bsn (flushX d st) ∧ Kp (fun k => S k ∨ k = T ∨ k = bm) w w' := by
  obtain ⟨dm, dr, df, hd, _⟩ := h.prog.raw
  have hw := lWritable_any h.at_ hd
  rw [hl.lwr.1] at hw
  have hal := (hl.flush hn hc).2.stl.al
  have hF := fun w1 (hb : Below w.heap.size w w1) => flush_lsu T bd bm bsn s l d st S E M n c w1 (h.below hb) hl hn hc
  generalize flushX d st = X at *
  clear hd
  go_enter Tryz.func40, Tryz.ntmps40
  go_wp2_with (first
    | (go_at_call 53; refine hw.mono ?_; rintro e w1 ⟨rfl, hb1⟩; have hF1 := hF w1 hb1; clear hw hF)
    | (go_at_call 67; refine hF1.mono ?_; rintro e w2 ⟨rfl, hc2, hk2⟩; obtain ⟨S', E', s', l', h1', h2', h3', h4', h5', h6', hP2, hL2⟩ := id hc2; obtain ⟨m2, r2, f2, hd2, _⟩ := hP2.raw; rw [hal] at hd2; have hO := outcome_any (e0 := 0) (hL2.cell 0) hd2; simp only [Bool.false_eq_true, if_false] at hO; clear h1' h2' h3' h4' h5' h6' hP2 hL2 hd2 hF1 hal)
    | (go_at_call 54; refine hO.mono ?_; rintro e w3 ⟨rfl, rfl⟩))
  go_ret
  exact ⟨rfl, hc2.up hb1.size, (Kp.of_below (S := fun k => S k ∨ k = T ∨ k = bm) hb1).trans hk2 (fun _ _ h => h)⟩
set_option maxHeartbeats 1000000 in
set_option maxRecDepth 20000 in
theorem sBatch_lsu (T bd bm bsn : Nat) (s : Sl) (l : List Tr) (d : Dk) (st : Ls) (S E : Nat → Prop) (M : Mp) (n c : Nat) (q : Option Addr) (qc : Nat) (ops : List Ox) (w : World) (h : Lsy w S E T bd bm bsn s l d st) (hl : Lsu d st M n c Q) (hc : c ≤ 1000000000) (hb : batchOk ops = true) (hn : n + ops.length ≤ 110) (hk : OxLen ops) (hp : Opp w q ops) (hq : ∀ a, q = some a → 0 < ops.length → ¬ S a.block ∧ a.block ≠ T) :
    Calls Tryz.prog 51 #[.pointer (some ⟨T, 0, none⟩), .slice q ops.length qc] w fun e w' => e = .returned (.int .i64 0) ∧ CmPost w w' S E T bd bm bsn (lbatchX d st ops) ∧ Kp (fun k => S k ∨ k = T ∨ k = bm) w w' := by
  obtain ⟨eX, hlX⟩ := hl.batchX hc hb hn
  obtain ⟨a1, a2⟩ := hl.append hb hn
  obtain ⟨dm, dr, df, hd, _⟩ := h.prog.raw
  have hw := lWritable_any h.at_ hd
  rw [hl.lwr.1] at hw
  clear hd
  have hbl := batchOk_iff.1 hb
  have hbo := (body_len hb).2
  have hel := encode_len ops
  have hib := fun w1 (hb1 : Below w.heap.size w w1) => isBatch_any q qc ops w1 (by omega) hk (hp.below hb1)
  rw [hb] at hib
  have hen := fun w1 (hb1 : Below w.heap.size w w1) => Encode_any q qc ops w1 hb (hp.below hb1)
  have hlg := hl.log
  have hlN := fun w1 => logName_any st.log w1 (by omega)
  obtain ⟨r1, r2⟩ := hl.room (by omega)
  have hfew := hl.few
  have hP0 : ProgAt w (fun k => S k ∧ k < w.heap.size) bd d := h.prog.mono (fun k hk s => ⟨s, hk⟩)
  have hWr := fun w4 (hb4 : Below w.heap.size w w4) => dWrite_any bd d (lgN st.log) (encode ops) (fun k => S k ∧ k < w.heap.size) w4 (progBelow hP0 hb4) hl.ok (by omega) (by have := lgN_ok st.log; simp only [nameOk, Bool.and_eq_true, decide_eq_true_eq] at this; omega) (by omega)
  rw [a1] at hWr
  have c0 := h.at_.cell 0
  have c6 := h.at_.cell 6
  have HLB : Hid (lbatchX d st ops = (0, (tendX (d.write (lgN st.log) (encode ops)).2 (withB st ops)).2)) := eX
  have hOL : ops.length ≤ 8 := hbl.1.2
  have hop := hbl.2
  have hel' : (encode ops).length ≤ 1000000 := by omega
  clear eX a1 hbl hbo r1 r2 hfew hel
  generalize hD : (d.write (lgN st.log) (encode ops)).2 = d1 at *
  generalize hTX : encode ops = tx at *
  have HTX : Hid (encode ops = tx) := hTX
  have hlen5 := hl.loglen
  have hbat := hl.bat
  clear hD hb hTX
  go_enter Tryz.func51, Tryz.ntmps51
  go_wp2_with (first
    | (go_at_call 53; refine hw.mono ?_; rintro e w1 ⟨rfl, hb1⟩; have hib1 := hib w1 hb1; clear hw hib)
    | (go_at_call 97; refine hib1.mono ?_; rintro e w2 ⟨rfl, hb2⟩; have hB2 := hb1.trans (hb2.mono hb1.size); have hen2 := hen w2 hB2; clear hib1 hen)
    | (go_at_call 98; refine hen2.mono ?_; rintro e w3 ⟨rfl, hb3⟩; have hB3 := hB2.trans (hb3.mono hB2.size); clear hen2 hB2 hb1 hb2 hb3))
  have hB3d : Below w.heap.size w w3.drew := hB3.trans ((Below.refl _ w3).drew.mono hB3.size)
  refine wp_calm ?_
  refine wp_region_E (S := fun w' => w'.cell? ⟨T, 0, none⟩ = some (.pointer (some ⟨bd, 0, none⟩)) ∧ w'.cell? ⟨T, 6, none⟩ = some (.int .i64 st.log)) mixedP ?_
  have hc : w3.drew.cell? ⟨T, 0, none⟩ = some (.pointer (some ⟨bd, 0, none⟩)) ∧ w3.drew.cell? ⟨T, 6, none⟩ = some (.int .i64 st.log) := ⟨cell_below hB3d c0, cell_below hB3d c6⟩
  refine wpAnyE_take (i := 0) (L := 1) (v := .pointer (some ⟨T, 0, none⟩)) rfl rfl (by decide) (by kernel_rfl) (by kernel_rfl) (by kernel_rfl) (by kernel_rfl) (by kernel_rfl) (fun _ _ _ h => h) (Or.inl ⟨by rfl, fun w' hS => ?_⟩) hc ?_
  · go_simp
  refine wpAnyE_take (i := 1) (L := 2) (v := .pointer (some ⟨T, 0, none⟩)) rfl rfl (by decide) (by kernel_rfl) (by kernel_rfl) (by kernel_rfl) (by kernel_rfl) (by kernel_rfl) (fun _ _ _ h => h) (Or.inl ⟨by rfl, fun w' hS => ?_⟩) hc ?_
  · go_simp
  refine wpAnyE_take (i := 2) (L := 3) (v := .pointer (some ⟨T, 0, none⟩)) rfl rfl (by decide) (by kernel_rfl) (by kernel_rfl) (by kernel_rfl) (by kernel_rfl) (by kernel_rfl) (fun _ _ _ h => h) (Or.inl ⟨by rfl, fun w' hS => ?_⟩) hc ?_
  · go_simp
  refine wpAnyE_take (i := 3) (L := 10) (v := .pointer (some ⟨bd, 0, none⟩)) rfl rfl (by decide) (by kernel_rfl) (by kernel_rfl) (by kernel_rfl) (by kernel_rfl) (by kernel_rfl) (fun _ _ _ h => h) (Or.inl ⟨by rfl, fun w' hS => ?_⟩) hc ?_
  · obtain ⟨u0, u6⟩ := hS; go_simp
  refine wpAnyE_take (i := 4) (L := 5) (v := .pointer (some ⟨T, 0, none⟩)) rfl rfl (by decide) (by kernel_rfl) (by kernel_rfl) (by kernel_rfl) (by kernel_rfl) (by kernel_rfl) (fun _ _ _ h => h) (Or.inl ⟨by rfl, fun w' hS => ?_⟩) hc ?_
  · go_simp
  refine wpAnyE_take (i := 5) (L := 6) (v := .pointer (some ⟨T, 0, none⟩)) rfl rfl (by decide) (by kernel_rfl) (by kernel_rfl) (by kernel_rfl) (by kernel_rfl) (by kernel_rfl) (fun _ _ _ h => h) (Or.inl ⟨by rfl, fun w' hS => ?_⟩) hc ?_
  · go_simp
  refine wpAnyE_take (i := 6) (L := 7) (v := .pointer (some ⟨T, 6, none⟩)) rfl rfl (by decide) (by kernel_rfl) (by kernel_rfl) (by kernel_rfl) (by kernel_rfl) (by kernel_rfl) (fun _ _ _ h => h) (Or.inl ⟨by rfl, fun w' hS => ?_⟩) hc ?_
  · go_simp
  refine wpAnyE_take (i := 7) (L := 8) (v := .int .i64 st.log) rfl rfl (by decide) (by kernel_rfl) (by kernel_rfl) (by kernel_rfl) (by kernel_rfl) (by kernel_rfl) (fun _ _ _ h => h) (Or.inl ⟨by rfl, fun w' hS => ?_⟩) hc ?_
  · obtain ⟨u0, u6⟩ := hS; go_simp
  refine wpAnyE_take (i := 9) (L := 10) (v := str tx) rfl rfl (by decide) (by kernel_rfl) (by kernel_rfl) (by kernel_rfl) (by kernel_rfl) (by kernel_rfl) (fun _ _ _ h => h) (Or.inl ⟨by rfl, fun w' hS => ?_⟩) hc ?_
  · go_simp
  refine wpAnyE_one (i := 8) (by kernel_rfl) rfl (by rfl) (fun K hK => ?_)
  go_simp
  refine (hlN _).mono ?_
  rintro e w4 ⟨rfl, hb4⟩
  have hB4 := hB3d.trans (hb4.mono hB3d.size)
  refine hK.out _ _ ⟨cell_below hB4 c0, cell_below hB4 c6⟩ ?_
  clear hK
  refine wpAnyE_one (i := 10) (by kernel_rfl) rfl (by rfl) (fun K hK => ?_)
  go_simp
  refine (hWr w4 hB4).mono ?_
  rintro e w5 ⟨rfl, hP5, k5⟩
  have hL5 : LsAt w5 E T bd bm bsn s l st := (h.at_.below hB4).kept k5 (fun x => h.nT x.1) (fun x => h.nm x.1) (fun x => h.nn x.1) (fun k hk x => h.dj k hk x.1)
  refine hK.out _ _ ⟨hL5.cell 0, hL5.cell 6⟩ ?_
  clear hK
  refine wpAnyE_last (i := 11) (by kernel_rfl) rfl (by rfl) (by kernel_rfl) (by kernel_rfl) (fun K hK => ?_)
  go_simp
  refine hK.out _ _ ?_
  clear hK hc hWr hlN c0 c6
  have c7 : w5.cell? ⟨T, 7, none⟩ = some (.int .i64 st.len) := hL5.cell 7
  have c8 : w5.cell? ⟨T, 8, none⟩ = some (.int .i64 st.batch) := hL5.cell 8
  have c11 : w5.cell? ⟨T, 11, none⟩ = some (.bool st.loose) := hL5.cell 11
  have z7 := hL5.frozen 7
  have z8 := hL5.frozen 8
  have z11 := hL5.frozen 11
  go_wp2
  have hL8f := fun W8 (k8 : Kp (fun i => i = T) w5 W8) (hb8 : W8.heap[T]? = some (lsC bd bm bsn s { withB st ops with mem := st.mem })) => hL5.recell (st' := { withB st ops with mem := st.mem }) k8 hb8 rfl rfl rfl
  have k8 : Kp (fun i => i = T) w5 (((w5.setCell ⟨T, 11, none⟩ (.bool true)).setCell ⟨T, 7, none⟩ (.int .i64 (↑st.len + ↑tx.length))).setCell ⟨T, 8, none⟩ (.int .i64 (st.batch + 1))) := ((Kp.set1 w5 T 11 _).trans (Kp.set1 _ T 7 _) (fun _ _ h => h)).trans (Kp.set1 _ T 8 _) (fun _ _ h => h)
  have hb8 : (((w5.setCell ⟨T, 11, none⟩ (.bool true)).setCell ⟨T, 7, none⟩ (.int .i64 (↑st.len + ↑tx.length))).setCell ⟨T, 8, none⟩ (.int .i64 (st.batch + 1))).heap[T]? = some (lsC bd bm bsn s { withB st ops with mem := st.mem }) := by
    have := block_set (j := 8) (block_set (j := 7) (block_set (j := 11) hL5.blk (.bool true)) (.int .i64 (↑st.len + ↑tx.length))) (.int .i64 (st.batch + 1))
    rw [this]
    simp [lsC, withB, HTX.out]
  generalize ((w5.setCell ⟨T, 11, none⟩ (.bool true)).setCell ⟨T, 7, none⟩ (.int .i64 (↑st.len + ↑tx.length))).setCell ⟨T, 8, none⟩ (.int .i64 (st.batch + 1)) = w8 at *
  have hL8 := hL8f w8 k8 hb8
  have hL8d := hL8.below ((Below.refl _ w8).drew)
  clear hL8f c7 c8 c11 z7 z8 z11
  have hLS := lastSnap_any T bsn st.snaps w8.drew (hL8d.cell 9) hL8d.snp
  have hents := hl.ents
  have hml := hl.memlen
  refine wp_calm ?_
  refine wp_region_E (S := fun w' => w'.cell? ⟨T, 3, none⟩ = some (.map (some bm)) ∧ w'.cell? ⟨T, 8, none⟩ = some (.int .i64 (st.batch + 1))) mixedP ?_
  have hc : w8.drew.cell? ⟨T, 3, none⟩ = some (.map (some bm)) ∧ w8.drew.cell? ⟨T, 8, none⟩ = some (.int .i64 (st.batch + 1)) := ⟨hL8d.cell 3, hL8d.cell 8⟩
  refine wpAnyE_take (i := 0) (L := 1) (v := .pointer (some ⟨T, 0, none⟩)) rfl rfl (by decide) (by kernel_rfl) (by kernel_rfl) (by kernel_rfl) (by kernel_rfl) (by kernel_rfl) (fun _ _ _ h => h) (Or.inl ⟨by rfl, fun w' hS => ?_⟩) hc ?_
  · go_simp
  refine wpAnyE_take (i := 1) (L := 2) (v := .pointer (some ⟨T, 0, none⟩)) rfl rfl (by decide) (by kernel_rfl) (by kernel_rfl) (by kernel_rfl) (by kernel_rfl) (by kernel_rfl) (fun _ _ _ h => h) (Or.inl ⟨by rfl, fun w' hS => ?_⟩) hc ?_
  · go_simp
  refine wpAnyE_take (i := 2) (L := 3) (v := .pointer (some ⟨T, 3, none⟩)) rfl rfl (by decide) (by kernel_rfl) (by kernel_rfl) (by kernel_rfl) (by kernel_rfl) (by kernel_rfl) (fun _ _ _ h => h) (Or.inl ⟨by rfl, fun w' hS => ?_⟩) hc ?_
  · go_simp
  refine wpAnyE_take (i := 3) (L := 11) (v := .map (some bm)) rfl rfl (by decide) (by kernel_rfl) (by kernel_rfl) (by kernel_rfl) (by kernel_rfl) (by kernel_rfl) (fun _ _ _ h => h) (Or.inl ⟨by rfl, fun w' hS => ?_⟩) hc ?_
  · obtain ⟨u3, u8⟩ := hS; go_simp
  refine wpAnyE_take (i := 4) (L := 11) (v := .slice q ops.length qc) rfl rfl (by decide) (by kernel_rfl) (by kernel_rfl) (by kernel_rfl) (by kernel_rfl) (by kernel_rfl) (fun _ _ _ h => h) (Or.inl ⟨by rfl, fun w' hS => ?_⟩) hc ?_
  · go_simp
  refine wpAnyE_take (i := 5) (L := 6) (v := .pointer (some ⟨T, 0, none⟩)) rfl rfl (by decide) (by kernel_rfl) (by kernel_rfl) (by kernel_rfl) (by kernel_rfl) (by kernel_rfl) (fun _ _ _ h => h) (Or.inl ⟨by rfl, fun w' hS => ?_⟩) hc ?_
  · go_simp
  refine wpAnyE_take (i := 6) (L := 7) (v := .pointer (some ⟨T, 0, none⟩)) rfl rfl (by decide) (by kernel_rfl) (by kernel_rfl) (by kernel_rfl) (by kernel_rfl) (by kernel_rfl) (fun _ _ _ h => h) (Or.inl ⟨by rfl, fun w' hS => ?_⟩) hc ?_
  · go_simp
  refine wpAnyE_take (i := 7) (L := 8) (v := .pointer (some ⟨T, 8, none⟩)) rfl rfl (by decide) (by kernel_rfl) (by kernel_rfl) (by kernel_rfl) (by kernel_rfl) (by kernel_rfl) (fun _ _ _ h => h) (Or.inl ⟨by rfl, fun w' hS => ?_⟩) hc ?_
  · go_simp
  refine wpAnyE_take (i := 8) (L := 11) (v := .int .i64 (st.batch + 1)) rfl rfl (by decide) (by kernel_rfl) (by kernel_rfl) (by kernel_rfl) (by kernel_rfl) (by kernel_rfl) (fun _ _ _ h => h) (Or.inl ⟨by rfl, fun w' hS => ?_⟩) hc ?_
  · obtain ⟨u3, u8⟩ := hS; go_simp
  refine wpAnyE_take (i := 9) (L := 10) (v := .pointer (some ⟨T, 0, none⟩)) rfl rfl (by decide) (by kernel_rfl) (by kernel_rfl) (by kernel_rfl) (by kernel_rfl) (by kernel_rfl) (fun _ _ _ h => h) (Or.inl ⟨by rfl, fun w' hS => ?_⟩) hc ?_
  · go_simp
  refine wpAnyE_one (i := 10) (by kernel_rfl) rfl (by rfl) (fun K hK => ?_)
  go_simp
  refine hLS.mono ?_
  rintro e w9 ⟨rfl, hb9⟩
  have hB9 : Below w8.heap.size w8 w9 := (Below.refl _ w8).drew.trans hb9
  have hL9 := hL8.below hB9
  refine hK.out _ _ ⟨hL9.cell 3, hL9.cell 8⟩ ?_
  clear hK
  have hp9 : Opp w9 q ops := ((((hp.below hB4).kept k5 (fun a ha h0 hs => (hq a ha h0).1 hs.1)).kept k8 (fun a ha h0 => (hq a ha h0).2)).below hB9)
  have hMd := mdo_any bm E st.mem q qc ops (st.batch + 1) st.lastSnap w9 hL9.mem (by omega) (by omega) (by omega) hop hp9
  refine wpAnyE_last (i := 11) (by kernel_rfl) rfl (by rfl) (by kernel_rfl) (by kernel_rfl) (fun K hK => ?_)
  go_simp
  refine hMd.mono ?_
  rintro e w10 ⟨rfl, hm10, k10⟩
  refine hK.out _ _ ?_
  clear hK hc hMd hLS
  have hsn : (withB st ops).mem = doM (st.batch + 1) st.lastSnap st.mem ops := rfl
  rw [← hsn] at hm10
  obtain ⟨S1, E1, hY, q1, q2, q3, k110⟩ := batch_mid (st1 := withB st ops) h hB4 hP5 k5 k8 hb8 rfl rfl hB9 hm10 (fun x hx => (a2.mok.2 x hx).2.1) k10
  have hTd := tend_lsu T bd bm bsn s l d1 (withB st ops) S1 E1 _ _ c w10 hY a2 hn hc
  have hTl := a2.tend hn hc
  have hal := hTl.2.stl.al
  have z10 := k110.size
  generalize tendX d1 (withB st ops) = X at *
  clear hL5 hL8 hL8d hL9 hp9 hm10 k10 k8 k5 hP5
  go_wp2_with (first
    | (go_at_call 102; refine hTd.mono ?_; rintro e w11 ⟨rfl, hc11, k11⟩; obtain ⟨S', E', s', l', h1', h2', h3', h4', h5', h6', hP2, hL2⟩ := id hc11; obtain ⟨m2, r2, f2, hd2, _⟩ := hP2.raw; rw [hal] at hd2; have hO := outcome_any (e0 := 0) (hL2.cell 0) hd2; simp only [Bool.false_eq_true, if_false] at hO; clear h1' h2' h3' h4' h5' h6' hP2 hL2 hd2 hTd hal)
    | (go_at_call 54; refine hO.mono ?_; rintro e w12 ⟨rfl, rfl⟩))
  go_ret
  refine ⟨rfl, ?_, ?_⟩
  · rw [HLB.out]
    exact hc11.via z10 q1 q2
  · exact k110.trans k11 (fun i hi x => x.imp (fun x => q3 i x hi) id)
end Go.Proofs.YtoabedkcieindabGreatDoor









namespace Go.Proofs.YtoabedkcieindabGreatDoor
open Go.RowKit Go.Maps Go.Sort Go.Shelf
variable {Q : Sq}
def fromL (lo : Nm) (M : Mp) : Mp := M.filter fun x => !bytesBefore x.1 lo
def fromE (lo : Nm) (l : Ly) : Ly := l.filter fun e => !bytesBefore e.op.key lo
theorem drop_start {lo : Nm} : ∀ {l : Ly}, srt l → l.drop (startN lo l) = fromE lo l
  | [], _ => rfl
  | e :: r, hs => by
    obtain ⟨h1, h2⟩ := List.pairwise_cons.1 hs
    have ih := drop_start (lo := lo) h2
    unfold startN fromE at *
    rw [List.takeWhile_cons, List.filter_cons]
    cases hb : bytesBefore e.op.key lo with
    | true => simpa using ih
    | false =>
      simp only [Bool.false_eq_true, if_false, List.length_nil, List.drop_zero, Bool.not_false, if_true]
      congr 1
      refine (List.filter_eq_self.2 fun x hx => ?_).symm
      have := le_trans' hb (h1 x hx)
      simp [this]
theorem betL_from {lo : Nm} {l : Ly} (hs : srt l) : betL lo [] l = fromE lo l := by unfold betL; rw [if_pos rfl]; exact drop_start hs
theorem betM_from {lo : Nm} : ∀ {m : Mm}, (∀ x ∈ m, ∀ e ∈ x.2, e.op.key = x.1) → betM lo [] m = fromE lo (flatM m)
  | [], _ => rfl
  | x :: r, h => by
    have ih := betM_from (lo := lo) (m := r) (fun y hy => h y (by simp [hy]))
    have hx := h x (by simp)
    unfold betM fromE flatM at *
    rw [List.filter_cons, List.flatMap_cons, List.filter_append]
    cases hb : bytesBefore x.1 lo with
    | true =>
      have e1 : (x.2.filter fun e => !bytesBefore e.op.key lo) = [] := List.filter_eq_nil_iff.2 fun e he => by rw [hx e he, hb]; simp
      rw [e1, List.nil_append, ← ih]
      simp [okB, hb]
    | false =>
      have e1 : (x.2.filter fun e => !bytesBefore e.op.key lo) = x.2 := List.filter_eq_self.2 fun e he => by rw [hx e he, hb]; rfl
      rw [e1, ← ih]
      simp [okB, hb]
theorem fromE_flat (lo : Nm) (ls : List Ly) : (ls.map (fromE lo)).flatten = fromE lo ls.flatten := by
  induction ls with
  | nil => rfl
  | cons l r ih => rw [List.map_cons, List.flatten_cons, List.flatten_cons, ih]; unfold fromE; rw [List.filter_append]
theorem fromE_srt {lo : Nm} {l : Ly} (h : srt l) : srt (fromE lo l) := List.Pairwise.filter _ h
theorem atK_from (lo k : Nm) (l : Ly) : atK k (fromE lo l) = if bytesBefore k lo then [] else atK k l := by
  unfold atK fromE
  rw [List.filter_filter]
  split
  · rename_i hb
    refine List.filter_eq_nil_iff.2 fun e _ => ?_
    by_cases hk : e.op.key = k
    · rw [hk, hb]; simp
    · simp [hk]
  · rename_i hb
    refine List.filter_congr fun e _ => ?_
    by_cases hk : e.op.key = k
    · rw [hk]; simp [hb]
    · simp [hk]
theorem getF_from (lo k : Nm) : ∀ (M : Mp), getF k (fromL lo M) = if bytesBefore k lo then none else getF k M
  | [] => by simp [fromL, getF]
  | x :: r => by
    have ih := getF_from lo k r
    unfold fromL at *
    rw [List.filter_cons]
    by_cases hx : x.1 = k
    · subst hx
      cases hb : bytesBefore x.1 lo with
      | true => rw [hb] at ih; simpa using ih
      | false => simp [getF]
    · cases hb : bytesBefore x.1 lo with
      | true => simp only [Bool.not_true, Bool.false_eq_true, if_false]; rw [ih]; simp [getF, hx]
      | false => simp only [Bool.not_false, if_true]; rw [getF, if_neg hx, ih]; simp [getF, hx]
theorem fromL_rise {lo : Nm} {M : Mp} (h : rising M) : rising (fromL lo M) := List.Pairwise.filter _ h
theorem Lsu.layFrom {d : Dk} {s : Ls} {M : Mp} {n c : Nat} (h : Lsu d s M n c Q) (lo : Nm) : betM lo [] s.mem :: (newF s.tabs).map (betL lo []) = s.layers.map (fromE lo) := by
  unfold Ls.layers
  rw [List.map_cons, betM_from (fun x hx => (h.mok.2 x hx).2.2)]
  congr 1
  exact List.map_congr_left fun l hl => betL_from (newF_srt h.srt l hl)
theorem Lsu.scanB {d : Dk} {s : Ls} {M : Mp} {n c : Nat} (h : Lsu d s M n c Q) (lo : Nm) {b : Int} {N : Mp} (hrN : rising N) (hvN : ∀ k, viewE b s.layers.flatten k = getF k N) : scanX b lo [] s = fromL lo N := by
  unfold scanX
  rw [h.layFrom]
  have hsr : ∀ l ∈ s.layers.map (fromE lo), Go.Proofs.YtoabedkcieindabGreatDoor.srt l := fun l hl => by
    obtain ⟨x, hx, rfl⟩ := List.mem_map.1 hl
    exact fromE_srt (h.lsrt x hx)
  have hs := mergeL_srt hsr
  refine rising_ext (behF_rise _ _ _ hs) (fromL_rise hrN) (fun k => ?_)
  have hno : ∀ e ∈ mergeL (s.layers.map (fromE lo)), bytesBefore e.op.key [] = false := fun e _ => before_nil _
  have hvw : viewE b (mergeL (s.layers.map (fromE lo))) k = getF k (fromL lo N) := by
    have h2 := view_merge hsr b [] k
    rw [List.append_nil, List.append_nil] at h2
    rw [h2, fromE_flat]
    unfold viewE
    rw [atK_from, getF_from]
    split
    · rfl
    · exact hvN k
  by_cases hk : k = []
  · subst hk
    have h1 : getF [] (behF b [] (mergeL (s.layers.map (fromE lo)))) = none := getF_off fun x hx e => by
      have := behF_key b [] _ hs hno x hx
      rw [e, WideAt.bytes_irrefl] at this
      cases this
    rw [h1, ← hvw]
    unfold viewE
    have : atK [] (mergeL (s.layers.map (fromE lo))) = [] := List.filter_eq_nil_iff.2 fun e he => by
      have h3 := mergeL_mem hsr e he
      rw [fromE_flat] at h3
      have := opOk_ne (h.lok e (List.mem_filter.1 h3).1).1
      simpa using this
    rw [this]; rfl
  · rw [behF_get _ _ _ hs hno k hk, hvw]
theorem Lsu.scan {d : Dk} {s : Ls} {M : Mp} {n c : Nat} (h : Lsu d s M n c Q) (lo : Nm) : scanX s.batch lo [] s = fromL lo M := h.scanB lo h.rise h.view
set_option maxHeartbeats 400000 in
theorem scanB_lsu (T bd bm bsn : Nat) (s : Sl) (l : List Tr) (d : Dk) (st : Ls) (S E : Nat → Prop) (M N : Mp) (n c : Nat) (b : Int) (lo : Nm) (lim : Int) (w : World) (h : Lsy w S E T bd bm bsn s l d st) (hl : Lsu d st M n c Q) (hn : n ≤ 110) (hrN : rising N) (hvN : ∀ k, viewE b st.layers.flatten k = getF k N) (hl0 : 0 ≤ lim) (hl1 : lim ≤ 9223372036854775807) :
    Calls Tryz.prog 74 #[.pointer (some ⟨T, 0, none⟩), .int .i64 b, str lo, str [], .int .i64 lim] w fun e w' => ∃ v, e = .returned (.tuple #[v, .int .i64 0]) ∧ OwnPr w' w.heap.size v ((fromL lo N).take lim.toNat) ∧ Below w.heap.size w w' := by
  have hL := h.at_
  have hents := hl.ents
  have hfew := hl.few
  have hml := hl.memlen
  have hlen : l.length = st.tabs.length := by rw [← hL.is]; simp
  have hin : ∀ x ∈ l, x.1 ∈ st.tabs := fun x hx => by rw [← hL.is]; exact List.mem_map.2 ⟨x, hx, rfl⟩
  have hsr : ∀ l ∈ st.layers.map (fromE lo), srt l := fun l hl' => by
    obtain ⟨x, hx, rfl⟩ := List.mem_map.1 hl'
    exact fromE_srt (hl.lsrt x hx)
  have hmm : ∀ e ∈ mergeL (st.layers.map (fromE lo)), e ∈ st.layers.flatten := fun e he => by
    have h3 := mergeL_mem hsr e he
    rw [fromE_flat] at h3
    exact (List.mem_filter.1 h3).1
  have := scanBehind_any T bd bm bsn s l st E b lo [] lim w hL hl.mok.1 (by omega) (by omega) hl.keylen (by omega) (fun x hx => ⟨by have := entsT_at (hin x hx); omega, hl.srt _ (hin x hx)⟩) hl0 hl1 (by
    rw [hl.layFrom]
    intro e he hg
    have h1 := (hl.lok e (hmm e he)).1
    have h2 := (opOk_key h1).2
    have h3 := opOk_val h1 hg
    exact ⟨by omega, by omega⟩) (by
    rw [hl.layFrom]
    unfold mergeL
    refine Nat.le_trans (mergeF_len _ _) ?_
    rw [fromE_flat]
    have h4 : (fromE lo st.layers.flatten).length ≤ st.layers.flatten.length := List.length_filter_le _ _
    have := hl.laylen
    omega)
  rw [hl.scanB lo hrN hvN] at this
  exact this
theorem sScan_lsu (T bd bm bsn : Nat) (s : Sl) (l : List Tr) (d : Dk) (st : Ls) (S E : Nat → Prop) (M : Mp) (n c : Nat) (lo : Nm) (lim : Int) (w : World) (h : Lsy w S E T bd bm bsn s l d st) (hl : Lsu d st M n c Q) (hn : n ≤ 110) (hl0 : 0 ≤ lim) (hl1 : lim ≤ 9223372036854775807) :
    Calls Tryz.prog 61 #[.pointer (some ⟨T, 0, none⟩), str lo, str [], .int .i64 lim] w fun e w' => ∃ v, e = .returned (.tuple #[v, .int .i64 0]) ∧ OwnPr w' w.heap.size v ((fromL lo M).take lim.toNat) ∧ Below w.heap.size w w' := by
  obtain ⟨dm, dr, df, hd, _⟩ := h.prog.raw
  have := sScan_any T bd bm bsn s l st E lo [] lim w h.at_ hd hl.lwr.2 (fun w1 hb => by rw [hl.scan lo]; exact scanB_lsu T bd bm bsn s l d st S E M M n c st.batch lo lim w1 (h.below hb) hl hn hl.rise hl.view hl0 hl1)
  rw [hl.scan] at this
  exact this
end Go.Proofs.YtoabedkcieindabGreatDoor
