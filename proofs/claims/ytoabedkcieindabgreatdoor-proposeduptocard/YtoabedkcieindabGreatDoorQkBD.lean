import Derived.Test.YtoabedkcieindabGreatDoorQkBC
import Derived.Test.YtoabedkcieindabGreatDoorQkBA
namespace Go.Proofs.YtoabedkcieindabGreatDoor
open Go.RowKit Go.Maps Go.Sort Go.Shelf
variable {Q : Sq}
set_option maxHeartbeats 400000 in
set_option maxRecDepth 20000 in
theorem batchOf_any (T bd bm bsn : Nat) (s : Sl) (l : List Tr) (st : Ls) (E : Nat → Prop) (id : Int) (w : World) (hL : LsAt w E T bd bm bsn s l st) {m r f : Value} {dead : Bool} {t : Int} (hd : w.heap[bd]? = some (.cells #[m, r, f, .bool dead, .int .i64 t] 117)) (h0 : lready t dead st = 0) (hid : I64 id) :
    Calls Tryz.prog 73 #[.pointer (some ⟨T, 0, none⟩), .int .i64 id] w fun e w' => e = .returned (.tuple #[.int .i64 (snB (snF id st.snaps)), .int .i64 (if (snF id st.snaps).isSome then 0 else 8)]) ∧ Below w.heap.size w w' := by
  have hR := lReady_any hL hd
  rw [h0] at hR
  have c9' := hL.cell 9
  have hlk := fun w1 (hb : Below w.heap.size w w1) => (hL.below hb).snp.look hid
  cases hs : snF id st.snaps with
  | none =>
    rw [hs] at hlk
    simp only [snB, Option.isSome_none] at hlk ⊢
    simp only [Bool.false_eq_true, if_false]
    go_enter Tryz.func73, Tryz.ntmps73
    go_wp2_with (go_at_call 56; refine hR.mono ?_; rintro e w1 ⟨rfl, hb1⟩; have c9 : w1.cell? ⟨T, 9, none⟩ = some (.map (some bsn)) := cell_below hb1 c9'; have hlk1 := hlk w1 hb1; clear hR c9' hlk)
    go_ret2
    exact ⟨rfl, hb1⟩
  | some p =>
    rw [hs] at hlk
    simp only [snB, Option.isSome_some] at hlk ⊢
    simp only [if_true]
    go_enter Tryz.func73, Tryz.ntmps73
    go_wp2_with (go_at_call 56; refine hR.mono ?_; rintro e w1 ⟨rfl, hb1⟩; have c9 : w1.cell? ⟨T, 9, none⟩ = some (.map (some bsn)) := cell_below hb1 c9'; have hlk1 := hlk w1 hb1; clear hR c9' hlk)
    go_ret2
    exact ⟨rfl, hb1⟩
theorem LsAt.resnap {w w' : World} {E : Nat → Prop} {T bd bm bsn : Nat} {s : Sl} {l : List Tr} {st st' : Ls} (h : LsAt w E T bd bm bsn s l st) (k : Kp (fun i => i = T ∨ i = bsn) w w') (hb : w'.heap[T]? = some (lsC bd bm bsn s st')) (hs : SnAt w' bsn st'.snaps) (hl : st'.snaps.length ≤ 1000) (hm : st'.mem = st.mem) (ht : st'.tabs = st.tabs) : LsAt w' E T bd bm bsn s l st' := by
  have hTm : T ≠ bm := h.mem.ne h.blk
  have nE : ∀ i, E i → ¬ (i = T ∨ i = bsn) := by
    rintro i hi (e | e)
    · exact h.nE.1 (e ▸ hi)
    · exact h.nE.2.2 (e ▸ hi)
  exact ⟨hb, by rw [hm]; exact h.mem.kept k (by rintro (e | e); exact hTm e.symm; exact h.ne e) nE, hs, hl, h.tab.kept k (fun a ha _ => nE _ (h.inT a ha)), h.es.kept k (fun x hx a ha => nE _ (h.inE x hx a ha)), by rw [ht]; exact h.is, h.inT, h.inE, h.ne, h.nE, fun i hi => Nat.lt_of_lt_of_le (h.bnd i hi) k.size⟩
theorem Lsy.resnap {w w' : World} {S E : Nat → Prop} {T bd bm bsn : Nat} {s : Sl} {l : List Tr} {d : Dk} {st st' : Ls} (h : Lsy w S E T bd bm bsn s l d st) (k : Kp (fun i => i = T ∨ i = bsn) w w') (hb : w'.heap[T]? = some (lsC bd bm bsn s st')) (hs : SnAt w' bsn st'.snaps) (hl : st'.snaps.length ≤ 1000) (hm : st'.mem = st.mem) (ht : st'.tabs = st.tabs) : Lsy w' S E T bd bm bsn s l d st' :=
  ⟨h.prog.kept k (by rintro i hi (e | e); exact h.nT (e ▸ hi); exact h.nn (e ▸ hi)), h.at_.resnap k hb hs hl hm ht, h.dj, h.nT, h.nm, h.nn⟩
def snapL (st : Ls) : Ls := { st with taken := st.taken + 1, snaps := st.snaps ++ [(st.taken + 1, st.batch)] }
set_option maxHeartbeats 1000000 in
set_option maxRecDepth 20000 in
theorem sSnap_any (T bd bm bsn : Nat) (s : Sl) (l : List Tr) (d : Dk) (st : Ls) (S E : Nat → Prop) (w : World) (h : Lsy w S E T bd bm bsn s l d st) (h0 : lready d.turn d.dead st = 0) (hsl : st.snaps.length < 8) (htk : 0 ≤ st.taken ∧ st.taken ≤ 1000000) (hbt : I64 st.batch) (hlt : ∀ p ∈ st.snaps, p.1 < st.taken + 1) :
    Calls Tryz.prog 41 #[.pointer (some ⟨T, 0, none⟩)] w fun e w' => e = .returned (.tuple #[.int .i64 (st.taken + 1), .int .i64 0]) ∧ Lsy w' S E T bd bm bsn s l d (snapL st) ∧ Kp (fun i => i = T ∨ i = bsn) w w' := by
  obtain ⟨dm, dr, df, hd, _⟩ := h.prog.raw
  have hR := lReady_any h.at_ hd
  rw [h0] at hR
  clear hd
  have hbl := hbt
  go_enter Tryz.func41, Tryz.ntmps41
  go_wp2_with (first
    | (go_at_call 56; refine hR.mono ?_; rintro e w1 ⟨rfl, hb1⟩; have h1 := h.below hb1; have c9 : w1.cell? ⟨T, 9, none⟩ = some (.map (some bsn)) := h1.at_.cell 9; have c10 : w1.cell? ⟨T, 10, none⟩ = some (.int .i64 st.taken) := h1.at_.cell 10; have z10 := h1.at_.frozen 10; have hln := h1.at_.snp.own; clear hR)
    | (at_len; refine wpList_len_own _ rfl _ 109 rfl 3 3 Tryz.underlying109 _ bsn _ (datI st.snaps) rfl hln ?_; rw [sizeI]))
  have kT := Kp.set1 w1 T 10 (.int .i64 (st.taken + 1))
  have hbT : (w1.setCell ⟨T, 10, none⟩ (.int .i64 (st.taken + 1))).heap[T]? = some (lsC bd bm bsn s { st with taken := st.taken + 1 }) := by
    rw [block_set h1.at_.blk]; rfl
  have hTn : T ≠ bsn := h1.at_.snp.ne h1.at_.blk
  have hsn2 : SnAt (w1.setCell ⟨T, 10, none⟩ (.int .i64 (st.taken + 1))) bsn st.snaps := h1.at_.snp.kept kT (fun e => hTn e.symm)
  generalize w1.setCell ⟨T, 10, none⟩ (.int .i64 (st.taken + 1)) = w2 at *
  have c9' : w2.cell? ⟨T, 9, none⟩ = some (.map (some bsn)) := cell_block hbT
  have c10' : w2.cell? ⟨T, 10, none⟩ = some (.int .i64 (st.taken + 1)) := cell_block hbT
  have c8' : w2.cell? ⟨T, 8, none⟩ = some (.int .i64 st.batch) := cell_block hbT
  clear c9 c10 z10 hln
  refine wp_region_still_tail 12 mixedP (by kernel_rfl) ?_
  simp only [List.take_succ_cons, List.take_zero, List.drop_succ_cons, List.drop_zero]
  (iterate 12 still_step)
  refine wpStill_nil ?_
  rw [show (⟨w2.heap, w2.tape, w2.drawn + 1, w2.os, w2.output⟩ : World) = w2.drew from rfl]
  have kd : Kp (fun i => i = T ∨ i = bsn) w2 w2.drew := (Kp.refl _ _).drew
  have hsn3 : SnAt w2.drew bsn st.snaps := hsn2.kept ((Kp.refl (fun _ => False) w2).drew) (fun f => f)
  obtain ⟨w3, hrun, hsn4, k3⟩ := hsn3.put (id := st.taken + 1) (b := st.batch) (by unfold I64; omega) hbt (by omega) hlt
  have hb3 : w3.heap[T]? = some (lsC bd bm bsn s { st with taken := st.taken + 1 }) := k3.at (show w2.drew.heap[T]? = _ from hbT) hTn
  have c10'' : w3.cell? ⟨T, 10, none⟩ = some (.int .i64 (st.taken + 1)) := cell_block hb3
  go_wp2
  go_ret2
  have kk : Kp (fun i => i = T ∨ i = bsn) w1 w3 := ((kT.mono (fun _ e => .inl e)).trans kd (fun _ _ e => e)).trans k3 (fun _ _ e => .inr e)
  exact ⟨rfl, h1.resnap kk hb3 hsn4 (by simp [snapL]; omega) rfl rfl, (Kp.of_below (S := fun i => i = T ∨ i = bsn) hb1).trans kk (fun _ _ e => e)⟩
theorem snF_map (id : Int) (q : List (Int × Int × Mp)) : snF id (q.map fun q => (q.1, q.2.1)) = (q.find? fun q => decide (q.1 = id)).map fun q => (q.1, q.2.1) := by
  unfold snF
  rw [List.find?_map]
  rfl
theorem Lsu.found {d : Dk} {s : Ls} {M : Mp} {n c : Nat} (h : Lsu d s M n c Q) {id : Int} {q : Int × Int × Mp} (hq : Q.l.find? (fun q => decide (q.1 = id)) = some q) : snF id s.snaps = some (q.1, q.2.1) ∧ q ∈ Q.l := by
  rw [h.sn, snF_map, hq]
  exact ⟨rfl, List.mem_of_find?_eq_some hq⟩
set_option maxHeartbeats 400000 in
set_option maxRecDepth 20000 in
theorem sScanAt_lsu (T bd bm bsn : Nat) (s : Sl) (l : List Tr) (d : Dk) (st : Ls) (S E : Nat → Prop) (M : Mp) (n c : Nat) (id : Int) (q : Int × Int × Mp) (lo : Nm) (lim : Int) (w : World) (h : Lsy w S E T bd bm bsn s l d st) (hl : Lsu d st M n c Q) (hn : n ≤ 110) (hid : I64 id) (hq : Q.l.find? (fun q => decide (q.1 = id)) = some q) (hl0 : 0 ≤ lim) (hl1 : lim ≤ 9223372036854775807) :
    Calls Tryz.prog 43 #[.pointer (some ⟨T, 0, none⟩), .int .i64 id, str lo, str [], .int .i64 lim] w fun e w' => ∃ v, e = .returned (.tuple #[v, .int .i64 0]) ∧ OwnPr w' w.heap.size v ((fromL lo q.2.2).take lim.toNat) ∧ Below w.heap.size w w' := by
  obtain ⟨dm, dr, df, hd, _⟩ := h.prog.raw
  obtain ⟨f1, f2⟩ := hl.found hq
  obtain ⟨_, u2, u3⟩ := hl.snk q f2
  have hB := batchOf_any T bd bm bsn s l st E id w h.at_ hd hl.lwr.2 hid
  rw [f1] at hB
  simp only [snB, Option.isSome_some, if_true] at hB
  clear hd
  have hS := fun w1 (hb : Below w.heap.size w w1) => scanB_lsu T bd bm bsn s l d st S E M q.2.2 n c q.2.1 lo lim w1 (h.below hb) hl hn u2 u3 hl0 hl1
  generalize (fromL lo q.2.2).take lim.toNat = X at *
  generalize q.2.1 = b at *
  go_enter Tryz.func43, Tryz.ntmps43
  go_wp2_with (first
    | (go_at_call 73; refine hB.mono ?_; rintro e w1 ⟨rfl, hb1⟩; have hS1 := hS w1 hb1; clear hB hS)
    | (go_at_call 74; refine hS1.mono ?_; rintro e w2 ⟨v, rfl, ho, hb2⟩; obtain ⟨a2, k2, rfl⟩ := ho.shape; clear hS1))
  go_ret2
  refine ⟨_, rfl, ?_, hb1.trans (hb2.mono hb1.size)⟩
  exact OwnR.lowP ho hb1.size
def Sq.add (Q : Sq) (b : Int) (M : Mp) : Sq := ⟨Q.tk + 1, Q.l ++ [((Q.tk : Int) + 1, b, M)]⟩
theorem Lsu.snapped {d : Dk} {s : Ls} {M : Mp} {n c : Nat} (h : Lsu d s M n c Q) : Lsu d (snapL s) M n c (Q.add s.batch M) := by
  obtain ⟨bs, m, hL, e1, e2⟩ := h.lin
  refine ⟨⟨bs, m, ⟨hL.dur, hL.cln, hL.rise⟩, e1, e2⟩, h.ok, h.stl, h.qu, h.turn, h.pol, ?_, h.stk, h.mok, h.mop, h.bat, h.rise, h.view, h.srt, h.tok, h.ne, h.lv, h.ents, h.lev, h.few, h.log, h.next, h.mbar, h.tbar, h.lo, ?_, fun q hq => ?_⟩
  · simp [snapL, Sq.add, h.sn, h.tkn]
  · simp [snapL, Sq.add, h.tkn]
  · rcases List.mem_append.1 (show q ∈ Q.l ++ [((Q.tk : Int) + 1, s.batch, M)] from hq) with hq | hq
    · obtain ⟨⟨u0, u1, u2⟩, u3, u4⟩ := h.snk q hq
      exact ⟨⟨u0, u1, by simp only [Sq.add]; omega⟩, u3, u4⟩
    · rw [List.mem_singleton] at hq
      subst hq
      exact ⟨⟨h.bat.1, Int.le_refl _, by simp [Sq.add]⟩, h.rise, h.view⟩
end Go.Proofs.YtoabedkcieindabGreatDoor

namespace Go.Proofs.YtoabedkcieindabGreatDoor
open Go.RowKit Go.Maps Go.Sort Go.Shelf
def Lg (w : World) (U : Nat → Prop) (bx bz : Nat) (M : Mp) (n c : Nat) (Q : Sq) : Prop := ∃ d st, Lx w U bx bz d st ∧ Lsu d st M n c Q
variable {Q : Sq}
theorem Lg.kept {w w' : World} {U V : Nat → Prop} {bx bz : Nat} {M : Mp} {n c : Nat} (h : Lg w U bx bz M n c Q) (k : Kp V w w') (hV : ∀ i, U i → ¬ V i) : Lg w' U bx bz M n c Q := by
  obtain ⟨d, st, h1, h2⟩ := h
  exact ⟨d, st, h1.kept k hV, h2⟩
theorem Lg.below {w w' : World} {U : Nat → Prop} {bx bz : Nat} {M : Mp} {n c : Nat} (h : Lg w U bx bz M n c Q) (k : Below w.heap.size w w') : Lg w' U bx bz M n c Q := h.kept (V := fun _ => False) (Kp.of_below k) (fun _ _ f => f)
theorem Lg.mono {w : World} {U V : Nat → Prop} {bx bz : Nat} {M : Mp} {n c : Nat} (h : Lg w U bx bz M n c Q) (hV : ∀ k, k < w.heap.size → U k → V k) : Lg w V bx bz M n c Q := by
  obtain ⟨d, st, h1, h2⟩ := h
  exact ⟨d, st, h1.mono hV, h2⟩
theorem Lg.up {w : World} {U : Nat → Prop} {bx bz : Nat} {M : Mp} {n c c' : Nat} (h : Lg w U bx bz M n c Q) (hc : c ≤ c') : Lg w U bx bz M n c' Q := by
  obtain ⟨d, st, h1, h2⟩ := h
  exact ⟨d, st, h1, h2.up hc⟩
set_option maxHeartbeats 400000 in
theorem xBatch_lg (bx bz : Nat) (U : Nat → Prop) (M : Mp) (n c : Nat) (q : Option Addr) (qc : Nat) (ops : List Ox) (w : World) (h : Lg w U bx bz M n c Q) (hc : c ≤ 1000000000) (hb : batchOk ops = true) (hn : n + ops.length ≤ 110) (hk : OxLen ops) (hp : Opp w q ops) (hq : ∀ a, q = some a → 0 < ops.length → ¬ U a.block) :
    Calls Tryz.prog 28 #[.pointer (some ⟨bz, 0, none⟩), .slice q ops.length qc] w fun e w' => e = .returned (.int .i64 0) ∧ Lg w' (Nw U w) bx bz (doAll M ops) (n + ops.length) (c + 1) Q ∧ Kp U w w' := by
  obtain ⟨d, st, hx, hl⟩ := h
  obtain ⟨bd, T, bm, bsn, S, E, s, l, h1, h2, h3, h4, h5, h6⟩ := hx.ex
  have hin := sinner_any h2
  have hB := sBatch_lsu T bd bm bsn s l d st S E M n c q qc ops w h6 hl hc hb hn hk hp (fun a ha h0 => ⟨fun x => hq a ha h0 (h5 _ (.inl x)).1, fun e => hq a ha h0 (by rw [e]; exact (h5 T (.inr (.inr (.inl rfl)))).1)⟩)
  have hlX := (hl.batchX hc hb hn).2
  generalize lbatchX d st ops = X at *
  go_enter Tryz.func28, Tryz.ntmps28
  go_wp2_with (first
    | (go_at_call 30; refine hin.mono ?_; rintro e w' ⟨rfl, rfl⟩; clear hin)
    | (go_at_call 51; refine hB.mono ?_; rintro e w1 ⟨rfl, hc1, k1⟩; clear hB))
  go_ret
  obtain ⟨a, b⟩ := Lx.step h1 h2 h3 h4 h5 hc1 k1
  exact ⟨rfl, ⟨_, _, a, hlX⟩, b⟩
set_option maxHeartbeats 400000 in
theorem xFlush_lg (bx bz : Nat) (U : Nat → Prop) (M : Mp) (n c : Nat) (w : World) (h : Lg w U bx bz M n c Q) (hn : n ≤ 110) (hc : c ≤ 1000000000) :
    Calls Tryz.prog 19 #[.pointer (some ⟨bz, 0, none⟩)] w fun e w' => e = .returned (.int .i64 0) ∧ Lg w' (Nw U w) bx bz M n (c + 1) Q ∧ Kp U w w' := by
  obtain ⟨d, st, hx, hl⟩ := h
  obtain ⟨bd, T, bm, bsn, S, E, s, l, h1, h2, h3, h4, h5, h6⟩ := hx.ex
  have hin := sinner_any h2
  have hB := sFlush_lsu T bd bm bsn s l d st S E M n c w h6 hl hn hc
  have hlX := (hl.flush hn hc).2
  generalize flushX d st = X at *
  go_enter Tryz.func19, Tryz.ntmps19
  go_wp2_with (first
    | (go_at_call 30; refine hin.mono ?_; rintro e w' ⟨rfl, rfl⟩; clear hin)
    | (go_at_call 40; refine hB.mono ?_; rintro e w1 ⟨rfl, hc1, k1⟩; clear hB))
  go_ret
  obtain ⟨a, b⟩ := Lx.step h1 h2 h3 h4 h5 hc1 k1
  exact ⟨rfl, ⟨_, _, a, hlX⟩, b⟩
set_option maxHeartbeats 400000 in
theorem xScan_lg (bx bz : Nat) (U : Nat → Prop) (M : Mp) (n c : Nat) (lo : Nm) (lim : Int) (w : World) (h : Lg w U bx bz M n c Q) (hn : n ≤ 110) (hl0 : 0 ≤ lim) (hl1 : lim ≤ 9223372036854775807) :
    Calls Tryz.prog 36 #[.pointer (some ⟨bz, 0, none⟩), str lo, str [], .int .i64 lim] w fun e w' => ∃ v, e = .returned (.tuple #[v, .int .i64 0]) ∧ Below w.heap.size w w' ∧ OwnP w' w.heap.size v ((fromL lo M).take lim.toNat) := by
  obtain ⟨d, st, hx, hl⟩ := h
  obtain ⟨bd, T, bm, bsn, S, E, s, l, h1, h2, h3, h4, h5, h6⟩ := hx.ex
  have hin := sinner_any h2
  have hB := sScan_lsu T bd bm bsn s l d st S E M n c lo lim w h6 hl hn hl0 hl1
  generalize (fromL lo M).take lim.toNat = X at *
  go_enter Tryz.func36, Tryz.ntmps36
  go_wp2_with (first
    | (go_at_call 30; refine hin.mono ?_; rintro e w' ⟨rfl, rfl⟩; clear hin)
    | (go_at_call 61; refine hB.mono ?_; rintro e w1 ⟨v, rfl, ho, hb⟩; obtain ⟨a2, k2, rfl⟩ := ho.shape; clear hB))
  go_ret2
  exact ⟨_, rfl, hb, ho⟩
set_option maxHeartbeats 400000 in
theorem Lx.snap {w w' : World} {U S E : Nat → Prop} {bx bz bd T bm bsn : Nat} {s : Sl} {l : List Tr} {d : Dk} {st' : Ls} (h1 : w.heap[bx]? = some (.cells #[.pointer (some ⟨bd, 0, none⟩)] 80)) (h2 : w.heap[bz]? = some (.cells #[.pointer (some ⟨T, 0, none⟩)] 82)) (h3 : U bx) (h4 : U bz) (h5 : ∀ k, (S k ∨ E k ∨ k = T ∨ k = bm ∨ k = bsn) → U k ∧ k ≠ bx ∧ k ≠ bz)
    (hy : Lsy w' S E T bd bm bsn s l d st') (k : Kp (fun i => i = T ∨ i = bsn) w w') : Lx w' U bx bz d st' ∧ Kp U w w' := by
  have q : ∀ k, (k = T ∨ k = bsn) → U k ∧ k ≠ bx ∧ k ≠ bz := by
    rintro k (e | e)
    · exact h5 k (.inr (.inr (.inl e)))
    · exact h5 k (.inr (.inr (.inr (.inr e))))
  exact ⟨⟨bd, T, bm, bsn, S, E, s, l, k.at h1 (fun x => (q _ x).2.1 rfl), k.at h2 (fun x => (q _ x).2.2 rfl), h3, h4, h5, hy⟩, k.mono (fun i x => (q i x).1)⟩
set_option maxHeartbeats 400000 in
theorem xSnap_lg (bx bz : Nat) (U : Nat → Prop) (M : Mp) (n c : Nat) (w : World) (h : Lg w U bx bz M n c Q) (hn : n ≤ 110) (hQ : Q.l.length < 8 ∧ Q.tk ≤ 1000000) :
    Calls Tryz.prog 20 #[.pointer (some ⟨bz, 0, none⟩)] w fun e w' => e = .returned (.tuple #[.int .i64 ((Q.tk : Int) + 1), .int .i64 0]) ∧ (∃ b, Lg w' U bx bz M n c (Q.add b M)) ∧ Kp U w w' := by
  obtain ⟨d, st, hx, hl⟩ := h
  obtain ⟨bd, T, bm, bsn, S, E, s, l, h1, h2, h3, h4, h5, h6⟩ := hx.ex
  have hin := sinner_any h2
  have htk := hl.tkn
  have hbt := hl.bat
  have hB := sSnap_any T bd bm bsn s l d st S E w h6 hl.lwr.2 (by rw [hl.sn, List.length_map]; exact hQ.1) (by omega) (by unfold I64; omega) (fun p hp => by
    rw [hl.sn] at hp
    obtain ⟨q, hq, rfl⟩ := List.mem_map.1 hp
    have := (hl.snk q hq).1.2.2
    simp only
    omega)
  have hlX := hl.snapped
  rw [htk] at hB
  generalize snapL st = X at *
  go_enter Tryz.func20, Tryz.ntmps20
  go_wp2_with (first
    | (go_at_call 30; refine hin.mono ?_; rintro e w' ⟨rfl, rfl⟩; clear hin)
    | (go_at_call 41; refine hB.mono ?_; rintro e w1 ⟨rfl, hy1, k1⟩; clear hB))
  go_ret2
  obtain ⟨a, b⟩ := Lx.snap h1 h2 h3 h4 h5 hy1 k1
  exact ⟨rfl, ⟨_, _, _, a, hlX⟩, b⟩
set_option maxHeartbeats 400000 in
theorem xScanAt_lg (bx bz : Nat) (U : Nat → Prop) (M : Mp) (n c : Nat) (id : Int) (q : Int × Int × Mp) (lo : Nm) (lim : Int) (w : World) (h : Lg w U bx bz M n c Q) (hn : n ≤ 110) (hid : I64 id) (hq : Q.l.find? (fun q => decide (q.1 = id)) = some q) (hl0 : 0 ≤ lim) (hl1 : lim ≤ 9223372036854775807) :
    Calls Tryz.prog 22 #[.pointer (some ⟨bz, 0, none⟩), .int .i64 id, str lo, str [], .int .i64 lim] w fun e w' => ∃ v, e = .returned (.tuple #[v, .int .i64 0]) ∧ Below w.heap.size w w' ∧ OwnP w' w.heap.size v ((fromL lo q.2.2).take lim.toNat) := by
  obtain ⟨d, st, hx, hl⟩ := h
  obtain ⟨bd, T, bm, bsn, S, E, s, l, h1, h2, h3, h4, h5, h6⟩ := hx.ex
  have hin := sinner_any h2
  have hB := sScanAt_lsu T bd bm bsn s l d st S E M n c id q lo lim w h6 hl hn hid hq hl0 hl1
  generalize (fromL lo q.2.2).take lim.toNat = X at *
  clear hq
  go_enter Tryz.func22, Tryz.ntmps22
  go_wp2_with (first
    | (go_at_call 30; refine hin.mono ?_; rintro e w' ⟨rfl, rfl⟩; clear hin)
    | (go_at_call 43; refine hB.mono ?_; rintro e w1 ⟨v, rfl, ho, hb⟩; obtain ⟨a2, k2, rfl⟩ := ho.shape; clear hB))
  go_ret2
  exact ⟨_, rfl, hb, ho⟩
end Go.Proofs.YtoabedkcieindabGreatDoor

namespace Go.Proofs.YtoabedkcieindabGreatDoor
open Go.RowKit Go.Maps Go.Sort Go.Shelf
def PRowS (w : World) (V : Nat → Prop) (v : Value) (l : List (Nm × Nm)) : Prop := ∃ q c, v = .slice q l.length c ∧ Pairp w q l ∧ ∀ a, q = some a → 0 < l.length → ¬ V a.block
theorem PRowS.below {w w' : World} {V : Nat → Prop} {v : Value} {l : List (Nm × Nm)} (h : PRowS w V v l) (hb : Below w.heap.size w w') : PRowS w' V v l := by
  obtain ⟨q, c, e, hp, hn⟩ := h
  exact ⟨q, c, e, hp.below hb, hn⟩
theorem PRowS.kept {w w' : World} {V : Nat → Prop} {v : Value} {l : List (Nm × Nm)} (h : PRowS w V v l) (k : Kp V w w') : PRowS w' V v l := by
  obtain ⟨q, c, e, hp, hn⟩ := h
  refine ⟨q, c, e, fun i hi => ?_, hn⟩
  obtain ⟨g, off, rfl, c0, c1⟩ := hp i hi
  have hgl := World.block_lt_of_cell? w ⟨g, off + i * 2, none⟩ c0
  have hbk := k.block g hgl (hn _ rfl (by omega))
  exact ⟨g, off, rfl, by simp only [World.cell?, hbk] at c0 ⊢; exact c0, by simp only [World.cell?, hbk] at c1 ⊢; exact c1⟩
theorem Pairp.lt {w : World} {l : List (Nm × Nm)} {q : Option Addr} (hp : Pairp w q l) : ∀ a, q = some a → 0 < l.length → a.block < w.heap.size := fun a ha h0 => by
  obtain ⟨g, off, e, c0, _⟩ := hp 0 h0
  rw [ha] at e
  cases e
  exact World.block_lt_of_cell? w _ c0
theorem PRowS.mono {w : World} {V V' : Nat → Prop} {v : Value} {l : List (Nm × Nm)} (h : PRowS w V v l) (hV : ∀ k, k < w.heap.size → V' k → V k) : PRowS w V' v l := by
  obtain ⟨q, c, e, hp, hn⟩ := h
  exact ⟨q, c, e, hp, fun a ha h0 s => hn a ha h0 (hV _ (Pairp.lt hp a ha h0) s)⟩
theorem PRowS.nil (w : World) (V : Nat → Prop) (c : Nat) : PRowS w V (.slice none 0 c) [] := ⟨none, c, rfl, fun i hi => absurd hi (Nat.not_lt_zero _), fun a ha => by cases ha⟩
set_option maxHeartbeats 2000000 in
set_option maxRecDepth 20000 in
theorem behind_row (V : Nat → Prop) (v0 : Value) (l : List (Nm × Nm)) (qo : Option Addr) (oc : Nat) (ops : List Ox) (w : World) (hV : ∀ k, V k → k < w.heap.size) (hv : PRowS w V v0 l) (hr : rising l) (ho : Opp w qo ops) (hl : l.length + ops.length ≤ 4190000) :
    Calls Tryz.prog 29 #[v0, .slice qo ops.length oc] w fun e w' => ∃ v, e = .returned v ∧ Below w.heap.size w w' ∧ PRowS w' V v (doAll l ops) := by
  go_enter Tryz.func29, Tryz.ntmps29
  go_wp2
  go_loopw [0, 5] (fun v i wr => ∃ k : Nat, k ≤ ops.length ∧ i = .int .i64 k ∧ PRowS wr V v (doAll l (ops.take k)) ∧ Below w.heap.size w wr) (fun _ i _ => ops.length - (intOf i).toNat)
  case atStart => exact ⟨0, Nat.zero_le _, rfl, hv, Below.refl _ _⟩
  case round =>
    obtain ⟨k, hk, rfl, hrow, hB⟩ := hrel
    have hs := hB.size
    by_cases hlt : k < ops.length
    · obtain ⟨g, off, rfl, c0, c1, c2⟩ := (ho.below hB) k hlt
      obtain ⟨q, c, rfl, hp, _⟩ := hrow
      have hml := doAll_len l (ops.take k)
      rw [List.length_take] at hml
      have HS : Hid (doAll l (ops.take (k + 1)) = kdoneL (doAll l (ops.take k)) ops[k]) := by show _ = _; rw [doAll_snoc l hlt, kdoneL_doOp _ (rising_doAll _ hr)]
      generalize doAll l (ops.take k) = M at *
      go_wp2_with (go_at_call 52; refine (kdone_any q c M ops[k] _ hp (by omega)).mono ?_; rintro e w1 ⟨v, rfl, hb, hown⟩)
      go_roundw
      case rel =>
        refine ⟨k + 1, by omega, by go_num, ?_, hB.trans (hb.mono hs)⟩
        rw [HS.out]
        obtain ⟨q', c', e', hp', hn'⟩ := hown.pairp
        exact ⟨q', c', e', hp', fun a ha _ s => by have := (hn' a ha).1; have := hV _ s; omega⟩
      case measure => simp [intOf]; omega
    · rw [List.take_of_length_le (by omega)] at hrow
      go_wp2
      go_ret
      exact ⟨_, rfl, hB, hrow⟩
theorem below_kp {w w1 w2 : World} (hb : Below w.heap.size w w1) (k : Kp (fun k => w.heap.size ≤ k) w1 w2) : Below w.heap.size w w2 :=
  ((Kp.of_below (S := fun _ => False) hb).trans k (fun i hi s => by omega)).below
theorem below_kp2 {w w1 w2 : World} {U : Nat → Prop} (hb : Below w.heap.size w w1) (k : Kp U w1 w2) (hU : ∀ i, U i → w.heap.size ≤ i) : Below w.heap.size w w2 := below_kp hb (k.mono hU)
structure DoV where
  kind : Int
  a : Int
  b : Int
  q : Option Addr
  qc : Nat
  ops : List Ox
structure DoOk (w : World) (o : DoV) : Prop where
  len : o.ops.length ≤ 9223372036854775807
  opp : Opp w o.q o.ops
  ox : OxBig o.ops
theorem DoOk.below {w w' : World} {o : DoV} (h : DoOk w o) (hb : Below w.heap.size w w') : DoOk w' o := ⟨h.len, h.opp.below hb, h.ox⟩
def Dop (w : World) (q : Option Addr) (l : List DoV) : Prop := ∀ i (h : i < l.length), ∃ g off, q = some ⟨g, off, none⟩ ∧ w.cell? ⟨g, off + i * 4, none⟩ = some (.int .i64 l[i].kind) ∧ w.cell? ⟨g, off + i * 4 + 1, none⟩ = some (.int .i64 l[i].a) ∧ w.cell? ⟨g, off + i * 4 + 2, none⟩ = some (.int .i64 l[i].b) ∧ w.cell? ⟨g, off + i * 4 + 3, none⟩ = some (.slice l[i].q l[i].ops.length l[i].qc)
theorem Dop.below {w w' : World} {q : Option Addr} {l : List DoV} (h : Dop w q l) (hb : Below w.heap.size w w') : Dop w' q l := fun i hi => by
  obtain ⟨g, off, e, h0, h1, h2, h3⟩ := h i hi
  exact ⟨g, off, e, cell_below hb h0, cell_below hb h1, cell_below hb h2, cell_below hb h3⟩
theorem tidyK_ok (k : Nm) : keyOk (tidyK k) = true := by
  unfold tidyK keyOk
  split
  · rw [List.length_take]; simp; omega
  · split
    · rfl
    · rename_i h1 h2
      have : 1 ≤ k.length := by cases k with | nil => exact absurd rfl h2 | cons _ _ => simp
      simp; omega
theorem tidyV_len (v : Nm) : (tidyV v).length ≤ 64 := by
  unfold tidyV
  split
  · rw [List.length_take]; omega
  · omega
theorem tidyOp_ok (o : Ox) : opOk (tidyOp o) = true := by
  have h1 := tidyK_ok o.key
  have h2 := tidyV_len o.val
  simp only [opOk, tidyOp, h1, Bool.true_and, Bool.or_eq_true]
  exact .inr (decide_eq_true h2)
theorem tidy_ok (l : List Ox) : batchOk (tidyL l) = true := by
  rw [batchOk_iff]
  unfold tidyL
  split
  · refine ⟨by simp, fun o ho => ?_⟩
    obtain rfl := List.mem_singleton.1 ho
    rfl
  · rename_i h
    have : 1 ≤ l.length := by cases l with | nil => exact absurd rfl h | cons _ _ => simp
    refine ⟨by rw [List.length_map, List.length_take]; omega, fun o ho => ?_⟩
    obtain ⟨o', _, rfl⟩ := List.mem_map.1 ho
    exact tidyOp_ok o'
theorem tidy_val (l : List Ox) : ∀ o ∈ tidyL l, o.val.length ≤ 64 := by
  unfold tidyL
  split
  · intro o ho
    obtain rfl := List.mem_singleton.1 ho
    simp
  · intro o ho
    obtain ⟨o', _, rfl⟩ := List.mem_map.1 ho
    exact tidyV_len _
theorem tidy_ox (l : List Ox) : OxLen (tidyL l) := fun o ho => by
  have h1 := opOk_key ((batchOk_iff.1 (tidy_ok l)).2 o ho)
  have h2 := tidy_val l o ho
  omega
theorem PRowS.step {w w' : World} {U : Nat → Prop} {v : Value} {l : List (Nm × Nm)} (h : PRowS w U v l) (k : Kp U w w') : PRowS w' (fun i => Nw U w i ∧ i < w'.heap.size) v l := by
  obtain ⟨q, c, e, hp, hn⟩ := h
  obtain ⟨q', c', e', hp', _⟩ := PRowS.kept ⟨q, c, e, hp, hn⟩ k
  rw [e] at e'
  cases e'
  refine ⟨q, c, e, hp', fun a ha h0 s => ?_⟩
  rcases s.1 with s | s
  · exact hn a ha h0 s
  · have := Pairp.lt hp a ha h0; omega
theorem Tryz.info31 : (Tryz.prog.info? 31).map (fun i => (i.zero, i.size, i.bytes)) = some (some (.agg #[.int .i64 0, .int .i64 0, .int .i64 0, .slice none 0 0]), 4, 48) := by kernel_rfl
def flatD (l : List DoV) : List Value := l.flatMap fun o => [.int .i64 o.kind, .int .i64 o.a, .int .i64 o.b, .slice o.q o.ops.length o.qc]
theorem flatD_snoc (l : List DoV) (o : DoV) : flatD (l ++ [o]) = flatD l ++ [.int .i64 o.kind, .int .i64 o.a, .int .i64 o.b, .slice o.q o.ops.length o.qc] := by simp [flatD]
def OwnD (w : World) (base : Nat) (v : Value) (l : List DoV) : Prop := w.ownsRow base 31 4 v l.length (flatD l)
theorem flatD_at : ∀ (l : List DoV) (i : Nat) (h : i < l.length), (flatD l)[i * 4]? = some (.int .i64 l[i].kind) ∧ (flatD l)[i * 4 + 1]? = some (.int .i64 l[i].a) ∧ (flatD l)[i * 4 + 2]? = some (.int .i64 l[i].b) ∧ (flatD l)[i * 4 + 3]? = some (.slice l[i].q l[i].ops.length l[i].qc)
  | x :: r, 0, _ => by simp [flatD]
  | x :: r, i + 1, h => by
    obtain ⟨h0, h1, h2, h3⟩ := flatD_at r i (by simpa using h)
    have e : flatD (x :: r) = [.int .i64 x.kind, .int .i64 x.a, .int .i64 x.b, .slice x.q x.ops.length x.qc] ++ flatD r := by simp [flatD]
    rw [e]
    refine ⟨?_, ?_, ?_, ?_⟩
    · rw [show (i + 1) * 4 = i * 4 + 4 by omega, List.getElem?_append_right (by simp)]; simpa using h0
    · rw [show (i + 1) * 4 + 1 = i * 4 + 1 + 4 by omega, List.getElem?_append_right (by simp)]; simpa using h1
    · rw [show (i + 1) * 4 + 2 = i * 4 + 2 + 4 by omega, List.getElem?_append_right (by simp)]; simpa using h2
    · rw [show (i + 1) * 4 + 3 = i * 4 + 3 + 4 by omega, List.getElem?_append_right (by simp)]; simpa using h3
theorem OwnD.dop {w : World} {base : Nat} {v : Value} {l : List DoV} (h : OwnD w base v l) : ∃ q cap, v = .slice q l.length cap ∧ Dop w q l ∧ ∀ a, q = some a → base ≤ a.block ∧ a.block < w.heap.size := by
  rcases h.2 with ⟨hv, hn⟩ | ⟨g, cap, cur, hv, hb, hgg, _⟩
  · exact ⟨none, 0, by rw [hv, hn], fun i hi => by omega, fun a ha => by cases ha⟩
  · refine ⟨_, cap, hv, fun i hi => ?_, fun a ha => by cases ha; exact ⟨hb, lt_of_block hgg⟩⟩
    have hc := World.ownsRow.cells h (g := g) (by rw [hv]; rfl)
    obtain ⟨k0, k1, k2, k3⟩ := flatD_at l i hi
    refine ⟨g, 0, rfl, ?_, ?_, ?_, ?_⟩
    · have := hc _ _ k0; rwa [Addr.add_lit] at this
    · have := hc _ _ k1; rwa [Addr.add_lit, ← Nat.add_assoc] at this
    · have := hc _ _ k2; rwa [Addr.add_lit, ← Nat.add_assoc] at this
    · have := hc _ _ k3; rwa [Addr.add_lit, ← Nat.add_assoc] at this
theorem do_new {W : World} {n : Nat} (h : W.heap.size = n) {a b c d : Value} : ∀ j u, [a, b, c, d][j]? = some u → (W.alloc (.cells #[a, b, c, d] 31)).cell? ((⟨n, 0, none⟩ : Addr).add j) = some u := by
  intro j u hu
  subst h
  rw [Addr.add_lit, Nat.zero_add, cell_block (block_new W _)]
  simpa using hu
theorem Dop.kept {w w' : World} {U : Nat → Prop} {q : Option Addr} {l : List DoV} (h : Dop w q l) (k : Kp U w w') (hq : ∀ a, q = some a → 0 < l.length → ¬ U a.block) : Dop w' q l := fun i hi => by
  obtain ⟨g, off, rfl, c0, c1, c2, c3⟩ := h i hi
  have hgl := World.block_lt_of_cell? w ⟨g, off + i * 4, none⟩ c0
  have hbk := k.block g hgl (hq _ rfl (by omega))
  exact ⟨g, off, rfl, by simp only [World.cell?, hbk] at c0 ⊢; exact c0, by simp only [World.cell?, hbk] at c1 ⊢; exact c1, by simp only [World.cell?, hbk] at c2 ⊢; exact c2, by simp only [World.cell?, hbk] at c3 ⊢; exact c3⟩
def isB (o : DoV) : Bool := decide (o.kind < 1) || decide (5 < o.kind)
theorem filter_snoc {L : List DoV} {k : Nat} (h : k < L.length) : (isB L[k] = true → (L.take (k + 1)).filter isB = (L.take k).filter isB ++ [L[k]]) ∧ (isB L[k] = false → (L.take (k + 1)).filter isB = (L.take k).filter isB) := by
  rw [List.take_succ_eq_append_getElem h, List.filter_append]
  constructor
  · intro e; rw [List.filter_cons_of_pos e]; rfl
  · intro e; rw [List.filter_cons_of_neg (by simp [e])]; simp
set_option maxHeartbeats 2000000 in
set_option maxRecDepth 20000 in
theorem batches_any (q : Option Addr) (qc : Nat) (L : List DoV) (w : World) (hp : Dop w q L) (hl : L.length ≤ 1048576) :
    Calls Tryz.prog 10 #[.slice q L.length qc] w fun e w' => ∃ v, e = .returned v ∧ Below w.heap.size w w' ∧ OwnD w' w.heap.size v (L.filter isB) := by
  obtain ⟨i0, hi0, hz0, hz1, hz2⟩ := info_parts Tryz.info31
  go_enter Tryz.func10, Tryz.ntmps10
  go_wp2
  go_loopw [3, 4] (fun v i wr => ∃ k : Nat, k ≤ L.length ∧ i = .int .i64 k ∧ OwnD wr w.heap.size v ((L.take k).filter isB) ∧ Below w.heap.size w wr) (fun _ i _ => L.length - (intOf i).toNat)
  case atStart => exact ⟨0, Nat.zero_le _, rfl, World.ownsRow_nil _ _ _ _, Below.refl _ _⟩
  case round =>
    obtain ⟨k, hk, rfl, hown, hB⟩ := hrel
    have hs := hB.size
    by_cases hlt : k < L.length
    · obtain ⟨g, off, rfl, c0, c1, c2, c3⟩ := (hp.below hB) k hlt
      obtain ⟨hy, hn⟩ := filter_snoc hlt
      have hml : ((L.take k).filter isB).length ≤ 1048576 := Nat.le_trans (List.length_filter_le _ _) (by rw [List.length_take]; omega)
      cases hb : isB L[k]
      · have HM : Hid ((L.take (k + 1)).filter isB = (L.take k).filter isB) := hn hb
        simp only [isB, Bool.or_eq_false_iff, decide_eq_false_iff_not] at hb
        obtain ⟨b1, b2⟩ := hb
        clear hy hn
        go_wp2
        go_roundw
        case rel => exact ⟨k + 1, by omega, by go_num, by rw [HM.out]; exact hown, hB⟩
        case measure => simp [intOf]; omega
      · have HM : Hid ((L.take (k + 1)).filter isB = (L.take k).filter isB ++ [L[k]]) := hy hb
        clear hy hn
        generalize (L.take k).filter isB = M at *
        have HC : Hid (L[k].kind < 1 ∨ (¬ L[k].kind < 1 ∧ 5 < L[k].kind)) := by
          simp only [isB, Bool.or_eq_true, decide_eq_true_eq] at hb
          show _ ∨ _
          omega
        clear hb
        rcases HC.out with b1 | ⟨b1, b2⟩
        all_goals
          go_wp2_with (first
            | (at_builtin; refine wpList_append_own _ rfl (.tmp 25) (.tmp 30) 22 rfl w.heap.size 31 i0 _ 4 48 Tryz.underlying22 hi0 hz0 hz1 hz2 rfl (by decide) _ M.length (flatD M) rfl (World.ownsRow.alloc hown _) ⟨wr.heap.size, 0, none⟩ 1 1 [.int .i64 L[k].kind, .int .i64 L[k].a, .int .i64 L[k].b, .slice L[k].q L[k].ops.length L[k].qc] rfl rfl (do_new rfl) (by simp [Value.oneCell']) (by unfold maxLen; omega) (by omega) (by simp; omega) ?_; intro v' w2 hown' hgrow _)
            | go_in)
          go_roundw
          case rel =>
            refine ⟨k + 1, by omega, by go_num, ?_, (hB.alloc hs _).grown hgrow (by simp; omega) (fun k hk => (World.ownsRow.lt hown k hk).1)⟩
            unfold OwnD
            rw [HM.out, flatD_snoc, List.length_append]
            exact hown'
          case measure => simp [intOf]; omega
    · have hkl : k = L.length := by omega
      rw [hkl, List.take_of_length_le (Nat.le_refl _)] at hown
      go_wp2
      go_ret
      exact ⟨_, rfl, hB, hown⟩
def DoOut (U : Nat → Prop) (o : DoV) : Prop := ∀ a, o.q = some a → 0 < o.ops.length → ¬ U a.block
theorem kp_below {S : Nat → Prop} {a b c : World} (h : Kp S a b) (k : Below b.heap.size b c) : Kp S a c := h.trans (T := fun _ => False) (Kp.of_below k) (fun _ _ f => f.elim)
end Go.Proofs.YtoabedkcieindabGreatDoor

namespace Go.Proofs.YtoabedkcieindabGreatDoor
open Go.RowKit Go.Maps Go.Sort Go.Shelf
set_option maxHeartbeats 400000 in
theorem xOpen_nil (bx : Nat) (d : Dk) (S : Nat → Prop) (policy : Int) (w : World) (hX : XAt w S bx d) (hf : d.files = []) (hok : d.Ok) (hda : d.dead = false) (h0 : 0 ≤ d.turn) (h1 : d.turn ≤ 4611686018427387904) (hp : 0 ≤ policy ∧ policy ≤ 2) :
    Calls Tryz.prog 18 #[.pointer (some ⟨bx, 0, none⟩), .int .i64 policy] w fun e w' => ∃ bz, e = .returned (.tuple #[.pointer (some ⟨bz, 0, none⟩), .int .i64 0]) ∧ Lx w' (Nw S w) bx bz { d with turn := d.turn + 1 } (newLs (d.turn + 1) policy) ∧ Kp S w w' := by
  obtain ⟨bd, g1, g2, g3⟩ := id hX
  obtain ⟨c0, z0⟩ := cells1 g1
  have hlx := lt_of_block g1
  have hO := sOpen_nil bd d (fun k => S k ∧ k ≠ bx) policy w g3 hf hok hda h0 h1 hp
  clear hp h0 h1
  go_enter Tryz.func18, Tryz.ntmps18
  go_wp2_with (go_at_call 39; refine hO.mono ?_; rintro e w1 ⟨T, rfl, hQ, k1⟩; clear hO)
  go_ret2
  obtain ⟨bm, bsn, S', E', s, l, t1, t2, t3, a1, a2, hY⟩ := hQ
  have hz := k1.size
  have hB : Below w1.heap.size w1 (w1.alloc (.cells #[.pointer (some ⟨T, 0, none⟩)] 82)) := (Below.refl _ w1).alloc (Nat.le_refl _) _
  have hY' : Lsy w1 (fun k => S' k ∧ k < w1.heap.size) E' T bd bm bsn s l { d with turn := d.turn + 1 } (newLs (d.turn + 1) policy) := ⟨hY.prog.mono (fun k hk s => ⟨s, hk⟩), hY.at_, fun k e x => hY.dj k e x.1, fun x => hY.nT x.1, fun x => hY.nm x.1, fun x => hY.nn x.1⟩
  refine ⟨_, rfl, ⟨bd, T, bm, bsn, _, E', s, l, block_alloc (k1.at g1 (fun x => x.2 rfl)), block_new w1 _, .inl g2, .inr hz, fun k hk => ?_, hY'.below hB⟩, (k1.mono (fun _ x => x.1)).alloc _⟩
  have hlt : k < w1.heap.size := by
    rcases hk with x | x | rfl | rfl | rfl
    · exact x.2
    · exact hY.at_.bnd k x
    · exact lt_of_block hY.at_.blk
    · exact hY.at_.mem.lt
    · exact hY.at_.snp.lt
  have hb : Nw S w k ∧ k ≠ bx := by
    rcases hk with x | x | rfl | rfl | rfl
    · rcases a1 k x.1 with y | y
      · exact ⟨.inl y.1, y.2⟩
      · exact ⟨.inr y, by omega⟩
    · have := a2 k x; exact ⟨.inr this, by omega⟩
    · exact ⟨.inr t1, by omega⟩
    · exact ⟨.inr t2, by omega⟩
    · exact ⟨.inr t3, by omega⟩
  exact ⟨hb.1, hb.2, by omega⟩
structure Wl (w : World) (U : Nat → Prop) (bx bz : Nat) (lv : Value) (d : Dk) (st : Ls) (M : Mp) (n left : Nat) : Prop where
  shop : Lx w U bx bz d st
  up : ∀ k, U k → k < w.heap.size
  row : PRowS w U lv M
  inv : Lst d st M n
  cnt : n + left ≤ 110
theorem Wl.below {w w' : World} {bx bz : Nat} {lv : Value} {U : Nat → Prop} {d : Dk} {st : Ls} {M : Mp} {n left : Nat} (h : Wl w U bx bz lv d st M n left) (hb : Below w.heap.size w w') : Wl w' U bx bz lv d st M n left :=
  ⟨h.shop.below hb, fun k s => Nat.lt_of_lt_of_le (h.up k s) hb.size, h.row.below hb, h.inv, h.cnt⟩
end Go.Proofs.YtoabedkcieindabGreatDoor

namespace Go.Proofs.YtoabedkcieindabGreatDoor
open Go.RowKit Go.Maps Go.Sort Go.Shelf
variable {Q : Sq}
theorem Lsu.of0 {d : Dk} {s : Ls} {M : Mp} (h : Lst d s M 0) (hlo : s.loose = false) (htk : s.taken = 0) : Lsu d s M 0 0 ⟨0, []⟩ := by
  have h1 := h.ents
  have h2 := h.few
  have h3 := h.log
  have h4 := h.next
  have hm : flatM s.mem = [] := List.length_eq_zero_iff.1 (by omega)
  have ht : s.tabs = [] := List.length_eq_zero_iff.1 (by omega)
  have hz : s.log = 0 := by omega
  obtain ⟨bs, m, a, b, c⟩ := h.lin
  exact ⟨⟨bs, m, a, b, c⟩, h.ok, h.stl, h.qu, h.turn, h.pol, h.sn, h.stk, h.mok, h.mop, h.bat, h.rise, h.view, h.srt, h.tok, h.ne, h.lv, h.ents, h.lev, h.few, h.log, by rw [hz] at h4; omega, fun e he => (by rw [hm] at he; cases he), fun x hx => (by rw [ht] at hx; cases hx), fun e => (by rw [hlo] at e; cases e), by rw [htk]; rfl, fun q hq => (by cases hq)⟩
theorem fresh_lg (p : Int) (w : World) (hp : 0 ≤ p ∧ p ≤ 2) :
    Calls Tryz.prog 6 #[.int .i64 1048576, .int .i64 p] w fun e w' => ∃ bx bz, e = .returned (.tuple #[.pointer (some ⟨bx, 0, none⟩), .pointer (some ⟨bz, 0, none⟩), .bool true]) ∧ Lg w' (fun k => w.heap.size ≤ k ∧ k < w'.heap.size) bx bz [] 0 0 ⟨0, []⟩ ∧ Below w.heap.size w w' := by
  have hN := xNew_ok 1048576 w (by decide)
  have hok : (newDk 1048576).Ok := newDk_ok (by decide)
  go_enter Tryz.func6, Tryz.ntmps6
  go_wp2_with (first
    | (go_at_call 26; refine hN.mono ?_; rintro e w1 ⟨bx, rfl, hX, hb1⟩; clear hN)
    | (go_at_call 18; refine (xOpen_nil bx (newDk 1048576) _ p w1 hX rfl hok rfl (by decide) (by decide) hp).mono ?_; rintro e w2 ⟨bz, rfl, hS, k⟩))
  go_ret3
  refine ⟨bx, bz, rfl, ⟨_, _, hS.mono (fun i hi s => ⟨s.elim id (fun h => Nat.le_trans hb1.size h), hi⟩), ?_⟩, below_kp hb1 k⟩
  exact Lsu.of0 (Lst.empty (d := { newDk 1048576 with turn := (newDk 1048576).turn + 1 }) rfl ⟨hok.quota, hok.used, hok.left0, hok.left1, hok.safe, hok.rise, hok.name⟩ ⟨rfl, by decide⟩ (by decide) hp) rfl rfl
theorem Lsu.mlen {d : Dk} {s : Ls} {M : Mp} {n c : Nat} (h : Lsu d s M n c Q) : M.length ≤ n := by
  have hs := h.scan []
  have e : fromL [] M = M := List.filter_eq_self.2 fun x _ => by rw [before_nil]; rfl
  rw [e, scanX_all] at hs
  have h1 := behF_len s.batch (mergeL s.layers) []
  rw [hs] at h1
  have h2 : (mergeL s.layers).length ≤ s.layers.flatten.length := mergeF_len _ _
  have := h.laylen
  omega
theorem fromL_nil (M : Mp) : fromL [] M = M := List.filter_eq_self.2 fun x _ => by rw [before_nil]; rfl
set_option maxHeartbeats 400000 in
theorem holds_lg (bx bz : Nat) (U V : Nat → Prop) (M : Mp) (n c : Nat) (v : Value) (w : World) (h : Lg w U bx bz M n c Q) (hn : n ≤ 110) (hv : PRowS w V v M) :
    Calls Tryz.prog 15 #[.pointer (some ⟨bz, 0, none⟩), v] w fun e w' => e = .returned (.bool true) ∧ Below w.heap.size w w' := by
  have hsc := xScan_lg bx bz U M n c [] 1099511627776 w h hn (by omega) (by omega)
  obtain ⟨d, st, hx, hl⟩ := h
  have hml := hl.mlen
  rw [fromL_nil, List.take_of_length_le (by show _ ≤ 1099511627776; omega)] at hsc
  obtain ⟨q, c, rfl, hp, _⟩ := hv
  clear hx hl
  go_enter Tryz.func15, Tryz.ntmps15
  go_wp2_with (first
    | (go_at_call 36; refine hsc.mono ?_; rintro e w1 ⟨v1, rfl, hb1, ho1⟩; clear hsc; obtain ⟨q1, c1, rfl, hp1, _⟩ := ho1.pairp)
    | (go_at_call 23; refine (ksame_any q1 q c1 c M M _ hp1 (hp.below hb1) (by omega) (by omega)).mono ?_; rintro e w2 ⟨he, n, rfl⟩; rw [decide_eq_true rfl] at he; subst he))
  go_ret
  exact ⟨rfl, ((Kp.of_below (S := fun _ => False) hb1).drewN n).below⟩
end Go.Proofs.YtoabedkcieindabGreatDoor
