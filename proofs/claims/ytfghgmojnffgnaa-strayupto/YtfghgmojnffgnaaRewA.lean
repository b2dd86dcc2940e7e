/- A log that is written anew, as plain mathematics: what rewrite answers and leaves. -/
import Derived.Test.YtfghgmojnffgnaaWriteB
namespace Go.Proofs.Ytfghgmojnffgnaa
open Go.RowKit Go.Maps Go.Sort Go.Shelf

def cutOf (ops : List Ox) {n : Nat} (x : CX n) : List Ox := (ops.drop x.1.1).take x.1.2
theorem cutOf_len {ops : List Ox} {n : Nat} (h : n = ops.length) (x : CX n) : (cutOf ops x).length = x.1.2 := by
  have := x.2.1
  unfold cutOf
  rw [List.length_take, List.length_drop]
  omega
theorem cutOf_ok {ops : List Ox} {n : Nat} (h : n = ops.length) (ho : ∀ o ∈ ops, opOk o = true) (x : CX n) : batchOk (cutOf ops x) = true := by
  rw [batchOk_iff, cutOf_len h x]
  exact ⟨⟨x.2.2.1, x.2.2.2⟩, fun o hx => ho o (List.mem_of_mem_drop (List.mem_of_mem_take hx))⟩
theorem Opp.cut {W : World} {g off : Nat} {ops : List Ox} (h : Opp W (some ⟨g, off, none⟩) ops) {n : Nat} (hn : n = ops.length) (x : CX n) : Opp W (some ⟨g, off + x.1.1 * 3, none⟩) (cutOf ops x) := fun i hi => by
  have hl := cutOf_len hn x
  have h1 := x.2.1
  obtain ⟨g', off', e, c0, c1, c2⟩ := h (x.1.1 + i) (by omega)
  cases e
  have e0 : (cutOf ops x)[i] = ops[x.1.1 + i]'(by omega) := by simp [cutOf]
  refine ⟨g, off + x.1.1 * 3, rfl, ?_, ?_, ?_⟩
  · rw [e0, show off + x.1.1 * 3 + i * 3 = off + (x.1.1 + i) * 3 by omega]; exact c0
  · rw [e0, show off + x.1.1 * 3 + i * 3 = off + (x.1.1 + i) * 3 by omega]; exact c1
  · rw [e0, show off + x.1.1 * 3 + i * 3 = off + (x.1.1 + i) * 3 by omega]; exact c2

def putAll : Dk → List (List Ox) → Int × Dk
  | d, [] => (0, d)
  | d, b :: r => if (d.write newN (encode b)).1 = 0 then putAll (d.write newN (encode b)).2 r else d.write newN (encode b)
/-- The disk behind batches that were all written. -/
def putO : Dk → List (List Ox) → Option Dk
  | d, [] => some d
  | d, b :: r => if (d.write newN (encode b)).1 = 0 then putO (d.write newN (encode b)).2 r else none
theorem putO_snoc : ∀ (bs : List (List Ox)) {d dc : Dk} (b : List Ox), putO d bs = some dc → (dc.write newN (encode b)).1 = 0 → putO d (bs ++ [b]) = some (dc.write newN (encode b)).2
  | [], d, dc, b, h, e => by cases h; simp [putO, e]
  | x :: r, d, dc, b, h, e => by
    simp only [putO, List.cons_append] at h ⊢
    split at h
    · rename_i h1; rw [if_pos h1]; exact putO_snoc r b h e
    · cases h
theorem putAll_of : ∀ (bs : List (List Ox)) {d dc : Dk}, putO d bs = some dc → putAll d bs = (0, dc)
  | [], d, dc, h => by cases h; rfl
  | x :: r, d, dc, h => by
    simp only [putO, putAll] at h ⊢
    split at h
    · rename_i h1; rw [if_pos h1]; exact putAll_of r h
    · cases h
theorem putAll_stop : ∀ (bs : List (List Ox)) {d dc : Dk} (b : List Ox) (r : List (List Ox)), putO d bs = some dc → (dc.write newN (encode b)).1 ≠ 0 → putAll d (bs ++ b :: r) = dc.write newN (encode b)
  | [], d, dc, b, r, h, e => by cases h; simp [putAll, e]
  | x :: s, d, dc, b, r, h, e => by
    simp only [putO, putAll, List.cons_append] at h ⊢
    split at h
    · rename_i h1; rw [if_pos h1]; exact putAll_stop s b r h e
    · cases h

def finW (d : Dk) : Int × Dk := if (d.sync newN).1 = 0 then (d.sync newN).2.rename newN logN else d.sync newN
def midW (d : Dk) (bs : List (List Ox)) : Int × Dk := if (putAll d bs).1 = 0 then finW (putAll d bs).2 else putAll d bs
def begW (d : Dk) (bs : List (List Ox)) : Int × Dk := if (d.write newN []).1 = 0 then midW (d.write newN []).2 bs else d.write newN []
def chunksOf (ops : List Ox) : List (List Ox) := (cuts ops.length).map (cutOf ops)
/-- What rewrite answers, and the disk that it leaves. -/
def rewriteX (d : Dk) (m : Mp) : Int × Dk := ((begW (d.remove newN).2 (chunksOf (opsOf m))).1, ((begW (d.remove newN).2 (chunksOf (opsOf m))).2.remove newN).2)

/-- What is no row of cells, and not the map, is none of the disk's blocks. -/
theorem ProgAtB.not {A : World} {S : Nat → Prop} {bd bm : Nat} {d : Dk} {r : Nat} {o : Obj} (h : ProgAtB A S bd bm d) (ho : A.heap[r]? = some o) (hc : o.isCells = false) (hb : r ≠ bm) : ProgAtB A (fun i => S i ∧ i ≠ r) bd bm d := by
  obtain ⟨ps, h1, h2⟩ := h
  refine ⟨ps, ⟨h1.blk, h1.map, h1.file, h1.apart, ⟨h1.sb, ?_⟩, ⟨h1.sm, fun e => hb e.symm⟩, fun x hx => ⟨⟨(h1.sf x hx).1, ?_⟩, fun g hg => ⟨(h1.sf x hx).2 g hg, ?_⟩⟩⟩, h2⟩
  · rintro rfl; rw [h1.blk] at ho; cases ho; cases hc
  · rintro rfl; rw [(h1.file x hx).1] at ho; cases ho; cases hc
  · rintro rfl
    rcases ((h1.file x hx).2).2 with ⟨hv, _⟩ | ⟨g', cap, cur, hv, _, hgg, _⟩
    · rw [hv] at hg; simp [Value.ownBlock] at hg
    · rw [hv] at hg
      obtain rfl : g' = g := by simpa [Value.ownBlock] using hg
      rw [hgg] at ho; cases ho; cases hc

end Go.Proofs.Ytfghgmojnffgnaa

/- The program's store: what is so within rewrite, and how it is left. -/
namespace Go.Proofs.Ytfghgmojnffgnaa
open Go.RowKit Go.Maps Go.Sort Go.Shelf

abbrev wA (w : World) (bs : Nat) : World := (w.alloc (.cells #[.pointer (some ⟨bs, 0, none⟩)] 74)).alloc (.cells #[.int .i64 0] 34)

/-- What lies where rewrite began: the disk's blocks (S) and the store's (T). -/
structure Ap (w : World) (S T : Nat → Prop) : Prop where
  s : ∀ k, S k → k < w.heap.size
  t : ∀ k, T k → k < w.heap.size
  st : ∀ k, S k → ¬ T k

structure Rw (w : World) (S T : Nat → Prop) (bd bs bm : Nat) (st : St) (r : Int) (dc : Dk) (D : Nat → Prop) (W : World) : Prop where
  ap : Ap w S T
  prog : ProgAt W D bd dc
  dset : ∀ k, D k → S k ∨ w.heap.size + 2 ≤ k
  st : StAt W T bs bd bm st
  bS : Boxed W w.heap.size 74 (.pointer (some ⟨bs, 0, none⟩))
  bR : Boxed W (w.heap.size + 1) 34 (.int .i64 r)
  kp : Kp S w W
  big : w.heap.size + 2 ≤ W.heap.size

section
variable {w : World} {S T : Nat → Prop} {bd bs bm : Nat} {st : St} {r : Int} {dc dc' : Dk} {D V : Nat → Prop} {W W' : World}

theorem Rw.out (h : Rw w S T bd bs bm st r dc D W) : (∀ i, T i → ¬ D i) ∧ ¬ D w.heap.size ∧ ¬ D (w.heap.size + 1) := by
  refine ⟨fun i t d => ?_, fun d => ?_, fun d => ?_⟩
  · rcases h.dset i d with s | s
    · exact h.ap.st i s t
    · have := h.ap.t i t; omega
  · rcases h.dset _ d with s | s
    · have := h.ap.s _ s; omega
    · omega
  · rcases h.dset _ d with s | s
    · have := h.ap.s _ s; omega
    · omega
theorem Rw.next (h : Rw w S T bd bs bm st r dc D W) (k : Kp D W W') (hP : ProgAt W' (Nw D W) bd dc') : Rw w S T bd bs bm st r dc' (Nw D W) W' := by
  obtain ⟨o1, o2, o3⟩ := h.out
  exact ⟨h.ap, hP, fun i s => s.elim (h.dset i) (fun s => .inr (Nat.le_trans h.big s)), h.st.kept k o1, k.at h.bS o2, k.at h.bR o3, h.kp.trans k (fun i hi s => (h.dset i s).elim id (fun s => by omega)), Nat.le_trans h.big k.size⟩
theorem Rw.below (h : Rw w S T bd bs bm st r dc D W) (b : Below W.heap.size W W') : Rw w S T bd bs bm st r dc D W' :=
  ⟨h.ap, h.prog.below b, h.dset, h.st.below b, block_at2 h.bS b, block_at2 h.bR b, kp_below h.kp b, Nat.le_trans h.big b.size⟩
theorem Rw.mono (h : Rw w S T bd bs bm st r dc D W) (hV : ∀ k, k < W.heap.size → D k → V k) (hs : ∀ k, V k → D k) : Rw w S T bd bs bm st r dc V W :=
  ⟨h.ap, h.prog.mono hV, fun k v => h.dset k (hs k v), h.st, h.bS, h.bR, h.kp, h.big⟩
theorem Rw.put (h : Rw w S T bd bs bm st r dc D W) (r' : Int) : Rw w S T bd bs bm st r' dc D (W.setCell ⟨w.heap.size + 1, 0, none⟩ (.int .i64 r')) := by
  obtain ⟨o1, o2, o3⟩ := h.out
  have k := Kp.set1 W (w.heap.size + 1) 0 (.int .i64 r')
  have hsz := k.size
  refine ⟨h.ap, h.prog.kept k (fun i d e => by rw [e] at d; exact o3 d), h.dset, h.st.kept k (fun i t e => by have := h.ap.t i t; omega), k.at h.bS (by omega), (block_set h.bR _).trans rfl, h.kp.trans k (fun i hi e => by omega), Nat.le_trans h.big hsz⟩
/-- Rewrite begins. -/
theorem rw_begin (hP : ProgAt w S bd dc) (hT : StAt w T bs bd bm st) (ha : Ap w S T) : Rw w S T bd bs bm st 0 dc S (wA w bs) := by
  have hbA : Below w.heap.size w (wA w bs) := ((Below.refl _ w).alloc (Nat.le_refl _) _).alloc (by simp) _
  refine ⟨ha, hP.below hbA, fun k s => .inl s, hT.below hbA, (Boxed.new w _ _).alloc _, ?_, Kp.of_below hbA, by simp⟩
  have := Boxed.new (w.alloc (.cells #[.pointer (some ⟨bs, 0, none⟩)] 74)) 34 (.int .i64 0)
  rwa [World.size_alloc] at this
/-- Rewrite is over. -/
theorem Rw.sys (h : Rw w S T bd bs bm st r dc D W) {U : Nat → Prop} (u1 : ∀ k, S k → U k) (u2 : ∀ k, T k → U k) : Sys W (Nw U w) bd bs dc st ∧ Kp U w W :=
  ⟨Sys.of (S := D) (T := T) (fun k s => (h.dset k s).elim (fun s => .inl (u1 k s)) (fun s => .inr (by omega))) (fun k t => .inl (u2 k t)) (fun k s t => h.out.1 k t s) h.prog h.st, h.kp.mono u1⟩

/-- Later, when the disk has changed on and on. -/
theorem Rw.later (h : Rw w S T bd bs bm st r dc D W) (k : Kp D W W') (hP : ProgAt W' V bd dc') (hV : ∀ i, V i → Nw D W i) : Rw w S T bd bs bm st r dc' V W' := by
  obtain ⟨o1, o2, o3⟩ := h.out
  exact ⟨h.ap, hP, fun i s => (hV i s).elim (h.dset i) (fun s => .inr (Nat.le_trans h.big s)), h.st.kept k o1, k.at h.bS o2, k.at h.bR o3, h.kp.trans k (fun i hi s => (h.dset i s).elim id (fun s => by omega)), Nat.le_trans h.big k.size⟩
/-- The result is told besides. -/
theorem Rw.told (h : Rw w S T bd bs bm st r dc D W) (r' : Int) (k : Kp (fun i => D i ∨ i = w.heap.size + 1) W W') (hP : ProgAt W' V bd dc') (hV : ∀ i, V i → Nw D W i) (hb : Boxed W' (w.heap.size + 1) 34 (.int .i64 r')) : Rw w S T bd bs bm st r' dc' V W' := by
  obtain ⟨o1, o2, o3⟩ := h.out
  refine ⟨h.ap, hP, fun i s => (hV i s).elim (h.dset i) (fun s => .inr (Nat.le_trans h.big s)), h.st.kept k (fun i t s => s.elim (o1 i t) (fun e => by have := h.ap.t i t; omega)), k.at h.bS (fun s => s.elim o2 (fun e => by omega)), hb, h.kp.trans k (fun i hi s => s.elim (fun s => (h.dset i s).elim id (fun s => by omega)) (fun e => by omega)), Nat.le_trans h.big k.size⟩
/-- A mark is taken. -/
theorem Rw.mark (h : Rw w S T bd bs bm st r dc D W) {m : Nat} (o : Obj) (hm : ¬ D m) (hb : w.heap.size + 2 ≤ m) : Rw w S T bd bs bm st r dc D (W.putObj m o) := by
  have k : Kp (fun i => i = m) W (W.putObj m o) := (Kp.refl _ W).grown (grownBy_putObj' W m o) (fun i e _ => by cases e; rfl)
  refine ⟨h.ap, h.prog.kept k (fun i d e => by rw [e] at d; exact hm d), h.dset, h.st.kept k (fun i t e => by have := h.ap.t i t; omega), k.at h.bS (by omega), k.at h.bR (by omega), h.kp.trans k (fun i hi e => by omega), Nat.le_trans h.big k.size⟩

theorem result_run {fn : Func} (hf : fn.results = #[.cell 2 34]) {tmps : Array Value} (ht : tmps[2]? = some (.pointer (some ⟨w.heap.size + 1, 0, none⟩))) (hb : Boxed W (w.heap.size + 1) 34 (.int .i64 r)) : (results fn tmps).run Try.prog W = .ok (.int .i64 r) W := by
  have hc := hb.cell
  simp only [results, hf]
  simp [Sem.run_bind, Result.andThen, ht, asAddr, loadVar, hc, go_sem]

/-- The deferred Remove, and the result. -/
theorem Rw.leave (h : Rw w S T bd bs bm st r dc D W) (hok : dc.Ok) {fn : Func} (hf : fn.results = #[.cell 2 34]) {tmps : Array Value} (ht : tmps[2]? = some (.pointer (some ⟨w.heap.size + 1, 0, none⟩))) {U : Nat → Prop} (u1 : ∀ k, S k → U k) (u2 : ∀ k, T k → U k)
    {R : Ending → World → Prop} (hR : ∀ w', Sys w' (Nw U w) bd bs (dc.remove newN).2 st → Kp U w w' → R (.returned (.int .i64 r)) w') :
    LeavesInM Fence.wide 6 Try.prog fn tmps R [{ target := .fn (.func 87) #[], args := #[.pointer (some ⟨bd, 0, none⟩), str newN] }] .returning W := by
  have eg : ∀ args w, (callFunc 87 args).run Try.prog w = .ok (.enter 87 args) w := enters_of Try.func87 (by kernel_rfl) rfl
  refine ⟨by simp, .inr ⟨fun _ => by decide, _, _, 87, #[.pointer (some ⟨bd, 0, none⟩), str newN], rfl, ?_, fun _ _ => trivial, ?_⟩⟩
  · simp [invoke, go_sem, eg]
  · refine (dRemoveD_any .returning bd dc newN D W h.prog hok (by decide)).mono ?_
    rintro e u' w' ⟨rfl, rfl, hP, k⟩
    have h2 := h.next k hP
    obtain ⟨a, b⟩ := h2.sys u1 u2
    exact ⟨_, result_run hf ht h2.bR, hR w' a b⟩
/-- The same, a mark ahead of it. -/
theorem Rw.leaveM (h : Rw w S T bd bs bm st r dc D W) (hok : dc.Ok) {m : Nat} (hm : ¬ D m) (hb : w.heap.size + 2 ≤ m) (hK : W.heap[m]? = some (.deferred (some []))) {fn : Func} (hf : fn.results = #[.cell 2 34]) {tmps : Array Value} (ht : tmps[2]? = some (.pointer (some ⟨w.heap.size + 1, 0, none⟩))) {U : Nat → Prop} (u1 : ∀ k, S k → U k) (u2 : ∀ k, T k → U k)
    {R : Ending → World → Prop} (hR : ∀ w', Sys w' (Nw U w) bd bs (dc.remove newN).2 st → Kp U w w' → R (.returned (.int .i64 r)) w') :
    LeavesInM Fence.wide 6 Try.prog fn tmps R [{ target := .collected m, args := #[] }, { target := .fn (.func 87) #[], args := #[.pointer (some ⟨bd, 0, none⟩), str newN] }] .returning W :=
  ⟨by simp, .inl ⟨m, _, rfl, run_takeDeferred hK, (h.mark _ hm hb).leave hok hf ht u1 u2 hR⟩⟩
/-- The disk's blocks are rows of cells, but for its map. -/
theorem ProgAtB.cells {A : World} {S : Nat → Prop} {bd bm : Nat} {d : Dk} (h : ProgAtB A S bd bm d) : ProgAtB A (fun i => S i ∧ (i = bm ∨ ∃ cs t z, A.heap[i]? = some (.cells cs t z))) bd bm d := by
  obtain ⟨ps, h1, h2⟩ := h
  refine ⟨ps, ⟨h1.blk, h1.map, h1.file, h1.apart, ⟨h1.sb, .inr ⟨_, _, _, h1.blk⟩⟩, ⟨h1.sm, .inl rfl⟩, fun x hx => ⟨⟨(h1.sf x hx).1, .inr ⟨_, _, _, (h1.file x hx).1⟩⟩, fun g hg => ⟨(h1.sf x hx).2 g hg, ?_⟩⟩⟩, h2⟩
  rcases ((h1.file x hx).2).2 with ⟨hv, _⟩ | ⟨g', cap, cur, hv, _, hgg, _⟩
  · rw [hv] at hg; simp [Value.ownBlock] at hg
  · rw [hv] at hg
    obtain rfl : g' = g := by simpa [Value.ownBlock] using hg
    exact .inr ⟨_, _, _, hgg⟩
end
end Go.Proofs.Ytfghgmojnffgnaa
