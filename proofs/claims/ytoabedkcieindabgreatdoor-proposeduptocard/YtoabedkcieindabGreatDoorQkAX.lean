import Derived.Test.YtoabedkcieindabGreatDoorQkAW
import Derived.Test.YtoabedkcieindabGreatDoorQkAL
import Derived.Test.YtoabedkcieindabGreatDoorQkAS
namespace Go.Proofs.YtoabedkcieindabGreatDoor
open Go.RowKit Go.Maps Go.Sort Go.Shelf
theorem ProgAt.raw {w : World} {S : Nat → Prop} {b : Nat} {d : Dk} (h : ProgAt w S b d) : ∃ m r f : Value, w.heap[b]? = some (.cells #[m, r, f, .bool d.dead, .int .i64 d.turn] 117) ∧ S b := by
  obtain ⟨bm, ps, hst, _⟩ := h
  exact ⟨_, _, _, hst.blk, hst.sb⟩
theorem Lsy.below {w w' : World} {S E : Nat → Prop} {T bd bm bsn : Nat} {s : Sl} {l : List Tr} {d : Dk} {st : Ls} (h : Lsy w S E T bd bm bsn s l d st) (k : Below w.heap.size w w') : Lsy w' S E T bd bm bsn s l d st :=
  ⟨progBelow h.prog k, h.at_.below k, h.dj, h.nT, h.nm, h.nn⟩
theorem LsAt.recell {w w' : World} {E : Nat → Prop} {T bd bm bsn : Nat} {s : Sl} {l : List Tr} {st st' : Ls} (h : LsAt w E T bd bm bsn s l st) (k : Kp (fun i => i = T) w w') (hb : w'.heap[T]? = some (lsC bd bm bsn s st')) (hm : st'.mem = st.mem) (hs : st'.snaps = st.snaps) (ht : st'.tabs = st.tabs) : LsAt w' E T bd bm bsn s l st' := by
  have hTn : T ≠ bsn := h.snp.ne h.blk
  have hTm : T ≠ bm := h.mem.ne h.blk
  have nE : ∀ i, E i → ¬ i = T := fun i hi e => h.nE.1 (e ▸ hi)
  exact ⟨hb, by rw [hm]; exact h.mem.kept k (fun e => hTm e.symm) nE, (by rw [hs]; exact h.snp.kept k (fun e => hTn e.symm)), (by rw [hs]; exact h.sn0), h.tab.kept k (fun a ha _ => nE _ (h.inT a ha)), h.es.kept k (fun x hx a ha => nE _ (h.inE x hx a ha)), by rw [ht]; exact h.is, h.inT, h.inE, h.ne, h.nE, fun i hi => Nat.lt_of_lt_of_le (h.bnd i hi) k.size⟩
theorem LsAt.remem {w w' : World} {E : Nat → Prop} {T bd bm bsn : Nat} {s : Sl} {l : List Tr} {st st' : Ls} (h : LsAt w E T bd bm bsn s l st) (k : Kp (fun i => i = bm) w w') (hm : MemAt w' (fun i => Nw E w i ∧ i < w'.heap.size) bm st'.mem) (hb : lsC bd bm bsn s st' = lsC bd bm bsn s st) (hs : st'.snaps = st.snaps) (ht : st'.tabs = st.tabs) : LsAt w' (fun i => Nw E w i ∧ i < w'.heap.size) T bd bm bsn s l st' := by
  have hTm : T ≠ bm := h.mem.ne h.blk
  have nE : ∀ i, E i → ¬ i = bm := fun i hi e => h.nE.2.1 (e ▸ hi)
  have hT := lt_of_block h.blk
  have hM := h.mem.lt
  have hN := h.snp.lt
  have up : ∀ i, E i → Nw E w i ∧ i < w'.heap.size := fun i hi => ⟨.inl hi, Nat.lt_of_lt_of_le (h.bnd i hi) k.size⟩
  refine ⟨by rw [hb]; exact (k.block T hT hTm).trans h.blk, hm, (by rw [hs]; exact h.snp.kept k (fun e => h.ne e.symm)), (by rw [hs]; exact h.sn0), h.tab.kept k (fun a ha _ => nE _ (h.inT a ha)), h.es.kept k (fun x hx a ha => nE _ (h.inE x hx a ha)), by rw [ht]; exact h.is, fun a ha => up _ (h.inT a ha), fun x hx a ha => up _ (h.inE x hx a ha), h.ne, ⟨?_, ?_, ?_⟩, fun i hi => hi.2⟩
  · rintro ⟨x | x, _⟩; exact h.nE.1 x; omega
  · rintro ⟨x | x, _⟩; exact h.nE.2.1 x; omega
  · rintro ⟨x | x, _⟩; exact h.nE.2.2 x; omega
end Go.Proofs.YtoabedkcieindabGreatDoor

namespace Go.Proofs.YtoabedkcieindabGreatDoor
open Go.RowKit Go.Maps Go.Sort Go.Shelf
attribute [local go_sem] Oper.semAt_some
theorem Tryz.info49 : (Tryz.prog.info? 49).map (fun i => (i.zero, i.size, i.bytes)) = some (some (.agg #[.string ByteArray.empty, .string ByteArray.empty]), 2, 32) := by kernel_rfl
def pC (x : Nm × Nm) : List Value := [str x.1, str x.2]
theorem pC_len (x : Nm × Nm) : (pC x).length = 2 := rfl
theorem pC_one (x : Nm × Nm) : ∀ u ∈ pC x, u.oneCell' = true := by intro u hu; simp [pC] at hu; rcases hu with rfl | rfl <;> rfl
abbrev OwnPr (w : World) (base : Nat) (v : Value) (l : List (Nm × Nm)) : Prop := OwnR 49 pC 2 w base v l
structure ScI (w : World) (B : Nat) (W : World) (lim : Int) (v : Value) (ps : List (Nm × Nm)) : Prop where
  bl : Boxed W w.heap.size 3 (.int .i64 lim)
  bp : Boxed W (w.heap.size + 1) 28 v
  row : OwnPr W B v ps
  hB : w.heap.size + 2 ≤ B
  bel : Below w.heap.size w W
  len : (ps.length : Int) ≤ lim
theorem ScI.stay {w W W' : World} {B : Nat} {lim : Int} {v : Value} {ps : List (Nm × Nm)} (h : ScI w B W lim v ps) (k : ∀ (j : Nat) (cs : Array Value) (t : TypeId) (z : Nat × Nat), W.heap[j]? = some (.cells cs t z) → (j < w.heap.size + 2 ∨ t = 49) → W'.heap[j]? = some (.cells cs t z)) (hb : Below w.heap.size w W')   : ScI w B W' lim v ps := by
  refine ⟨k _ _ _ _ h.bl (.inl (by omega)), k _ _ _ _ h.bp (.inl (by omega)), ⟨h.row.1, ?_⟩, h.hB, hb, h.len⟩
  rcases h.row.2 with hn | ⟨g, cap, cur, hv, hbb, hg, rest⟩
  · exact .inl hn
  · exact .inr ⟨g, cap, cur, hv, hbb, k _ _ _ _ hg (.inr rfl), rest⟩
theorem ScI.below {w W W' : World} {B : Nat} {lim : Int} {v : Value} {ps : List (Nm × Nm)} (h : ScI w B W lim v ps) (k : Below W.heap.size W W')   : ScI w B W' lim v ps :=
  h.stay (fun j _ _ _ hj _ => (k.block j (lt_of_block hj)).trans hj) (h.bel.trans (k.mono h.bel.size))
theorem ScI.tn {w A B : World} {M : Nat} {lim : Int} {v : Value} {ps : List (Nm × Nm)} {b : Nat} (h : ScI w M A lim v ps) (k : TnH b A B) (hb : w.heap.size + 2 ≤ b) : ScI w M B lim v ps := by
  have kk : Kp _ A B := k
  refine h.stay (fun j cs t z hj ho => kk.at hj ?_) ⟨kk.os.trans h.bel.os, kk.tape.trans h.bel.tape, kk.output.trans h.bel.output, Nat.le_trans h.bel.size kk.size, fun i hi => (kk.block i (Nat.lt_of_lt_of_le hi h.bel.size) (fun e => by have := e.1; omega)).trans (h.bel.block i hi)⟩
  rintro ⟨h1, o, h2, h3⟩
  rw [hj] at h2
  cases h2
  rcases ho with ho | rfl
  · omega
  · rcases h3 with h3 | ⟨cs', z', e⟩ | ⟨cs', z', e⟩
    · cases h3
    · simp only [Obj.cells.injEq] at e; exact absurd e.2.1 (by decide)
    · simp only [Obj.cells.injEq] at e; exact absurd e.2.1 (by decide)
theorem ScI.grown {w A B : World} {M : Nat} {lim : Int} {v : Value} {ps : List (Nm × Nm)} {row : Option Nat} (h : ScI w M A lim v ps) (k : A.grownBy B row) (hr : ∀ r, row = some r → w.heap.size ≤ r ∧ ∃ o : Obj, A.heap[r]? = some o ∧ o.isCells = false) : ScI w M B lim v ps := by
  refine h.stay (fun j cs t z hj _ => (k.block j (lt_of_block hj) (fun e => ?_)).trans hj) (h.bel.trans ⟨k.os, k.tape, k.output, k.size, fun i hi => k.block i (Nat.lt_of_lt_of_le hi h.bel.size) (fun e => by have := (hr i e.symm).1; omega)⟩)
  obtain ⟨_, o, ho, hc⟩ := hr j e.symm
  rw [hj] at ho; cases ho; cases hc
theorem own_cellsP {W : World} {base : Nat} {v : Value} {l : List (Nm × Nm)} (h : OwnPr W base v l) {i : Nat} (e : v.ownBlock = some i) : ∃ (cs : Array Value) (z : Nat × Nat), W.heap[i]? = some (Obj.cells cs 49 z) := by
  rcases h.2 with ⟨rfl, _⟩ | ⟨g, cap, cur, rfl, _, hg, _⟩
  · simp [Value.ownBlock] at e
  · obtain rfl : g = i := by simpa [Value.ownBlock] using e
    exact ⟨_, _, hg⟩
theorem ScI.add {w W W' : World} {B : Nat} {lim : Int} {v v' : Value} {ps : List (Nm × Nm)} {x : Nm × Nm} (h : ScI w B W lim v ps) (hl : (ps.length : Int) + 1 ≤ lim) (ho : OwnPr W' B v' (ps ++ [x])) (k : Kp (fun i => v.ownBlock = some i) W W') :
    Boxed W' (w.heap.size + 1) 28 v ∧ ScI w B (W'.setCell ⟨w.heap.size + 1, 0, none⟩ v') lim v' (ps ++ [x]) ∧ Kp (fun i => i = w.heap.size + 1 ∨ v.ownBlock = some i) W (W'.setCell ⟨w.heap.size + 1, 0, none⟩ v') := by
  have hhB := h.hB
  have f7 : Boxed W' (w.heap.size + 1) 28 v := k.at h.bp (fun e => by have := (World.ownsRow.lt h.row _ e).1; omega)
  have f6 : Boxed W' w.heap.size 3 (.int .i64 lim) := k.at h.bl (fun e => by have := (World.ownsRow.lt h.row _ e).1; omega)
  have k2 : Kp (fun i => i = w.heap.size + 1 ∨ v.ownBlock = some i) W (W'.setCell ⟨w.heap.size + 1, 0, none⟩ v') := (k.mono (fun _ e => .inr e)).put (.inl rfl) _
  have ks := Kp.set1 W' (w.heap.size + 1) 0 v'
  have hsz := h.bel.size
  refine ⟨f7, ⟨block_set_ne f6 (by omega) _, ?_, ho.kept ks (fun g hg e => by subst e; have := (World.ownsRow.lt ho _ hg).1; omega), h.hB, ?_, by rw [List.length_append]; simp; omega⟩, k2⟩
  · show (W'.setCell ⟨w.heap.size + 1, 0, none⟩ v').heap[w.heap.size + 1]? = _
    rw [block_set f7]; rfl
  · exact ⟨k2.os.trans h.bel.os, k2.tape.trans h.bel.tape, k2.output.trans h.bel.output, Nat.le_trans h.bel.size k2.size, fun i hi => (k2.block i (by omega) (by
      rintro (e | e)
      · omega
      · have := (World.ownsRow.lt h.row i e).1; omega)).trans (h.bel.block i hi)⟩
def ScX (w : World) (B : Nat) (lim : Int) (pre : List (Nm × Nm)) (V : World) : Prop := ∃ v ps y, pre = ps ++ [y] ∧ (ps.length : Int) = lim ∧ ScI w B V lim v ps
theorem OwnR.lowP {w : World} {base base' : Nat} {v : Value} {l : List (Nm × Nm)} (h : OwnPr w base v l) (hb : base' ≤ base) : OwnPr w base' v l := by
  refine ⟨h.1, ?_⟩
  rcases h.2 with hn | ⟨g, cap, cur, hv, hbb, rest⟩
  · exact .inl hn
  · exact .inr ⟨g, cap, cur, hv, Nat.le_trans hb hbb, rest⟩
def scT (T a n1 : Nat) (bt : Int) (lo hi : Nm) (lim : Int) (q : Option Addr) (n qc Bx : Nat) (x : Nm × Nm) : Array Value :=
  #[.pointer (some ⟨T, 0, none⟩), .int .i64 bt, str lo, str hi, .int .i64 lim, undef, undef, undef, undef, .pointer (some ⟨a, 0, none⟩), .slice none 0 0, .int .i64 0, .pointer (some ⟨a + 1, 0, none⟩), .pointer (some ⟨Bx, 0, none⟩), .int .i64 lim, .bool (decide (lim < 0)), .int .i64 bt, .pointer (some ⟨T, 0, none⟩), str lo, str hi, .slice q n qc,
    .func (.func 195) #[] #[.pointer (some ⟨n1, 0, none⟩)], .func (.func 206) #[] #[.pointer (some ⟨n1 + 1 + 1, 0, none⟩), .pointer (some ⟨n1 + 1, 0, none⟩)], aggP x, undef, undef, undef, undef, undef, undef, undef, undef, undef, undef, undef, undef, undef, undef, undef]
def scanX (bt : Int) (lo hi : Nm) (st : Ls) : List (Nm × Nm) := behF bt [] (mergeL (betM lo hi st.mem :: (newF st.tabs).map (betL lo hi)))
set_option maxRecDepth 100000 in
set_option maxHeartbeats 800000 in
theorem scanBehind_any (T bd bm bsn : Nat) (s : Sl) (l : List Tr) (st : Ls) (E : Nat → Prop) (bt : Int) (lo hi : Nm) (lim : Int) (w : World) (hL : LsAt w E T bd bm bsn s l st) (hr : rising st.mem) (hml : st.mem.length ≤ 100000) (hfl : (flatM st.mem).length ≤ 100000) (hkn : ∀ x ∈ st.mem, x.1.length ≤ 1099511627776) (hll : l.length ≤ 1000) (hel : ∀ x ∈ l, x.1.es.length ≤ 100000 ∧ srt x.1.es)
    (hl0 : 0 ≤ lim) (hl1 : lim ≤ 9223372036854775807) (hG : ∀ e ∈ mergeL (betM lo hi st.mem :: (newF st.tabs).map (betL lo hi)), e.op.gone = false → e.op.key.length ≤ 1000 ∧ e.op.val.length ≤ 1000) (hsum : (mergeL (betM lo hi st.mem :: (newF st.tabs).map (betL lo hi))).length ≤ 100000) :
    Calls Tryz.prog 74 #[.pointer (some ⟨T, 0, none⟩), .int .i64 bt, str lo, str hi, .int .i64 lim] w fun e w' => ∃ v, e = .returned (.tuple #[v, .int .i64 0]) ∧ OwnPr w' w.heap.size v ((scanX bt lo hi st).take lim.toNat) ∧ Below w.heap.size w w' := by
  have hmx : Tryz.prog.follows .mixedOrders = true := by kernel_rfl
  have hB1 : Below w.heap.size w ((w.alloc (.cells #[.int .i64 lim] 3)).alloc (.cells #[.slice none 0 0] 28)) := ((Below.refl _ w).alloc (Nat.le_refl _) _).alloc (by simp) _
  have hLb : CallsIn Fence.wide 6 Tryz.prog 104 #[.pointer (some ⟨T, 0, none⟩), str lo, str hi] ((w.alloc (.cells #[.int .i64 lim] 3)).alloc (.cells #[.slice none 0 0] 28)) _ := callsIn_wide.2 (layersBetween_any T bd bm bsn s l st E lo hi _ (hL.below hB1) hr hml hfl hkn hll hel)
  refine (callsIn_wide (n := 7)).1 ?_
  have hf1 : Fence.wide.fn 104 := trivial
  have hf2 : Fence.wide.fn 124 := trivial
  have hf3 : Fence.wide.fn 131 := trivial
  refine callsIn_of_wp_marks Tryz.func74 rfl trivial ?_ rfl
  simp only [Tryz.ntmps74, List.size_toArray, List.length_cons, List.length_nil, Nat.reduceAdd, Nat.reduceSub, Array.replicate_succ, Array.replicate_zero, List.push_toArray, List.append_toArray, List.nil_append, List.cons_append]
  gi_wp2_with (first
    | (gi_at_call 104; refine hLb.mono ?_; rintro e w1 ⟨q, qc, xs, rfl, hb1, ho1, hs1, hx1⟩; clear hLb)
    | (gi_at_call 124; refine (layMerge_in q xs.length qc _ w1).mono ?_; rintro e w2 ⟨rfl, rfl⟩)
    | (gi_at_call 131; refine (layBehind_in bt w1.heap.size _ _).mono ?_; rintro e w3 ⟨rfl, rfl⟩))
  have hz0 : w.heap.size + 2 ≤ w1.heap.size := by have := hb1.size; simpa using this
  have hB3 : Below w1.heap.size w1 (((w1.alloc (.cells #[.slice q xs.length qc] 133)).alloc (.cells #[.int .i64 bt] 3)).alloc (.cells #[.func (.func 195) #[] #[.pointer (some ⟨w1.heap.size, 0, none⟩)]] 172)) := (((Below.refl _ w1).alloc (Nat.le_refl _) _).alloc (by simp) _).alloc (by simp; omega) _
  have x1 := ((Boxed.new w1 133 (.slice q xs.length qc)).alloc (.cells #[.int .i64 bt] 3)).alloc (.cells #[.func (.func 195) #[] #[.pointer (some ⟨w1.heap.size, 0, none⟩)]] 172)
  have xb := (Boxed.new (w1.alloc (.cells #[.slice q xs.length qc] 133)) 3 (.int .i64 bt)).alloc (.cells #[.func (.func 195) #[] #[.pointer (some ⟨w1.heap.size, 0, none⟩)]] 172)
  have xe := Boxed.new ((w1.alloc (.cells #[.slice q xs.length qc] 133)).alloc (.cells #[.int .i64 bt] 3)) 172 (.func (.func 195) #[] #[.pointer (some ⟨w1.heap.size, 0, none⟩)])
  simp only [World.size_alloc] at xb xe
  have hsz : (((w1.alloc (.cells #[.slice q xs.length qc] 133)).alloc (.cells #[.int .i64 bt] 3)).alloc (.cells #[.func (.func 195) #[] #[.pointer (some ⟨w1.heap.size, 0, none⟩)]] 172)).heap.size = w1.heap.size + 3 := by simp
  have y0 : Boxed w1 w.heap.size 3 (.int .i64 lim) := (hb1.block _ (by simp; omega)).trans ((Boxed.new w 3 (.int .i64 lim)).alloc (.cells #[.slice none 0 0] 28))
  have y1 : Boxed w1 (w.heap.size + 1) 28 (.slice none 0 0) := by
    have := Boxed.new (w.alloc (.cells #[.int .i64 lim] 3)) 28 (.slice none 0 0)
    simp only [World.size_alloc] at this
    exact (hb1.block _ (by simp)).trans this
  obtain ⟨q', c', hv', hly, hqn, hqa⟩ := OwnL.lyp ho1 hs1
  obtain ⟨rfl, -, rfl⟩ := Value.slice.inj hv'
  clear hv'
  have hbw1 : Below w.heap.size w w1 := hB1.trans (hb1.mono (by simp; omega))
  generalize ((w1.alloc (.cells #[.slice q xs.length qc] 133)).alloc (.cells #[.int .i64 bt] 3)).alloc (.cells #[.func (.func 195) #[] #[.pointer (some ⟨w1.heap.size, 0, none⟩)]] 172) = W3 at *
  have hN0 : ScI w W3.heap.size W3 lim (.slice none 0 0) [] := ⟨(hB3.block _ (by omega)).trans y0, (hB3.block _ (by omega)).trans y1, OwnR.nil _ _ _ _ _, by omega, hbw1.trans (hB3.mono (by omega)), by simpa using hl0⟩
  have hsum' : sumL xs ≤ 100000 := by
    have e1 : (mergeL (xs.map (·.2))).length = sumL xs := by unfold mergeL; rw [merge_len _ _ rfl, sum_flat]
    rw [← e1, hx1]; exact hsum
  have hxl : xs.length ≤ 1000000 := by have := congrArg List.length hx1; simp [newF] at this; rw [← hL.is] at this; simp at this; omega
  have hZz : ∀ x ∈ xs, ∀ a, x.1.1 = some a → 0 < x.2.length → a.block < W3.heap.size ∧ a.block ≠ w.heap.size + 1 := fun x hx a ha h0 => by
    obtain ⟨g, off, e, c0, _⟩ := (hs1 x hx).row 0 h0
    rw [ha] at e; cases e
    have hlt := World.block_lt_of_cell? w1 _ c0
    refine ⟨by simp only at hlt ⊢; omega, fun e => ?_⟩
    simp only at e
    subst e
    rw [cell_block y1] at c0
    cases off with
    | zero => simp at c0
    | succ o => simp at c0
  refine rangeFunc_U (Kr := KrH (fun k => k < W3.heap.size ∧ k ≠ w.heap.size + 1)) (Tn := TnH) rfl (by decide) (gf := 206) (lb := #[.pointer (some ⟨w1.heap.size + 1 + 1, 0, none⟩), .pointer (some ⟨w1.heap.size + 1, 0, none⟩)]) rfl trivial (enters_of Tryz.func206 (by kernel_rfl) rfl)
    (behind_seq w1.heap.size (w1.heap.size + 1 + 1) (w1.heap.size + 1) _ q qc xs bt (fun p => p.1.length ≤ 1000 ∧ p.2.length ≤ 1000) (fun e he => hG e (by rw [← hx1]; exact he)) W3 xe xb x1 (hly.below hB3) hqn hqa (fun k hk => hk.1) ⟨by omega, by omega⟩ hZz hxl)
    (fun h k => ⟨Nat.le_trans h.size k.size, fun i z hi => (k.low i z (Nat.lt_of_lt_of_le hi h.size)).trans (h.low i z hi), fun i o hb hi hn => k.up i o hb (h.up i o hb hi hn) hn⟩)
    (fun V o o' ho hc _ => ⟨by simp, fun k hk hlt => World.putObj_heap_other (by omega), fun k o2 hk hkk _ => (World.putObj_heap_other (by omega)).trans hkk⟩)
    (fun h j o hj hjo _ _ => Kp.at h hjo (fun e => by have := e.1; omega)) (Below.refl _ _) (fun _ => rfl)
    (fun pre V => W3.heap.size ≤ V.heap.size ∧ ∃ v, ScI w W3.heap.size V lim v pre)
    (fun c pre V => c = .exit 0 ∧ ScX w W3.heap.size lim pre V)
    (fun pre A B row h hg hr => by obtain ⟨hz, v, h⟩ := h; exact ⟨Nat.le_trans hz hg.size, v, h.grown hg (fun r e => ⟨by have := (hr r e).1; omega, (hr r e).2⟩)⟩)
    (fun c pre A B row h hg hr => by obtain ⟨h0, v, ps, y, h1, h2, h⟩ := h; exact ⟨h0, v, ps, y, h1, h2, h.grown hg (fun r e => ⟨by have := (hr r e).1; omega, (hr r e).2⟩)⟩)
    (fun pre A B h ht => by obtain ⟨hz, v, h⟩ := h; exact ⟨Nat.le_trans hz (show Kp _ A B from ht).size, v, h.tn ht (by omega)⟩)
    (fun c pre A B h ht => by obtain ⟨h0, v, ps, y, h1, h2, h⟩ := h; exact ⟨h0, v, ps, y, h1, h2, h.tn ht (by omega)⟩)
    ⟨Nat.le_refl _, _, hN0⟩
    (fun x a' V => ∃ Bx v, V.heap[Bx]? = some (Obj.cells #[str x.1, str x.2] 49) ∧ (Boxed V (w.heap.size + 1) 28 v ∧ v.ownBlock ≠ some Bx) ∧ a' = { tmps := scT T w.heap.size w1.heap.size bt lo hi lim q xs.length qc Bx x, defers := [] })
    (fun x a' _ X Y row hs hg hr => by
      obtain ⟨Bx, v, k2, ⟨k3, k4⟩, k7⟩ := hs
      have keep : ∀ {k : Nat} {cs : Array Value} {t : TypeId} {z : Nat × Nat}, X.heap[k]? = some (Obj.cells cs t z) → Y.heap[k]? = some (Obj.cells cs t z) := fun hk => (hg.block _ (lt_of_block hk) (fun e => by
        obtain ⟨_, o, ho, hc⟩ := hr _ e.symm
        rw [hk] at ho; cases ho; cases hc)).trans hk
      exact ⟨Bx, v, keep k2, ⟨keep k3, k4⟩, k7⟩)
    ?assign ?body ?done ?stop
  case assign =>
    rintro i pre x V K ⟨hzV, v, hN⟩ hK
    gi_wp2
    refine hK _ _ ((KeepsOthers.alloc _ _).from _) ⟨by simp, fun k _ hlt => ((Below.refl _ V).alloc (Nat.le_refl _) _).block k hlt, fun k o _ ho _ => block_alloc ho⟩ ⟨by simp; omega, v, hN.below ((Below.refl _ V).alloc (Nat.le_refl _) _)⟩ ⟨V.heap.size, v, block_new _ _, ⟨hN.bp.alloc _, fun e => Nat.lt_irrefl _ (World.ownsRow.lt hN.row _ e).2⟩, ?_⟩
    rfl
  case body =>
    rintro i pre x a' V hlo _ ⟨hzV, v, hN⟩ ⟨Bx, v0, hpx, ⟨ha0, hsa⟩, rfl⟩ hlt hGx
    obtain rfl : v0 = v := by have := ha0.symm.trans hN.bp; simpa using this
    obtain ⟨xk, xv⟩ := x
    have hlen := hN.len
    obtain ⟨av, cv, rfl⟩ := hN.row.shape
    have cp := hN.bp.cell
    have cl := hN.bl.cell
    unfold scT
    by_cases hle : (pre.length : Int) = lim
    · have HX : Hid (ScX w W3.heap.size lim (pre ++ [(xk, xv)]) V) := ⟨_, pre, (xk, xv), rfl, hle, hN⟩
      clear hN ha0 hlen
      have hle' : ((pre.length : Int) == lim) = true := by simpa using hle
      clear hle
      gi_wp2
      exact ⟨KeepsFrom.refl _ _, ⟨Nat.le_refl _, fun _ _ _ => rfl, fun _ _ _ h _ => h⟩, rfl, (by have := HX.out; rw [hsz] at this; exact this)⟩
    · have hle' : ((pre.length : Int) == lim) = false := by simpa using hle
      gi_wp2
      have hNd := hN.below ((Below.refl _ V).drew)
      refine wpIn_region_E (S := fun w' => Boxed w' (w.heap.size + 1) 28 (.slice av pre.length cv) ∧ w'.heap[Bx]? = some (Obj.cells #[str xk, str xv] 49)) hmx (by kernel_rfl) ?lets ?_
      case lets => rintro ⟨_, _, h⟩; exact h
      have hS0 : Boxed V.drew (w.heap.size + 1) 28 (.slice av pre.length cv) ∧ V.drew.heap[Bx]? = some (Obj.cells #[str xk, str xv] 49) := ⟨hNd.bp, hpx⟩
      refine wpAnyE_take (i := 0) (L := 9) (v := .slice av pre.length cv) rfl rfl (by decide) (by kernel_rfl) (by kernel_rfl) (by kernel_rfl) (by kernel_rfl) (by kernel_rfl) (fun _ _ _ h => h) (Or.inl ⟨by rfl, fun w' hS => ?_⟩) hS0 ?_
      · have := hS.1.cell; go_simp
      refine wpAnyE_take (i := 1) (L := 2) (v := .pointer (some ⟨Bx, 0, none⟩)) rfl rfl (by decide) (by kernel_rfl) (by kernel_rfl) (by kernel_rfl) (by kernel_rfl) (by kernel_rfl) (fun _ _ _ h => h) (Or.inl ⟨by rfl, fun w' hS => ?_⟩) hS0 ?_
      · go_simp
      refine wpAnyE_take (i := 2) (L := 3) (v := str xk) rfl rfl (by decide) (by kernel_rfl) (by kernel_rfl) (by kernel_rfl) (by kernel_rfl) (by kernel_rfl) (fun _ _ _ h => h) (Or.inl ⟨by rfl, fun w' hS => ?_⟩) hS0 ?_
      · have := (cell_block hS.2 (j := 0)); go_simp
      refine wpAnyE_take (i := 4) (L := 5) (v := .pointer (some ⟨Bx, 1, none⟩)) rfl rfl (by decide) (by kernel_rfl) (by kernel_rfl) (by kernel_rfl) (by kernel_rfl) (by kernel_rfl) (fun _ _ _ h => h) (Or.inl ⟨by rfl, fun w' hS => ?_⟩) hS0 ?_
      · go_simp
      refine wpAnyE_take (i := 5) (L := 6) (v := str xv) rfl rfl (by decide) (by kernel_rfl) (by kernel_rfl) (by kernel_rfl) (by kernel_rfl) (by kernel_rfl) (fun _ _ _ h => h) (Or.inl ⟨by rfl, fun w' hS => ?_⟩) hS0 ?_
      · have := (cell_block hS.2 (j := 1)); go_simp
      refine wpAnyE_one (i := 3) (by kernel_rfl) rfl (by rfl) (fun K hK => ?_)
      go_simp
      refine (sCl (n := xk) (by have := hGx.1; omega) _).mono ?_
      rintro e w4 ⟨rfl, hb4⟩
      have hN4 := hNd.below hb4
      have hp4 : w4.heap[Bx]? = some (Obj.cells #[str xk, str xv] 49) := (hb4.block _ (lt_of_block hpx)).trans hpx
      refine hK.out _ _ ⟨hN4.bp, hp4⟩ ?_
      clear hK
      refine wpAnyE_one (i := 6) (by kernel_rfl) rfl (by rfl) (fun K hK => ?_)
      go_simp
      refine (sCl (n := xv) (by have := hGx.2; omega) _).mono ?_
      rintro e w5 ⟨rfl, hb5⟩
      have hN5 := hN4.below hb5
      have hp5 : w5.heap[Bx]? = some (Obj.cells #[str xk, str xv] 49) := (hb5.block _ (lt_of_block hp4)).trans hp4
      refine hK.out _ _ ⟨hN5.bp, hp5⟩ ?_
      clear hK
      refine wpAnyE_take (i := 7) (L := 8) (v := aggP (xk, xv)) rfl rfl (by decide) (by kernel_rfl) (by kernel_rfl) (by kernel_rfl) (by kernel_rfl) (by kernel_rfl) (fun _ _ _ h => h) (Or.inl ⟨by rfl, fun w' hS => ?_⟩) ⟨hN5.bp, hp5⟩ ?_
      · go_simp
      refine wpAnyE_one (i := 8) (by kernel_rfl) rfl (by rfl) (fun K hK => ?_)
      go_simp
      have hN6 := hN5.below ((Below.refl _ w5).alloc (Nat.le_refl _) (.cells #[str xk, str xv] 49))
      have hp6 : (w5.alloc (.cells #[str xk, str xv] 49)).heap[Bx]? = some (Obj.cells #[str xk, str xv] 49) := block_alloc hp5
      refine hK.out _ _ ⟨hN6.bp, hp6⟩ ?_
      clear hK
      obtain ⟨v', W', hrun, hown', kp', hat'⟩ := appR_run (fl := pC) (sz := 2) (ts := 28) (sc := 1) (L := [(xk, xv)]) Tryz.info49 rfl (by decide) Tryz.underlying28 pC_len pC_one hN6.row (rp_block pC_len (l := [(xk, xv)]) (block_new w5 _) rfl) (by have := hb4.size; have := hb5.size; simp only [World.size_drew] at *; simp; omega) (by simp; omega) (by decide) 28
      refine wpAnyE_one (i := 9) (by kernel_rfl) rfl (by rfl) (fun K hK => ?_)
      obtain ⟨f7, hN7, k7⟩ := hN6.add (by omega) hown' kp'
      refine wp_append_run rfl rfl rfl hrun ?_
      refine hK.out _ _ ⟨f7, kp'.at hp6 hsa⟩ ?_
      clear hK
      have c7 := f7.cell
      have z7 := f7.frozen
      obtain ⟨a8, c8, rfl⟩ : ∃ a c, v' = .slice a (pre.length + 1) c := by obtain ⟨a, c, h⟩ := hown'.shape; exact ⟨a, c, by rw [h]; simp⟩
      refine wpAnyE_last (i := 10) (by kernel_rfl) rfl (by rfl) (by kernel_rfl) (by kernel_rfl) (fun K hK => ?_)
      go_simp
      refine hK.out _ _ ?_
      clear hK
      have kt : Kp (fun i => i = w.heap.size + 1 ∨ (Value.slice av pre.length cv).ownBlock = some i) V _ := (((((Kp.refl _ V).drew).trans (T := fun _ => False) (Kp.of_below hb4) (fun _ _ f => f.elim)).trans (T := fun _ => False) (Kp.of_below hb5) (fun _ _ f => f.elim)).alloc _).trans k7 (fun i _ s => s)
      refine ⟨keeps_of_kp kt (fun j hj => ?_), ⟨kt.size, fun k hk hlt => kt.block k hlt ?_, fun k o hk ho hn => kt.at ho ?_⟩, Nat.le_trans hzV kt.size, _, hN7⟩
      · rcases hj with rfl | e
        · exact ⟨_, _, _, hN.bp⟩
        · obtain ⟨cs, z, hc⟩ := own_cellsP hN.row e; exact ⟨_, _, _, hc⟩
      · rintro (e | e)
        · exact hk.2 e
        · have := (World.ownsRow.lt hN.row k e).1; have := hk.1; omega
      · rintro (e | e)
        · omega
        · obtain ⟨cs, z, hc⟩ := own_cellsP hN.row e
          rw [ho] at hc
          exact hn cs z (Option.some.inj hc)
  case done =>
    rintro D ys V hD hys ⟨_, v, hN⟩ hK
    have hc := hN.bp.cell
    obtain ⟨av, cv, rfl⟩ := hN.row.shape
    have HY : Hid (ys = scanX bt lo hi st) := by show _ = _; rw [hys, hx1]; rfl
    have hlen := hN.len
    clear hys
    gi_wp2
    refine ⟨by simp, .inl ⟨_, _, rfl, run_takeDeferred hK, ?_⟩⟩
    refine ⟨_, results_tmp2 rfl _ _ _, _, rfl, ?_, hN.bel.trans (belowK_b (w := w) (Nat.le_refl _) V D _ _ (by omega) hK rfl rfl)⟩
    rw [← HY.out, List.take_of_length_le (by omega)]
    exact ownsRow_putObj (OwnR.lowP hN.row (by omega)) _ hK rfl
  case stop =>
    rintro D c pre V hD hpre ⟨rfl, v, ps, y, rfl, hpl, hN⟩ hK
    have hc := hN.bp.cell
    obtain ⟨av, cv, rfl⟩ := hN.row.shape
    have HY : Hid (ps = (scanX bt lo hi st).take lim.toNat) := by
      show _ = _
      have e1 : behF bt [] (mergeL (xs.map (·.2))) = scanX bt lo hi st := by rw [hx1]; rfl
      rw [e1] at hpre
      obtain ⟨r, hr⟩ := hpre
      rw [← hr, List.append_assoc, List.take_left' (by omega)]
    clear hpre hpl
    gi_wp2
    refine ⟨by simp, .inl ⟨_, _, rfl, run_takeDeferred hK, ?_⟩⟩
    refine ⟨_, results_tmp2 rfl _ _ _, _, rfl, ?_, hN.bel.trans (belowK_b (w := w) (Nat.le_refl _) V D _ _ (by omega) hK rfl rfl)⟩
    rw [← HY.out]
    exact ownsRow_putObj (OwnR.lowP hN.row (by omega)) _ hK rfl
end Go.Proofs.YtoabedkcieindabGreatDoor

namespace Go.Proofs.YtoabedkcieindabGreatDoor
open Go.RowKit Go.Maps Go.Sort Go.Shelf
theorem CmPost.up {w w1 w2 : World} {S E : Nat → Prop} {T bd bm bsn : Nat} {r : Int × Dk × Ls} (h : CmPost w1 w2 S E T bd bm bsn r) (hz : w.heap.size ≤ w1.heap.size) : CmPost w w2 S E T bd bm bsn r := by
  obtain ⟨S', E', s', l', h1, h2, h3⟩ := h
  exact ⟨S', E', s', l', fun k hk => (h1 k hk).imp id (Nat.le_trans hz), fun k hk => (h2 k hk).imp id (Nat.le_trans hz), h3⟩
end Go.Proofs.YtoabedkcieindabGreatDoor

namespace Go.Proofs.YtoabedkcieindabGreatDoor
open Go.RowKit Go.Maps Go.Sort Go.Shelf
theorem CmPost.via {w w1 w2 : World} {S E S1 E1 : Nat → Prop} {T bd bm bsn : Nat} {r : Int × Dk × Ls} (h : CmPost w1 w2 S1 E1 T bd bm bsn r) (hz : w.heap.size ≤ w1.heap.size) (hS : ∀ k, S1 k → Nw S w k) (hE : ∀ k, E1 k → Nw E w k) : CmPost w w2 S E T bd bm bsn r := by
  obtain ⟨S', E', s', l', h1, h2, h3⟩ := h
  exact ⟨S', E', s', l', fun k hk => (h1 k hk).elim (hS k) (fun h => .inr (Nat.le_trans hz h)), fun k hk => (h2 k hk).elim (hE k) (fun h => .inr (Nat.le_trans hz h)), h3⟩
theorem Opp.kept {w w' : World} {S : Nat → Prop} {q : Option Addr} {l : List Ox} (h : Opp w q l) (k : Kp S w w') (hq : ∀ a, q = some a → 0 < l.length → ¬ S a.block) : Opp w' q l := fun i hi => by
  obtain ⟨g, off, rfl, c0, c1, c2⟩ := h i hi
  have hbk := k.block g (World.block_lt_of_cell? w ⟨g, off + i * 3, none⟩ c0) (hq _ rfl (by omega))
  exact ⟨g, off, rfl, by rw [World.cell?_of_block hbk]; exact c0, by rw [World.cell?_of_block hbk]; exact c1, by rw [World.cell?_of_block hbk]; exact c2⟩
theorem batch_mid {w w4 w5 w8 w9 w10 : World} {S E : Nat → Prop} {T bd bm bsn : Nat} {s : Sl} {l : List Tr} {d d1 : Dk} {st st1 : Ls} (h : Lsy w S E T bd bm bsn s l d st) (hB4 : Below w.heap.size w w4) (hP5 : ProgAt w5 (Nw (fun k => S k ∧ k < w.heap.size) w4) bd d1) (k5 : Kp (fun k => S k ∧ k < w.heap.size) w4 w5) (k8 : Kp (fun i => i = T) w5 w8)
    (hb8 : w8.heap[T]? = some (lsC bd bm bsn s { st1 with mem := st.mem })) (hs1 : st1.snaps = st.snaps) (ht1 : st1.tabs = st.tabs) (b9 : Below w8.heap.size w8 w9) (hm : MemAt w10 (Nw E w9) bm st1.mem) (hne : ∀ x ∈ st1.mem, x.2 ≠ []) (k10 : Kp (fun i => i = bm) w9 w10) :
    ∃ S1 E1, Lsy w10 S1 E1 T bd bm bsn s l d1 st1 ∧ (∀ k, S1 k → Nw S w k) ∧ (∀ k, E1 k → Nw E w k) ∧ (∀ k, S1 k → k < w.heap.size → S k) ∧ Kp (fun k => S k ∨ k = T ∨ k = bm) w w10 := by
  have hT := lt_of_block h.at_.blk
  have hM := h.at_.mem.lt
  have hN := h.at_.snp.lt
  have z4 := hB4.size
  have z5 := k5.size
  have z8 := k8.size
  have z9 := b9.size
  have z10 := k10.size
  have hL5 : LsAt w5 E T bd bm bsn s l st := (h.at_.below hB4).kept k5 (fun x => h.nT x.1) (fun x => h.nm x.1) (fun x => h.nn x.1) (fun k hk x => h.dj k hk x.1)
  have hL8 : LsAt w8 E T bd bm bsn s l { st1 with mem := st.mem } := hL5.recell k8 hb8 rfl hs1 ht1
  have hL9 := hL8.below b9
  have hm' : MemAt w10 (fun i => Nw E w9 i ∧ i < w10.heap.size) bm st1.mem := by
    obtain ⟨xs, e, hx, hy⟩ := hm
    refine ⟨xs, e, hx, fun x hxx => ⟨(hy x hxx).1, fun a ha => ⟨(hy x hxx).2 a ha, ?_⟩⟩⟩
    have hn : x.2.2 ≠ [] := hne (x.1, x.2.2) (by rw [← e]; exact List.mem_map.2 ⟨x, hxx, rfl⟩)
    have hpos : 0 < x.2.2.length := by
      cases hx2 : x.2.2 with
      | nil => exact absurd hx2 hn
      | cons a b => simp
    obtain ⟨g, off, hq, c0, _⟩ := (hy x hxx).1.row 0 hpos
    rw [ha] at hq
    cases hq
    exact World.block_lt_of_cell? w10 _ c0
  have hL10 : LsAt w10 (fun i => Nw E w9 i ∧ i < w10.heap.size) T bd bm bsn s l st1 := hL9.remem k10 hm' rfl rfl rfl
  have hTm : T ≠ bm := h.at_.mem.ne h.at_.blk
  refine ⟨fun k => Nw (fun k => S k ∧ k < w.heap.size) w4 k ∧ k < w5.heap.size, _, ⟨?_, hL10, fun k hk hs => ?_, fun hs => ?_, fun hs => ?_, fun hs => ?_⟩, fun k hk => ?_, fun k hk => ?_, fun k hk hlt => ?_, ?_⟩
  · have p5 : ProgAt w5 (fun k => Nw (fun k => S k ∧ k < w.heap.size) w4 k ∧ k < w5.heap.size) bd d1 := hP5.mono (fun k hk x => ⟨x, hk⟩)
    have p8 := p5.kept k8 (fun i hi e => by subst e; rcases hi.1 with x | x; exact h.nT x.1; omega)
    have p9 := progBelow p8 b9
    exact p9.kept k10 (fun i hi e => by subst e; rcases hi.1 with x | x; exact h.nm x.1; omega)
  · rcases hk.1 with x | x
    · rcases hs.1 with y | y
      · exact h.dj k x y.1
      · have := h.at_.bnd k x; omega
    · omega
  · rcases hs.1 with x | x
    · exact h.nT x.1
    · omega
  · rcases hs.1 with x | x
    · exact h.nm x.1
    · omega
  · rcases hs.1 with x | x
    · exact h.nn x.1
    · omega
  · rcases hk.1 with x | x
    · exact .inl x.1
    · exact .inr (by omega)
  · rcases hk.1 with x | x
    · exact .inl x
    · exact .inr (by omega)
  · rcases hk.1 with x | x
    · exact x.1
    · omega
  · have a1 : Kp (fun k => S k ∨ k = T ∨ k = bm) w w4 := Kp.of_below hB4
    have a2 := a1.trans k5 (fun i _ x => .inl x.1)
    have a3 := a2.trans k8 (fun i _ x => .inr (.inl x))
    have a4 := a3.trans (T := fun _ => False) (Kp.of_below b9) (fun _ _ f => f.elim)
    exact a4.trans k10 (fun i _ x => .inr (.inr x))
end Go.Proofs.YtoabedkcieindabGreatDoor

namespace Go.Proofs.YtoabedkcieindabGreatDoor
open Go.RowKit Go.Maps Go.Sort Go.Shelf
theorem getF_head_none {α : Type} {x : Nm × α} {l : List (Nm × α)} (h : rising (x :: l)) : getF x.1 l = none :=
  getF_off fun y hy e => by
    have := (List.pairwise_cons.1 h).1 y hy
    rw [e, WideAt.bytes_irrefl] at this
    cases this
theorem rising_ext {α : Type} : ∀ {l m : List (Nm × α)}, rising l → rising m → (∀ k, getF k l = getF k m) → l = m
  | [], [], _, _, _ => rfl
  | [], y :: m, _, _, h => by have := h y.1; simp [getF] at this
  | x :: l, [], _, _, h => by have := h x.1; simp [getF] at this
  | x :: l, y :: m, hl, hm, h => by
    have hx := h x.1
    have hy := h y.1
    have e1 : getF x.1 (x :: l) = some x.2 := by simp [getF]
    have e2 : getF y.1 (y :: m) = some y.2 := by simp [getF]
    have hk : x.1 = y.1 := by
      refine Classical.byContradiction fun hne => ?_
      rw [e1, getF, if_neg (fun e => hne e.symm)] at hx
      rw [e2, getF, if_neg hne] at hy
      have m1 := (List.pairwise_cons.1 hm).1 _ (getF_mem hx.symm)
      have m2 := (List.pairwise_cons.1 hl).1 _ (getF_mem hy)
      simp only at m1 m2
      rw [lt_asymm m1] at m2
      cases m2
    have hv : x.2 = y.2 := by
      rw [e1, hk, e2] at hx
      exact Option.some.inj hx
    have hxy : x = y := Prod.ext hk hv
    subst hxy
    congr 1
    refine rising_ext (List.pairwise_cons.1 hl).2 (List.pairwise_cons.1 hm).2 (fun k => ?_)
    by_cases hkx : x.1 = k
    · rw [← hkx, getF_head_none hl, getF_head_none hm]
    · have := h k
      rw [getF, getF, if_neg hkx, if_neg hkx] at this
      exact this
theorem startN_nil (l : Ly) : startN [] l = 0 := by
  unfold startN
  cases l with
  | nil => rfl
  | cons e r => rw [List.takeWhile_cons, before_nil]; rfl
theorem betL_all (l : Ly) : betL [] [] l = l := by unfold betL; rw [if_pos rfl, startN_nil]; rfl
theorem scanX_all (b : Int) (st : Ls) : scanX b [] [] st = behF b [] (mergeL st.layers) := by
  unfold scanX Ls.layers
  rw [betM_all]
  congr 3
  rw [List.map_congr_left (g := id) (fun l _ => betL_all l), List.map_id]
set_option maxHeartbeats 400000 in
set_option maxRecDepth 20000 in
theorem sScan_any (T bd bm bsn : Nat) (s : Sl) (l : List Tr) (st : Ls) (E : Nat → Prop) (lo hi : Nm) (lim : Int) (w : World) (hL : LsAt w E T bd bm bsn s l st) {m r f : Value} {dead : Bool} {t : Int} (hd : w.heap[bd]? = some (.cells #[m, r, f, .bool dead, .int .i64 t] 117)) (h0 : lready t dead st = 0)
    (hSc : ∀ w1, Below w.heap.size w w1 → Calls Tryz.prog 74 #[.pointer (some ⟨T, 0, none⟩), .int .i64 st.batch, str lo, str hi, .int .i64 lim] w1 fun e w' => ∃ v, e = .returned (.tuple #[v, .int .i64 0]) ∧ OwnPr w' w1.heap.size v ((scanX st.batch lo hi st).take lim.toNat) ∧ Below w1.heap.size w1 w') :
    Calls Tryz.prog 61 #[.pointer (some ⟨T, 0, none⟩), str lo, str hi, .int .i64 lim] w fun e w' => ∃ v, e = .returned (.tuple #[v, .int .i64 0]) ∧ OwnPr w' w.heap.size v ((scanX st.batch lo hi st).take lim.toNat) ∧ Below w.heap.size w w' := by
  have hR := lReady_any hL hd
  rw [h0] at hR
  have c8' := hL.cell 8
  generalize (scanX st.batch lo hi st).take lim.toNat = X at *
  go_enter Tryz.func61, Tryz.ntmps61
  go_wp2_with (first
    | (go_at_call 56; refine hR.mono ?_; rintro e w1 ⟨rfl, hb1⟩; have c8 : w1.cell? ⟨T, 8, none⟩ = some (.int .i64 st.batch) := cell_below hb1 c8'; have hSc1 := hSc w1 hb1; clear hR c8' hSc)
    | (go_at_call 74; refine hSc1.mono ?_; rintro e w2 ⟨v, rfl, ho, hb2⟩; obtain ⟨a2, k2, rfl⟩ := ho.shape))
  go_ret2
  exact ⟨_, rfl, OwnR.lowP ho hb1.size, hb1.trans (hb2.mono hb1.size)⟩
end Go.Proofs.YtoabedkcieindabGreatDoor

namespace Go.Proofs.YtoabedkcieindabGreatDoor
open Go.RowKit Go.Maps Go.Sort Go.Shelf
set_option maxHeartbeats 400000 in
theorem index_nil (a : Option Addr) (c : Nat) (x : Nm) (w : World) : Calls Tryz.prog 244 #[.slice a 0 c, str x] w fun e w' => e = .returned (.int .i64 (-1)) ∧ w' = w := by
  go_enter Tryz.func244, Tryz.ntmps244
  go_wp2
  go_loop [8] (fun i => i = .int .i64 0) (fun _ => 0)
  case atStart => rfl
  case round =>
    subst hrel
    go_wp2
    go_ret
    exact ⟨rfl, rfl⟩
set_option maxHeartbeats 400000 in
theorem contains_nil (a : Option Addr) (c : Nat) (x : Nm) (w : World) : Calls Tryz.prog 176 #[.slice a 0 c, str x] w fun e w' => e = .returned (.bool false) ∧ w' = w := by
  have h := index_nil a c x w
  go_enter Tryz.func176, Tryz.ntmps176
  go_wp2_with (go_at_call 244; refine h.mono ?_; rintro e w1 ⟨rfl, rfl⟩)
  go_ret
  exact ⟨rfl, rfl⟩
set_option maxHeartbeats 400000 in
set_option maxRecDepth 20000 in
theorem loadTables_nil (T : Nat) (a : Option Addr) (c : Nat) (w : World) : Calls Tryz.prog 113 #[.pointer (some ⟨T, 0, none⟩), .slice a 0 c] w fun e w' => e = .returned (.int .i64 0) ∧ Below w.heap.size w w' := by
  have h := fun w1 => contains_nil a c [109, 97, 110, 105, 102, 101, 115, 116] w1
  go_enter Tryz.func113, Tryz.ntmps113
  go_wp2_with (go_at_call 176; refine (h _).mono ?_; rintro e w1 ⟨rfl, rfl⟩)
  go_ret
  exact ⟨rfl, (Below.refl _ w).alloc (Nat.le_refl _) _⟩
set_option maxHeartbeats 400000 in
set_option maxRecDepth 20000 in
theorem mayHave_nil (T : Nat) (a : Option Addr) (c : Nat) (w : World) : Calls Tryz.prog 114 #[.pointer (some ⟨T, 0, none⟩), .slice a 0 c] w fun e w' => e = .returned (.bool true) ∧ w' = w := by
  go_enter Tryz.func114, Tryz.ntmps114
  go_wp2
  go_loop [13] (fun i => i = .int .i64 0) (fun _ => 0)
  case atStart => rfl
  case round =>
    subst hrel
    go_wp2
    go_ret
    exact ⟨rfl, rfl⟩
set_option maxHeartbeats 400000 in
set_option maxRecDepth 20000 in
theorem loadLog_nil (T : Nat) (a : Option Addr) (c log : Nat) (w : World) (c6 : w.cell? ⟨T, 6, none⟩ = some (.int .i64 log)) (hl : log < 9223372036854775808) : Calls Tryz.prog 115 #[.pointer (some ⟨T, 0, none⟩), .slice a 0 c] w fun e w' => e = .returned (.tuple #[.bool false, .int .i64 0]) ∧ Below w.heap.size w w' := by
  have h := fun w1 => contains_nil a c (lgN log) w1
  have hg := logName_any log w hl
  go_enter Tryz.func115, Tryz.ntmps115
  go_wp2_with (first | (go_at_call 63; refine hg.mono ?_; rintro e w1 ⟨rfl, hb1⟩) | (go_at_call 176; refine (h _).mono ?_; rintro e w2 ⟨rfl, rfl⟩))
  go_ret2
  exact ⟨rfl, hb1⟩
set_option maxHeartbeats 400000 in
set_option maxRecDepth 20000 in
theorem sSync_tight (T bd bm bsn : Nat) (s : Sl) (l : List Tr) (st : Ls) (E : Nat → Prop) (w : World) (hL : LsAt w E T bd bm bsn s l st) {m r f : Value} {dead : Bool} {t : Int} (hd : w.heap[bd]? = some (.cells #[m, r, f, .bool dead, .int .i64 t] 117)) (h0 : lwritable t dead st = 0) (hlo : st.loose = false) :
    Calls Tryz.prog 37 #[.pointer (some ⟨T, 0, none⟩)] w fun e w' => e = .returned (.int .i64 0) ∧ Below w.heap.size w w' := by
  have hw := lWritable_any hL hd
  rw [h0] at hw
  have c11' := hL.cell 11
  have hlo' : st.loose = false := hlo
  go_enter Tryz.func37, Tryz.ntmps37
  go_wp2_with (go_at_call 53; refine hw.mono ?_; rintro e w1 ⟨rfl, hb1⟩; have c11 : w1.cell? ⟨T, 11, none⟩ = some (.bool false) := by { have := cell_below hb1 c11'; simpa [hlo'] using this }; clear hw c11')
  go_ret
  exact ⟨rfl, hb1⟩
end Go.Proofs.YtoabedkcieindabGreatDoor
