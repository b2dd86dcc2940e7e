import Derived.Test.YtoabedkcieindabGreatDoorQkAI
import Derived.Test.YtoabedkcieindabGreatDoorQkAJ
import Derived.Maps.AppendAt
import Derived.StillTactics
namespace Go.Proofs.YtoabedkcieindabGreatDoor
open Go.RowKit Go.Maps Go.Sort Go.Shelf
attribute [local go_sem] Oper.semAt_some
structure StillS (P : Program) (ops : Array Oper) (w : World) (Q : Act → Prop) (l : List Oper) (a : Act) : Prop where
  out : wpStill P ops w Q l a
theorem StillS.nil {P : Program} {ops : Array Oper} {w : World} {Q : Act → Prop} {a : Act} (h : Q a) : StillS P ops w Q [] a := ⟨wpStill_nil h⟩
theorem StillS.step {P : Program} {ops : Array Oper} {w : World} {Q : Act → Prop} {a : Act} {o : Oper} {rest : List Oper}
    (h : ∀ K : Act → Prop, (∀ a, StillS P ops w Q rest a → K a) → if Region.wanted o (yielded ops a.tmps) then o.still P a w K else K (a.put o.dst undef)) : StillS P ops w Q (o :: rest) a :=
  ⟨wpStill_step fun K hK => h K fun a ha => hK a ha.out⟩
theorem wpIn_region_still {l n : Nat} {P : Program} {id : Nat} {ol : List Oper} {Q : Exit → Act → World → Prop} {a : Act} {w : World} (hm : P.follows .mixedOrders = true) (hB : Region.lexB .any ol.toArray = true) (hnd : noDefer ol.toArray = true) (hlo : ¬ LetsOut Q)
    (h0 : StillS P ol.toArray w.drew (fun a' => Q .normal a' w.drew) ol a) : (Code.region id ol.toArray true).wpIn (Fence.wide.inRound l) n P Q a w := by
  have h := h0.out
  simp only [Region.lexB, Bool.and_eq_true] at hB
  refine wpIn_region_any hm (any_in (noDefer_spec hnd) hlo _ _ _ _ (wpAny_of_still (Q := fun a' => Q .normal a' w.drew) (fun _ h => h) _ _ _ ?_))
  have := wpAnyS_lex (md := .any) hB.1 ol 0 (Array.replicate ol.toArray.size false) a (by simp) (by simpa using hB.2) h
  simpa using this
theorem wp_calm {P : Program} {c : Code} {K : Act → World → Prop} {Q : Exit → Act → World → Prop} {a : Act} {w : World} (h : c.wp P (Exit.then K (fun _ _ _ => False)) a w) : c.wp P (Exit.then K Q) a w :=
  Code.wp_mono (fun e a w h => by cases e <;> first | exact h | exact h.elim) h
structure NdI (w W : World) (bv : Value) (lw : Bool) (va vv : Value) (A V : Ly) : Prop where
  b4 : Boxed W w.heap.size 58 bv
  b5 : Boxed W (w.heap.size + 1) 4 (.bool lw)
  b7 : Boxed W (w.heap.size + 2) 112 va
  b8 : Boxed W (w.heap.size + 3) 112 vv
  rA : OwnE W (w.heap.size + 4) va A
  rV : OwnE W (w.heap.size + 4) vv V
  sep : ∀ g, va.ownBlock = some g → vv.ownBlock ≠ some g
  bel : Below w.heap.size w W
theorem NdI.stay {w W W' : World} {bv : Value} {lw : Bool} {va vv : Value} {A V : Ly} (h : NdI w W bv lw va vv A V) (k : ∀ (j : Nat) (cs : Array Value) (t : TypeId) (z : Nat × Nat), W.heap[j]? = some (.cells cs t z) → (j < w.heap.size + 4 ∨ t = 226) → W'.heap[j]? = some (.cells cs t z)) (hb : Below w.heap.size w W') : NdI w W' bv lw va vv A V := by
  have row : ∀ {v : Value} {l : Ly}, OwnE W (w.heap.size + 4) v l → OwnE W' (w.heap.size + 4) v l := fun ho => by
    refine ⟨ho.1, ?_⟩
    rcases ho.2 with hn | ⟨g, cap, cur, hv, hbb, hg, rest⟩
    · exact .inl hn
    · exact .inr ⟨g, cap, cur, hv, hbb, k _ _ _ _ hg (.inr rfl), rest⟩
  exact ⟨k _ _ _ _ h.b4 (.inl (by omega)), k _ _ _ _ h.b5 (.inl (by omega)), k _ _ _ _ h.b7 (.inl (by omega)), k _ _ _ _ h.b8 (.inl (by omega)), row h.rA, row h.rV, h.sep, hb⟩
theorem NdI.below {w W W' : World} {bv : Value} {lw : Bool} {va vv : Value} {A V : Ly} (h : NdI w W bv lw va vv A V) (k : Below W.heap.size W W') : NdI w W' bv lw va vv A V :=
  h.stay (fun j _ _ _ hj _ => (k.block j (lt_of_block hj)).trans hj) (h.bel.trans (k.mono h.bel.size))
theorem NdI.drew {w W : World} {bv : Value} {lw : Bool} {va vv : Value} {A V : Ly} (h : NdI w W bv lw va vv A V) : NdI w W.drew bv lw va vv A V := h.below ((Below.refl _ _).drew)
theorem NdI.tn {w A B : World} {bv : Value} {lw : Bool} {va vv : Value} {X V : Ly} {b : Nat} (h : NdI w A bv lw va vv X V) (k : TnM b A B) (hb : w.heap.size + 4 ≤ b) : NdI w B bv lw va vv X V := by
  refine h.stay (fun j cs t z hj ho => Kp.at k hj ?_) ⟨(show Kp _ A B from k).os.trans h.bel.os, (show Kp _ A B from k).tape.trans h.bel.tape, (show Kp _ A B from k).output.trans h.bel.output, Nat.le_trans h.bel.size (show Kp _ A B from k).size, fun i hi => ((show Kp _ A B from k).block i (Nat.lt_of_lt_of_le hi h.bel.size) (fun e => by have := e.1; omega)).trans (h.bel.block i hi)⟩
  rintro ⟨h1, cs', z', e⟩
  rcases ho with ho | rfl
  · omega
  · rw [hj] at e
    simp only [Option.some.injEq, Obj.cells.injEq] at e
    exact absurd e.2.1 (by decide)
theorem NdI.grown {w A B : World} {bv : Value} {lw : Bool} {va vv : Value} {X V : Ly} {row : Option Nat} (h : NdI w A bv lw va vv X V) (k : A.grownBy B row) (hr : ∀ r, row = some r → w.heap.size ≤ r ∧ ∃ o : Obj, A.heap[r]? = some o ∧ o.isCells = false) : NdI w B bv lw va vv X V := by
  refine h.stay (fun j cs t z hj _ => (k.block j (lt_of_block hj) (fun e => ?_)).trans hj) (h.bel.trans ⟨k.os, k.tape, k.output, k.size, fun i hi => k.block i (Nat.lt_of_lt_of_le hi h.bel.size) (fun e => by have := (hr i e.symm).1; omega)⟩)
  obtain ⟨_, o, ho, hc⟩ := hr j e.symm
  rw [hj] at ho; cases ho; cases hc
theorem appE_run {W : World} {base : Nat} {v : Value} {A L : Ly} {s : Sl} (hown : OwnE W base v A) (hs : SlAt W s L) (hb : base ≤ W.heap.size) (hl : A.length + L.length ≤ 1000000) (ty : TypeId) :
    ∃ v' W', (Builtin.append_ #[112, 112] ty #[v, .slice s.1 s.2.1 s.2.2]).run Tryz.prog W = .ok v' W' ∧ OwnE W' base v' (A ++ L) ∧ Kp (fun i => v.ownBlock = some i) W W' ∧ (v'.ownBlock = v.ownBlock ∨ v'.ownBlock = some W.heap.size) := by
  obtain ⟨i0, hi, hz0, hz1, hz2⟩ := info_parts Tryz.info226
  obtain ⟨sa, sn, sc⟩ := s
  have hln : sn = L.length := hs.len
  subst hln
  cases sa with
  | none =>
    obtain ⟨hc, rfl⟩ := hs.nil rfl
    simp only at hc
    subst hc
    exact ⟨v, W, run_append_owned_none (P := Tryz.prog) (w := W) base 112 ty 226 i0 4 Tryz.underlying112 hi v A.length (A.flatMap enC) hown, by rw [List.append_nil]; exact hown, Kp.refl _ _, .inl rfl⟩
  | some a =>
    obtain ⟨g, off, rfl⟩ := hs.pl a rfl
    obtain ⟨v', W', h1, h2, h3, _, h5⟩ := run_append_own_at (P := Tryz.prog) W base 112 ty 226 i0 _ 4 48 Tryz.underlying112 hi hz0 hz1 hz2 rfl (by decide) v A.length (A.flatMap enC) hown ⟨g, off, none⟩ L.length sc (L.flatMap enC) (flatR_len enC_len L) (hs.row.rp.cells enC_len (by decide)) (fun u hu => by obtain ⟨y, _, hy⟩ := List.mem_flatMap.1 hu; exact enC_one y u hy) (by unfold maxLen; omega) (by omega) hb
    exact ⟨v', W', h1, by unfold OwnE OwnR; rw [List.length_append, List.flatMap_append]; exact h2, (Kp.refl _ _).grown h3 (fun k hk _ => hk), h5⟩
theorem wpListIn_run {F : Fence} {n : Nat} {P : Program} {w w' : World} {ops : Array Oper} {rest : List Oper} {o : Oper} {a : Act} {Q : Exit → Act → World → Prop} {s x : Operand} {t : TypeId} {v u v' : Value} (hg : o.guard = none) (hop : o.op = Op.call { callee := Callee.builtin Builtin.append, args := #[s, x], argTypes := #[t, t] }) (hs : a.eval s = v) (hx : a.eval x = u)
    (hr : (Builtin.append_ #[t, t] o.type #[v, u]).run P w = .ok v' w') (h : wpListIn F n P ops Q rest (a.put o.dst v') w') : wpListIn F n P ops Q (o :: rest) a w := by
  refine wpListIn_plain hg fun K hK => ?_
  unfold Oper.wpIn
  refine ⟨?_, ?_⟩
  · simp [Oper.about, hop, resolve, Target.leads, Sem.run_pure]
  · rw [Oper.semAt_plain F _ _ (by rw [hop]; intro c hc; cases hc)]
    simp [execOp, hop, resolve, invoke, builtin, hs, hx, hr, Result.andThen]
    exact hK _ _ h
theorem own_type {W : World} {base b : Nat} {v u : Value} {l : Ly} {t : TypeId} (ho : OwnE W base v l) (hb : Boxed W b t u) (ht : t ≠ 226) : v.ownBlock ≠ some b := fun e => row_ne hb ho e ht rfl
theorem NdI.addA {w W W' : World} {bv : Value} {lw : Bool} {va vv va' : Value} {A V L : Ly} (h : NdI w W bv lw va vv A V) (hn : w.heap.size + 4 ≤ W.heap.size) (ho : OwnE W' (w.heap.size + 4) va' (A ++ L)) (k : Kp (fun i => va.ownBlock = some i) W W') (hat : va'.ownBlock = va.ownBlock ∨ va'.ownBlock = some W.heap.size) :
    Boxed W' (w.heap.size + 2) 112 va ∧ NdI w (W'.setCell ⟨w.heap.size + 2, 0, none⟩ va') bv lw va' vv (A ++ L) V ∧ Kp (fun i => i = w.heap.size + 2 ∨ va.ownBlock = some i) W (W'.setCell ⟨w.heap.size + 2, 0, none⟩ va') := by
  have f4 : Boxed W' w.heap.size 58 bv := k.at h.b4 (own_type h.rA h.b4 (by decide))
  have f5 : Boxed W' (w.heap.size + 1) 4 (.bool lw) := k.at h.b5 (own_type h.rA h.b5 (by decide))
  have f7 : Boxed W' (w.heap.size + 2) 112 va := k.at h.b7 (own_type h.rA h.b7 (by decide))
  have f8 : Boxed W' (w.heap.size + 3) 112 vv := k.at h.b8 (own_type h.rA h.b8 (by decide))
  have hV : OwnE W' (w.heap.size + 4) vv V := h.rV.kept k (fun g hg e => h.sep g e hg)
  have k2 : Kp (fun i => i = w.heap.size + 2 ∨ va.ownBlock = some i) W (W'.setCell ⟨w.heap.size + 2, 0, none⟩ va') := (k.mono (fun _ e => .inr e)).put (.inl rfl) _
  have ks := Kp.set1 W' (w.heap.size + 2) 0 va'
  refine ⟨f7, ⟨ks.at f4 (by omega), ks.at f5 (by omega), ?_, ks.at f8 (by omega), ho.kept ks (fun g hg e => by subst e; have := (World.ownsRow.lt ho _ hg).1; omega), hV.kept ks (fun g hg e => by subst e; have := (World.ownsRow.lt hV _ hg).1; omega), fun g hg => ?_, ?_⟩, k2⟩
  · show (W'.setCell ⟨w.heap.size + 2, 0, none⟩ va').heap[w.heap.size + 2]? = _
    rw [block_set f7]; rfl
  · rcases hat with e | e
    · rw [e] at hg; exact h.sep g hg
    · rw [e] at hg; cases hg
      exact fun e2 => by have := (World.ownsRow.lt h.rV _ e2).2; omega
  · exact ⟨k2.os.trans h.bel.os, k2.tape.trans h.bel.tape, k2.output.trans h.bel.output, Nat.le_trans h.bel.size k2.size, fun i hi => (k2.block i (by omega) (by
      rintro (e | e)
      · omega
      · have := (World.ownsRow.lt h.rA i e).1; omega)).trans (h.bel.block i hi)⟩
theorem NdI.addV {w W W' : World} {bv : Value} {lw : Bool} {va vv vv' : Value} {A V L : Ly} (h : NdI w W bv lw va vv A V) (hn : w.heap.size + 4 ≤ W.heap.size) (ho : OwnE W' (w.heap.size + 4) vv' (V ++ L)) (k : Kp (fun i => vv.ownBlock = some i) W W') (hat : vv'.ownBlock = vv.ownBlock ∨ vv'.ownBlock = some W.heap.size) :
    Boxed W' (w.heap.size + 3) 112 vv ∧ NdI w (W'.setCell ⟨w.heap.size + 3, 0, none⟩ vv') bv lw va vv' A (V ++ L) ∧ Kp (fun i => i = w.heap.size + 3 ∨ vv.ownBlock = some i) W (W'.setCell ⟨w.heap.size + 3, 0, none⟩ vv') := by
  have f4 : Boxed W' w.heap.size 58 bv := k.at h.b4 (own_type h.rV h.b4 (by decide))
  have f5 : Boxed W' (w.heap.size + 1) 4 (.bool lw) := k.at h.b5 (own_type h.rV h.b5 (by decide))
  have f7 : Boxed W' (w.heap.size + 2) 112 va := k.at h.b7 (own_type h.rV h.b7 (by decide))
  have f8 : Boxed W' (w.heap.size + 3) 112 vv := k.at h.b8 (own_type h.rV h.b8 (by decide))
  have hA : OwnE W' (w.heap.size + 4) va A := h.rA.kept k (fun g hg e => h.sep g hg e)
  have k2 : Kp (fun i => i = w.heap.size + 3 ∨ vv.ownBlock = some i) W (W'.setCell ⟨w.heap.size + 3, 0, none⟩ vv') := (k.mono (fun _ e => .inr e)).put (.inl rfl) _
  have ks := Kp.set1 W' (w.heap.size + 3) 0 vv'
  refine ⟨f8, ⟨ks.at f4 (by omega), ks.at f5 (by omega), ks.at f7 (by omega), ?_, hA.kept ks (fun g hg e => by subst e; have := (World.ownsRow.lt hA _ hg).1; omega), ho.kept ks (fun g hg e => by subst e; have := (World.ownsRow.lt ho _ hg).1; omega), fun g hg => ?_, ?_⟩, k2⟩
  · show (W'.setCell ⟨w.heap.size + 3, 0, none⟩ vv').heap[w.heap.size + 3]? = _
    rw [block_set f8]; rfl
  · rcases hat with e | e
    · rw [e]; exact h.sep g hg
    · rw [e]
      intro e2
      cases e2
      have := (World.ownsRow.lt h.rA _ hg).2; omega
  · exact ⟨k2.os.trans h.bel.os, k2.tape.trans h.bel.tape, k2.output.trans h.bel.output, Nat.le_trans h.bel.size k2.size, fun i hi => (k2.block i (by omega) (by
      rintro (e | e)
      · omega
      · have := (World.ownsRow.lt h.rV i e).1; omega)).trans (h.bel.block i hi)⟩
theorem OwnR.cut0 {w : World} {base : Nat} {a : Option Addr} {n cap : Nat} {l : Ly} (h : OwnE w base (.slice a n cap) l) : OwnE w base (.slice a 0 cap) [] := by
  refine ⟨rfl, ?_⟩
  rcases h.2 with ⟨hv, _⟩ | ⟨g, cap', cur, hv, hb, hg, h1, h2, h3, h4⟩
  · cases hv; exact .inl ⟨rfl, rfl⟩
  · obtain ⟨rfl, -, rfl⟩ : a = some ⟨g, 0, none⟩ ∧ n = l.length ∧ cap = cap' := by simpa using hv
    exact .inr ⟨g, cap, cur, rfl, hb, hg, Nat.zero_le _, h2, h3, by simp⟩
theorem NdI.cutV {w W : World} {bv : Value} {lw : Bool} {va : Value} {a : Option Addr} {n cap : Nat} {A V : Ly} (h : NdI w W bv lw va (.slice a n cap) A V) :
    NdI w (W.setCell ⟨w.heap.size + 3, 0, none⟩ (.slice a 0 cap)) bv lw va (.slice a 0 cap) A [] ∧ Kp (fun i => i = w.heap.size + 3) W (W.setCell ⟨w.heap.size + 3, 0, none⟩ (.slice a 0 cap)) := by
  have ks := Kp.set1 W (w.heap.size + 3) 0 (.slice a 0 cap)
  refine ⟨⟨ks.at h.b4 (by omega), ks.at h.b5 (by omega), ks.at h.b7 (by omega), ?_, h.rA.kept ks (fun g hg e => by subst e; have := (World.ownsRow.lt h.rA _ hg).1; omega), OwnR.cut0 (h.rV.kept ks (fun g hg e => by subst e; have := (World.ownsRow.lt h.rV _ hg).1; omega)), fun g hg e => h.sep g hg (by cases a <;> exact e), ?_⟩, ks⟩
  · show (W.setCell ⟨w.heap.size + 3, 0, none⟩ _).heap[w.heap.size + 3]? = _
    rw [block_set h.b8]; rfl
  · exact ⟨ks.os.trans h.bel.os, ks.tape.trans h.bel.tape, ks.output.trans h.bel.output, Nat.le_trans h.bel.size ks.size, fun i hi => (ks.block i (Nat.lt_of_lt_of_le hi h.bel.size) (by omega)).trans (h.bel.block i hi)⟩
theorem OwnR.slAt1 {w : World} {base : Nat} {a : Option Addr} {n c : Nat} {l : Ly} (h : OwnE w base (.slice a n c) l) : SlAt w (a, n, c) l := by
  obtain ⟨⟨sa, sn, sc⟩, e, hs, _⟩ := OwnR.slAt h
  obtain ⟨rfl, rfl, rfl⟩ := Value.slice.inj e
  exact hs
theorem seenV_len (bs : List Int) (lw : Bool) (l : Ly) : (seenV bs lw l).length ≤ l.length := by
  unfold seenV
  split
  · exact Nat.le_trans (strip_len _) (keepA_len bs l)
  · exact keepA_len bs l
theorem OwnR.low {w : World} {base base' : Nat} {v : Value} {l : Ly} (h : OwnE w base v l) (hb : base' ≤ base) : OwnE w base' v l := by
  refine ⟨h.1, ?_⟩
  rcases h.2 with hn | ⟨g, cap, cur, hv, hbb, rest⟩
  · exact .inl hn
  · exact .inr ⟨g, cap, cur, hv, Nat.le_trans hb hbb, rest⟩
theorem slAt_one {W : World} (e : En) : SlAt (W.alloc (.cells #[str e.op.key, str e.op.val, .bool e.op.gone, .int .i64 e.batch] 226)) (some ⟨W.heap.size, 0, none⟩, 1, 1) [e] :=
  ⟨rfl, Nat.le_refl _, fun h => (by cases h), fun a ha => ⟨_, _, (Option.some.inj ha).symm⟩, (rp_one e).enp⟩
theorem keeps_of_kp {B : Nat} {S : Nat → Prop} {W W' : World} (k : Kp S W W') (hs : ∀ i, S i → ∃ (cs : Array Value) (t : TypeId) (z : Nat × Nat), W.heap[i]? = some (Obj.cells cs t z)) : KeepsFrom B W W' :=
  ⟨k.size, fun i o _ hi hc => k.at hi (fun s => by obtain ⟨cs, t, z, h⟩ := hs i s; rw [hi] at h; cases h; cases hc)⟩
def NdT (w : World) (va vv : Value) (i : Nat) : Prop := i = w.heap.size + 2 ∨ va.ownBlock = some i ∨ i = w.heap.size + 3 ∨ vv.ownBlock = some i
theorem own_cells {W : World} {base : Nat} {v : Value} {l : Ly} (h : OwnE W base v l) {i : Nat} (e : v.ownBlock = some i) : ∃ (cs : Array Value) (z : Nat × Nat), W.heap[i]? = some (Obj.cells cs 226 z) := by
  rcases h.2 with ⟨rfl, _⟩ | ⟨g, cap, cur, rfl, _, hg, _⟩
  · simp [Value.ownBlock] at e
  · obtain rfl : g = i := by simpa [Value.ownBlock] using e
    exact ⟨_, _, hg⟩
theorem NdI.post {w W W' : World} {bv : Value} {lw : Bool} {va vv : Value} {A V : Ly} (h : NdI w W bv lw va vv A V) (k : Kp (NdT w va vv) W W') (B : Nat) : KeepsFrom B W W' ∧ KrM (fun k => k < w.heap.size) (w.heap.size + 4) W W' := by
  refine ⟨keeps_of_kp k (fun i hi => ?_), KrM.of_kp k (fun i hi s => ?_) (fun i cs z hn hi s => ?_)⟩
  · rcases hi with rfl | e | rfl | e
    · exact ⟨_, _, _, h.b7⟩
    · obtain ⟨cs, z, hc⟩ := own_cells h.rA e; exact ⟨_, _, _, hc⟩
    · exact ⟨_, _, _, h.b8⟩
    · obtain ⟨cs, z, hc⟩ := own_cells h.rV e; exact ⟨_, _, _, hc⟩
  · rcases s with rfl | e | rfl | e
    · omega
    · have := (World.ownsRow.lt h.rA i e).1; omega
    · omega
    · have := (World.ownsRow.lt h.rV i e).1; omega
  · rcases s with rfl | e | rfl | e
    · omega
    · obtain ⟨cs', z', hc⟩ := own_cells h.rA e; rw [hi] at hc; simp only [Option.some.injEq, Obj.cells.injEq] at hc; exact absurd hc.2.1 (by decide)
    · omega
    · obtain ⟨cs', z', hc⟩ := own_cells h.rV e; rw [hi] at hc; simp only [Option.some.injEq, Obj.cells.injEq] at hc; exact absurd hc.2.1 (by decide)
def needT (Bl b Bx : Nat) (bv : Value) (lw : Bool) (x : En) : Array Value :=
  #[.func (.func 195) #[] #[.pointer (some ⟨Bl, 0, none⟩)], bv, .bool lw, undef, .pointer (some ⟨b, 0, none⟩), .pointer (some ⟨b + 1, 0, none⟩), .slice none 0 0, .pointer (some ⟨b + 2, 0, none⟩), .pointer (some ⟨b + 3, 0, none⟩), .pointer (some ⟨Bx, 0, none⟩),
    .func (.func 195) #[] #[.pointer (some ⟨Bl, 0, none⟩)], aggE x, undef, undef, undef, undef, undef, undef, undef, undef, undef, undef, undef, undef, undef, undef, undef, undef, undef, undef, undef, undef, undef, undef, undef, undef, undef, undef, undef, undef, undef, undef, undef, undef]
set_option maxRecDepth 100000 in
set_option maxHeartbeats 400000 in
theorem Needed_any (Bl : Nat) (q : Option Addr) (qc : Nat) (xs : List (Sl × Ly)) (qb : Option Addr) (bc : Nat) (bs : List Int) (lw : Bool) (w : World) (b1 : Boxed w Bl 133 (.slice q xs.length qc)) (hp : Lyp w q xs) (hqn : q = none → qc = 0 ∧ xs = []) (hqa : ∀ a, q = some a → ∃ g off, a = ⟨g, off, none⟩) (hl : xs.length ≤ 1000000) (hsl : sumL xs ≤ 100000) (hI : Izp w qb bs) (hbl : bs.length ≤ 1000000) :
    Calls Tryz.prog 123 #[.func (.func 195) #[] #[.pointer (some ⟨Bl, 0, none⟩)], .slice qb bs.length bc, .bool lw] w fun e w' => ∃ v, e = .returned v ∧ Below w.heap.size w w' ∧ OwnE w' w.heap.size v (needL bs lw (mergeL (xs.map (·.2)))) := by
  have hmx : Tryz.prog.follows .mixedOrders = true := by kernel_rfl
  refine (callsIn_wide (n := 6)).1 ?_
  refine callsIn_of_wp_marks Tryz.func123 rfl trivial ?_ rfl
  simp only [Tryz.ntmps123, List.size_toArray, List.length_cons, List.length_nil, Nat.reduceAdd, Nat.reduceSub, Array.replicate_succ, Array.replicate_zero, List.push_toArray, List.append_toArray, List.nil_append, List.cons_append]
  gi_wp2
  have hB0 : Below w.heap.size w ((((w.alloc (.cells #[.slice qb bs.length bc] 58)).alloc (.cells #[.bool lw] 4)).alloc (.cells #[.slice none 0 0] 112)).alloc (.cells #[.slice none 0 0] 112)) := ((((Below.refl _ w).alloc (Nat.le_refl _) _).alloc (by simp) _).alloc (by simp; omega) _).alloc (by simp; omega) _
  have hN0 : NdI w ((((w.alloc (.cells #[.slice qb bs.length bc] 58)).alloc (.cells #[.bool lw] 4)).alloc (.cells #[.slice none 0 0] 112)).alloc (.cells #[.slice none 0 0] 112)) (.slice qb bs.length bc) lw (.slice none 0 0) (.slice none 0 0) [] [] := by
    have x4 := (((Boxed.new w 58 (.slice qb bs.length bc)).alloc (.cells #[.bool lw] 4)).alloc (.cells #[.slice none 0 0] 112)).alloc (.cells #[.slice none 0 0] 112)
    have x5 := ((Boxed.new (w.alloc (.cells #[.slice qb bs.length bc] 58)) 4 (.bool lw)).alloc (.cells #[.slice none 0 0] 112)).alloc (.cells #[.slice none 0 0] 112)
    have x7 := (Boxed.new ((w.alloc (.cells #[.slice qb bs.length bc] 58)).alloc (.cells #[.bool lw] 4)) 112 (.slice none 0 0)).alloc (.cells #[.slice none 0 0] 112)
    have x8 := Boxed.new (((w.alloc (.cells #[.slice qb bs.length bc] 58)).alloc (.cells #[.bool lw] 4)).alloc (.cells #[.slice none 0 0] 112)) 112 (.slice none 0 0)
    simp only [World.size_alloc] at x5 x7 x8
    exact ⟨x4, x5, x7, x8, OwnR.nil _ _ _ _ _, OwnR.nil _ _ _ _ _, fun g hg => by simp [Value.ownBlock] at hg, hB0⟩
  have hsz : ((((w.alloc (.cells #[.slice qb bs.length bc] 58)).alloc (.cells #[.bool lw] 4)).alloc (.cells #[.slice none 0 0] 112)).alloc (.cells #[.slice none 0 0] 112)).heap.size = w.heap.size + 4 := by simp
  obtain ⟨W0, hW0⟩ : ∃ W0, (((w.alloc (.cells #[.slice qb bs.length bc] 58)).alloc (.cells #[.bool lw] 4)).alloc (.cells #[.slice none 0 0] 112)).alloc (.cells #[.slice none 0 0] 112) = W0 := ⟨_, rfl⟩
  rw [hW0] at hN0 hB0 hsz ⊢
  clear hW0
  have hfl : ∀ pre : Ly, pre.length ≤ 100000 → (foldN bs lw pre).1.length + (foldN bs lw pre).2.length ≤ 100000 := fun pre h => by
    have := foldN_len bs lw (keepA_len bs) pre [] []
    simp only [List.length_nil, Nat.zero_add] at this
    exact Nat.le_trans this h
  refine rangeFunc_T rfl (by decide) (gf := 195) (lb := #[.pointer (some ⟨Bl, 0, none⟩)]) rfl trivial (enters_of Tryz.func195 (by kernel_rfl) rfl)
    (merge_seq Bl (w.heap.size + 4) (fun k => k < w.heap.size) q qc xs W0 ((hB0.block Bl b1.lt).trans b1) (hp.below hB0) hqn hqa (by omega) (fun k hk => by omega) (fun x hx a ha h0 => by obtain ⟨g, off, e, c0, _⟩ := (hp.each x hx).row 0 h0; rw [ha] at e; cases e; exact World.block_lt_of_cell? w _ c0) hl)
    (fun h k => h.trans k) (fun W l o o' hl ho hc _ => ⟨by simp, fun k hk hlt => World.putObj_heap_other (by omega), fun k cs z hk hkk => (World.putObj_heap_other (by rintro rfl; rw [ho] at hkk; cases hkk; cases hc)).trans hkk⟩) (fun h j o hj hc _ => h.others j o hj hc) (Below.refl _ _) (fun _ => rfl)
    (fun pre W => ∃ va vv, NdI w W (.slice qb bs.length bc) lw va vv (foldN bs lw pre).1 (foldN bs lw pre).2)
    (fun _ _ _ => False)
    (fun pre A B row h hg hr => by obtain ⟨va, vv, h⟩ := h; exact ⟨va, vv, h.grown hg (fun r e => ⟨by have := (hr r e).1; omega, (hr r e).2⟩)⟩)
    (fun _ _ _ _ _ h _ _ => h)
    (fun pre A B h ht => by obtain ⟨va, vv, h⟩ := h; exact ⟨va, vv, h.tn ht (by omega)⟩)
    (fun _ _ _ _ h _ => h)
    ⟨_, _, hN0⟩
    (fun x a' W => ∃ Bx va vv, w.heap.size + 4 ≤ Bx ∧ W.heap[Bx]? = some (Obj.cells #[str x.op.key, str x.op.val, .bool x.op.gone, .int .i64 x.batch] 226) ∧ (Boxed W (w.heap.size + 2) 112 va ∧ va.ownBlock ≠ some Bx) ∧ (Boxed W (w.heap.size + 3) 112 vv ∧ vv.ownBlock ≠ some Bx) ∧ a' = { tmps := needT Bl w.heap.size Bx (.slice qb bs.length bc) lw x, defers := [] })
    (fun x a' _ X Y row hs hg hr => by
      obtain ⟨Bx, va, vv, k1, k2, ⟨k3, k4⟩, ⟨k5, k6⟩, k7⟩ := hs
      have keep : ∀ {k : Nat} {cs : Array Value} {t : TypeId} {z : Nat × Nat}, X.heap[k]? = some (Obj.cells cs t z) → Y.heap[k]? = some (Obj.cells cs t z) := fun hk => (hg.block _ (lt_of_block hk) (fun e => by
        obtain ⟨_, o, ho, hc⟩ := hr _ e.symm
        rw [hk] at ho; cases ho; cases hc)).trans hk
      exact ⟨Bx, va, vv, k1, keep k2, ⟨keep k3, k4⟩, ⟨keep k5, k6⟩, k7⟩)
    ?assign ?body ?done ?stop
  case assign =>
    rintro l pre x W K ⟨va, vv, hN⟩ hK
    have hn0 := hN.b8.lt
    gi_wp2
    refine hK _ _ ((KeepsOthers.alloc _ _).from _) (KrM.of_kp (Kp.of_below (S := fun _ => False) ((Below.refl _ W).alloc (Nat.le_refl _) _)) (fun _ _ f => f) (fun _ _ _ _ _ f => f)) ⟨va, vv, hN.below ((Below.refl _ W).alloc (Nat.le_refl _) _)⟩ ⟨W.heap.size, va, vv, by omega, block_new _ _, ⟨hN.b7.alloc _, fun e => Nat.lt_irrefl _ (World.ownsRow.lt hN.rA _ e).2⟩, ⟨hN.b8.alloc _, fun e => Nat.lt_irrefl _ (World.ownsRow.lt hN.rV _ e).2⟩, ?_⟩
    rfl
  case body =>
    rintro l pre x a' W hlo _ ⟨va, vv, hN⟩ ⟨Bx, va0, vv0, hBx, hpx, ⟨ha0, hsa⟩, ⟨hv0, hsv⟩, rfl⟩ hlt
    obtain rfl : va0 = va := by have := ha0.symm.trans hN.b7; simpa using this
    obtain rfl : vv0 = vv := by have := hv0.symm.trans hN.b8; simpa using this
    have hn0 : w.heap.size + 4 ≤ W.heap.size := hN.b8.lt
    have hlf := hfl pre (by omega)
    have hsn := foldN_snoc bs lw pre x
    generalize foldN bs lw pre = S at *
    obtain ⟨A, V⟩ := S
    simp only at hN hlf
    obtain ⟨q0, q1, q2, q3⟩ := cells4' hpx
    have c8 := hN.b8.cell
    unfold needT
    cases V with
    | nil =>
      have HS : Hid (foldN bs lw (pre ++ [x]) = (A, [] ++ [x])) := hsn
      clear hsn
      obtain ⟨av, cv, hvv⟩ := hN.rV.shape
      simp only [List.length_nil] at hvv hlf
      subst hvv
      gi_wp2
      refine wpIn_region_still hmx (by kernel_rfl) (by kernel_rfl) ?lets ?_
      case lets => rintro ⟨_, _, h⟩; exact h
      (iterate 14 (refine StillS.step (fun K hK => ?_); go_simp; refine hK _ ?_; clear hK K))
      refine StillS.nil ?_
      have hNa := (hN.below ((Below.refl _ W).alloc (Nat.le_refl _) (.cells #[str x.op.key, str x.op.val, .bool x.op.gone, .int .i64 x.batch] 226))).drew
      obtain ⟨v', W', hrun, hown', kp', hat'⟩ := appE_run hNa.rV ((slAt_one x).below ((Below.refl _ _).drew)) (by simp <;> omega) (by simp <;> omega) 112
      obtain ⟨f8, hN4, k4⟩ := hNa.addV (by simp <;> omega) hown' kp' hat'
      obtain ⟨a4, c4, hv4⟩ : ∃ a c, v' = .slice a 1 c := by obtain ⟨a, c, h⟩ := hown'.shape; exact ⟨a, c, by simpa using h⟩
      subst hv4
      have c8' := f8.cell
      have z8' := f8.frozen
      gi_wp2_with (gi_at_builtin; refine wpListIn_run rfl rfl rfl rfl hrun ?_)
      obtain ⟨p1, p2⟩ := hN.post ((((Kp.refl _ W).alloc _).drew).trans k4 (fun i _ s => s.elim (fun e => .inr (.inr (.inl e))) (fun e => .inr (.inr (.inr e))))) (w.heap.size + 4)
      exact ⟨p1, p2, _, _, by rw [HS.out]; exact hN4⟩
    | cons f t =>
      obtain ⟨av, cv, hvv⟩ := hN.rV.shape
      subst hvv
      obtain ⟨⟨sa, sn, sc⟩, hs1, hsl8, _⟩ := hN.rV.slAt
      obtain ⟨rfl, hsn8, rfl⟩ := Value.slice.inj hs1
      obtain ⟨g8, off8, hq8, d0, d1, d2, d3⟩ := hsl8.head
      simp only at hq8
      subst hq8
      obtain rfl : sn = t.length + 1 := by simpa using hsn8.symm
      simp only [List.length_cons] at hlf hN c8 hsv
      by_cases hk : f.op.key = x.op.key
      · have hkk : (f.op.key == x.op.key) = true := by simpa using hk
        have HS : Hid (foldN bs lw (pre ++ [x]) = (A, (f :: t) ++ [x])) := by show _ = _; rw [hsn]; simp [stN, hk]
        clear hsn
        gi_wp2
        refine wpIn_region_still hmx (by kernel_rfl) (by kernel_rfl) ?lets ?_
        case lets => rintro ⟨_, _, h⟩; exact h
        (iterate 14 (refine StillS.step (fun K hK => ?_); go_simp; refine hK _ ?_; clear hK K))
        refine StillS.nil ?_
        have hNa := (hN.below ((Below.refl _ W).alloc (Nat.le_refl _) (.cells #[str x.op.key, str x.op.val, .bool x.op.gone, .int .i64 x.batch] 226))).drew
        obtain ⟨v', W', hrun, hown', kp', hat'⟩ := appE_run hNa.rV ((slAt_one x).below ((Below.refl _ _).drew)) (by simp <;> omega) (by simp <;> omega) 112
        obtain ⟨f8, hN4, k4⟩ := hNa.addV (by simp <;> omega) hown' kp' hat'
        obtain ⟨a4, c4, hv4⟩ : ∃ a c, v' = .slice a (t.length + 1 + 1) c := by obtain ⟨a, c, h⟩ := hown'.shape; exact ⟨a, c, by simpa using h⟩
        subst hv4
        have c8' := f8.cell
        have z8' := f8.frozen
        gi_wp2_with (gi_at_builtin; refine wpListIn_run rfl rfl rfl rfl hrun ?_)
        obtain ⟨p1, p2⟩ := hN.post ((((Kp.refl _ W).alloc _).drew).trans k4 (fun i _ s => s.elim (fun e => .inr (.inr (.inl e))) (fun e => .inr (.inr (.inr e))))) (w.heap.size + 4)
        exact ⟨p1, p2, _, _, by rw [HS.out]; exact hN4⟩
      · have hkk : (f.op.key == x.op.key) = false := by simpa using hk
        have HS : Hid (foldN bs lw (pre ++ [x]) = (A ++ seenV bs lw (f :: t), [x])) := by show _ = _; rw [hsn]; simp [stN, hk]
        clear hsn
        gi_wp2
        refine wpIn_region_still hmx (by kernel_rfl) (by kernel_rfl) ?lets ?_
        case lets => rintro ⟨_, _, h⟩; exact h
        (iterate 14 (refine StillS.step (fun K hK => ?_); go_simp; refine hK _ ?_; clear hK K))
        refine StillS.nil ?_
        gi_wp2
        have hN1 := hN.drew.drew
        refine wpIn_region_E (S := fun w' => Boxed w' w.heap.size 58 (.slice qb bs.length bc) ∧ Boxed w' (w.heap.size + 1) 4 (.bool lw) ∧ Boxed w' (w.heap.size + 2) 112 va0 ∧ Boxed w' (w.heap.size + 3) 112 (.slice (some ⟨g8, off8, none⟩) (t.length + 1) cv)) hmx (by kernel_rfl) ?lets ?_
        case lets => rintro ⟨_, _, h⟩; exact h
        refine wpAnyE_take (i := 0) (L := 5) (v := va0) rfl rfl (by decide) (by kernel_rfl) (by kernel_rfl) (by kernel_rfl) (by kernel_rfl) (by kernel_rfl) (fun _ _ _ h => h) (Or.inl ⟨by rfl, fun w' hS => ?_⟩) ⟨hN1.b4, hN1.b5, hN1.b7, hN1.b8⟩ ?_
        · have := hS.2.2.1.cell; go_simp
        refine wpAnyE_take (i := 1) (L := 4) (v := .slice (some ⟨g8, off8, none⟩) (t.length + 1) cv) rfl rfl (by decide) (by kernel_rfl) (by kernel_rfl) (by kernel_rfl) (by kernel_rfl) (by kernel_rfl) (fun _ _ _ h => h) (Or.inl ⟨by rfl, fun w' hS => ?_⟩) ⟨hN1.b4, hN1.b5, hN1.b7, hN1.b8⟩ ?_
        · have := hS.2.2.2.cell; go_simp
        refine wpAnyE_take (i := 2) (L := 4) (v := .slice qb bs.length bc) rfl rfl (by decide) (by kernel_rfl) (by kernel_rfl) (by kernel_rfl) (by kernel_rfl) (by kernel_rfl) (fun _ _ _ h => h) (Or.inl ⟨by rfl, fun w' hS => ?_⟩) ⟨hN1.b4, hN1.b5, hN1.b7, hN1.b8⟩ ?_
        · have := hS.1.cell; go_simp
        refine wpAnyE_take (i := 3) (L := 4) (v := .bool lw) rfl rfl (by decide) (by kernel_rfl) (by kernel_rfl) (by kernel_rfl) (by kernel_rfl) (by kernel_rfl) (fun _ _ _ h => h) (Or.inl ⟨by rfl, fun w' hS => ?_⟩) ⟨hN1.b4, hN1.b5, hN1.b7, hN1.b8⟩ ?_
        · have := hS.2.1.cell; go_simp
        refine wpAnyE_one (i := 4) (by kernel_rfl) rfl (by rfl) (fun K hK => ?_)
        go_simp
        refine (laySeen_any (some ⟨g8, off8, none⟩, t.length + 1, cv) (f :: t) qb bc bs lw _ ?_ ?_ hbl ?_).mono ?_
        · exact hN1.rV.slAt1
        · exact hI.below (hN1.bel)
        · simp only [List.length_cons]; omega
        rintro e w3 ⟨vs, rfl, hb3, hos⟩
        replace hN1 := hN1.below hb3
        refine hK.out _ _ ⟨hN1.b4, hN1.b5, hN1.b7, hN1.b8⟩ ?_
        clear hK
        refine wpAnyE_one (i := 5) (by kernel_rfl) rfl (by rfl) (fun K hK => ?_)
        obtain ⟨ss, rfl, hss, _⟩ := hos.slAt
        have hz3 : W.heap.size ≤ w3.heap.size := hb3.size
        have hpx3 : w3.heap[Bx]? = some (Obj.cells #[str x.op.key, str x.op.val, .bool x.op.gone, .int .i64 x.batch] 226) := (hb3.block Bx (lt_of_block hpx)).trans hpx
        have hls := seenV_len bs lw (f :: t)
        simp only [List.length_cons] at hls
        obtain ⟨v5, W5, hrun5, hown5, kp5, hat5⟩ := appE_run hN1.rA hss (by omega) (by omega) 112
        obtain ⟨a5, n5, c5, rfl⟩ : ∃ a n c, v5 = .slice a n c := by obtain ⟨a, c, h⟩ := hown5.shape; exact ⟨a, _, c, h⟩
        obtain ⟨f7, hN5, k5⟩ := hN1.addA (by omega) hown5 kp5 hat5
        refine wp_append_run rfl rfl rfl hrun5 ?_
        refine hK.out _ _ ⟨kp5.at hN1.b4 (own_type hN1.rA hN1.b4 (by decide)), kp5.at hN1.b5 (own_type hN1.rA hN1.b5 (by decide)), f7, kp5.at hN1.b8 (own_type hN1.rA hN1.b8 (by decide))⟩ ?_
        clear hK
        have c7 := f7.cell
        have z7 := f7.frozen
        refine wpAnyE_last (i := 6) (by kernel_rfl) rfl (by rfl) (by kernel_rfl) (by kernel_rfl) (fun K hK => ?_)
        go_simp
        refine hK.out _ _ ?_
        clear hK
        have hpx6 : (W5.setCell ⟨w.heap.size + 2, 0, none⟩ (.slice a5 n5 c5)).heap[Bx]? = some (Obj.cells #[str x.op.key, str x.op.val, .bool x.op.gone, .int .i64 x.batch] 226) := k5.at hpx3 (by rintro (e | e); omega; exact hsa e)
        have k06 : Kp (NdT w va0 (.slice (some ⟨g8, off8, none⟩) (t.length + 1) cv)) W (W5.setCell ⟨w.heap.size + 2, 0, none⟩ (.slice a5 n5 c5)) := ((((Kp.refl _ W).drew).drew).trans (Kp.of_below (S := fun _ => False) hb3) (fun _ _ f => f.elim)).trans k5 (fun i _ s => s.elim (fun e => .inl e) (fun e => .inr (.inl e)))
        clear k5 c7 z7 f7 hrun5 hown5 kp5 hat5 c8 q0 q1 q2 q3
        generalize W5.setCell ⟨w.heap.size + 2, 0, none⟩ (.slice a5 n5 c5) = W6 at *
        obtain ⟨hN7, k7⟩ := hN5.cutV
        have c8 := hN5.b8.cell
        have z8 := hN5.b8.frozen
        have c8b := hN7.b8.cell
        have hpx7 := k7.at hpx6 (by omega)
        obtain ⟨q0, q1, q2, q3⟩ := cells4' hpx7
        have hNa := hN7.below ((Below.refl _ _).alloc (Nat.le_refl _) (.cells #[str x.op.key, str x.op.val, .bool x.op.gone, .int .i64 x.batch] 226))
        have hz6 := k06.size
        have hz7 := k7.size
        obtain ⟨v', W', hrun, hown', kp', hat'⟩ := appE_run hNa.rV (slAt_one x) (by simp <;> omega) (by simp <;> omega) 112
        obtain ⟨f8, hN4, k4⟩ := hNa.addV (by simp <;> omega) hown' kp' hat'
        obtain ⟨a4, c4, hv4⟩ : ∃ a c, v' = .slice a 1 c := by obtain ⟨a, c, h⟩ := hown'.shape; exact ⟨a, c, by simpa using h⟩
        subst hv4
        have c8' := f8.cell
        have z8' := f8.frozen
        rw [show (W6.setCell ⟨w.heap.size + 3, 0, none⟩ (.slice (some ⟨g8, off8, none⟩) 0 cv)).heap.size = W6.heap.size by simp] at hrun
        gi_wp2_with (gi_at_builtin; refine wpListIn_run rfl rfl rfl rfl hrun ?_)
        obtain ⟨p1, p2⟩ := hN.post ((((k06.trans k7 (fun i _ e => .inr (.inr (.inl e)))).alloc _)).trans k4 (fun i _ s => s.elim (fun e => .inr (.inr (.inl e))) (fun e => .inr (.inr (.inr e))))) (w.heap.size + 4)
        exact ⟨p1, p2, _, _, by rw [HS.out]; exact hN4⟩
  case done =>
    rintro D ys W hD rfl ⟨va, vv, hN⟩ hKd
    have hlm : (mergeL (xs.map (·.2))).length ≤ 100000 := by unfold mergeL; rw [merge_len _ _ rfl]; have := catL_len xs; unfold catL at this; rw [List.flatMap_def] at this; omega
    have hlf := hfl _ hlm
    have hen := foldN_end bs lw (mergeL (xs.map (·.2)))
    generalize foldN bs lw (mergeL (xs.map (·.2))) = S at *
    obtain ⟨A, V⟩ := S
    simp only at hN hlf hen
    have HE : Hid (A ++ seenV bs lw V = needL bs lw (mergeL (xs.map (·.2)))) := hen
    clear hen
    have hn0 : w.heap.size + 4 ≤ W.heap.size := hN.b8.lt
    obtain ⟨av, nv, cv, rfl⟩ : ∃ a n c, vv = .slice a n c := by obtain ⟨a, c, h⟩ := hN.rV.shape; exact ⟨a, _, c, h⟩
    have hN1 := hN.drew
    gi_wp2
    refine wpIn_wide.2 (wp_calm ?_)
    refine wp_region_E (S := fun w' => Boxed w' w.heap.size 58 (.slice qb bs.length bc) ∧ Boxed w' (w.heap.size + 1) 4 (.bool lw) ∧ Boxed w' (w.heap.size + 2) 112 va ∧ Boxed w' (w.heap.size + 3) 112 (.slice av nv cv)) hmx ?_
    refine wpAnyE_take (i := 0) (L := 5) (v := va) rfl rfl (by decide) (by kernel_rfl) (by kernel_rfl) (by kernel_rfl) (by kernel_rfl) (by kernel_rfl) (fun _ _ _ h => h) (Or.inl ⟨by rfl, fun w' hS => ?_⟩) ⟨hN1.b4, hN1.b5, hN1.b7, hN1.b8⟩ ?_
    · have := hS.2.2.1.cell; go_simp
    refine wpAnyE_take (i := 1) (L := 4) (v := .slice av nv cv) rfl rfl (by decide) (by kernel_rfl) (by kernel_rfl) (by kernel_rfl) (by kernel_rfl) (by kernel_rfl) (fun _ _ _ h => h) (Or.inl ⟨by rfl, fun w' hS => ?_⟩) ⟨hN1.b4, hN1.b5, hN1.b7, hN1.b8⟩ ?_
    · have := hS.2.2.2.cell; go_simp
    refine wpAnyE_take (i := 2) (L := 4) (v := .slice qb bs.length bc) rfl rfl (by decide) (by kernel_rfl) (by kernel_rfl) (by kernel_rfl) (by kernel_rfl) (by kernel_rfl) (fun _ _ _ h => h) (Or.inl ⟨by rfl, fun w' hS => ?_⟩) ⟨hN1.b4, hN1.b5, hN1.b7, hN1.b8⟩ ?_
    · have := hS.1.cell; go_simp
    refine wpAnyE_take (i := 3) (L := 4) (v := .bool lw) rfl rfl (by decide) (by kernel_rfl) (by kernel_rfl) (by kernel_rfl) (by kernel_rfl) (by kernel_rfl) (fun _ _ _ h => h) (Or.inl ⟨by rfl, fun w' hS => ?_⟩) ⟨hN1.b4, hN1.b5, hN1.b7, hN1.b8⟩ ?_
    · have := hS.2.1.cell; go_simp
    refine wpAnyE_one (i := 4) (by kernel_rfl) rfl (by rfl) (fun K hK => ?_)
    go_simp
    refine (laySeen_any (av, nv, cv) V qb bc bs lw _ hN1.rV.slAt1 (hI.below hN1.bel) hbl (by omega)).mono ?_
    rintro e w3 ⟨vs, rfl, hb3, hos⟩
    replace hN1 := hN1.below hb3
    refine hK.out _ _ ⟨hN1.b4, hN1.b5, hN1.b7, hN1.b8⟩ ?_
    clear hK
    refine wpAnyE_one (i := 5) (by kernel_rfl) rfl (by rfl) (fun K hK => ?_)
    obtain ⟨ss, rfl, hss, _⟩ := hos.slAt
    have hz3 : W.heap.size ≤ w3.heap.size := hb3.size
    have hls := seenV_len bs lw V
    obtain ⟨v5, W5, hrun5, hown5, kp5, hat5⟩ := appE_run hN1.rA hss (by omega) (by omega) 112
    obtain ⟨f7, hN5, k5⟩ := hN1.addA (by omega) hown5 kp5 hat5
    refine wp_append_run rfl rfl rfl hrun5 ?_
    refine hK.out _ _ ⟨kp5.at hN1.b4 (own_type hN1.rA hN1.b4 (by decide)), kp5.at hN1.b5 (own_type hN1.rA hN1.b5 (by decide)), f7, kp5.at hN1.b8 (own_type hN1.rA hN1.b8 (by decide))⟩ ?_
    clear hK
    refine wpAnyE_last (i := 6) (by kernel_rfl) rfl (by rfl) (by kernel_rfl) (by kernel_rfl) (fun K hK => ?_)
    go_simp
    refine hK.out _ _ ?_
    clear hK
    have hKD : W5.heap[D]? = some (Obj.deferred (some [])) := kp5.at ((hb3.block D (lt_of_block hKd)).trans hKd) (fun e => by
      obtain ⟨cs, z, hc⟩ := own_cells hN1.rA e
      rw [(hb3.block D (lt_of_block hKd)).trans hKd] at hc
      cases hc)
    have hB5 : Below w.heap.size w W5 := ⟨kp5.os.trans hN1.bel.os, kp5.tape.trans hN1.bel.tape, kp5.output.trans hN1.bel.output, Nat.le_trans hN1.bel.size kp5.size, fun i hi => (kp5.block i (Nat.lt_of_lt_of_le hi hN1.bel.size) (fun e => by have := (World.ownsRow.lt hN1.rA i e).1; omega)).trans (hN1.bel.block i hi)⟩
    gi_wp2
    refine ⟨by simp, .inl ⟨_, _, rfl, run_takeDeferred hKD, ?_⟩⟩
    refine ⟨_, results_tmp rfl _ _ _, v5, rfl, hB5.trans (belowK_b (w := w) (Nat.le_refl _) W5 D _ _ (by omega) hKD rfl rfl), ?_⟩
    rw [← HE.out]
    exact ownsRow_putObj (OwnR.low hown5 (by omega)) _ hKD rfl
  case stop =>
    rintro D c pre W hD hpre hF
    exact hF.elim
end Go.Proofs.YtoabedkcieindabGreatDoor
