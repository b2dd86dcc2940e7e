import Derived.Test.YtfghgmojnffgnaaGreatPkAB
import Derived.Deep.RegionHeld3
import Derived.RangeFuncCalls
import Derived.OrdersIn
import Derived.OwnWalkIn
import Derived.Test.YtfghgmojnffgnaaGreatPkAH
set_option maxHeartbeats 4000000
set_option maxRecDepth 20000
namespace Go.Proofs.YtfghgmojnffgnaaGreat
theorem oper_in {l n : Nat} {P : Program} {o : Oper} {a : Act} {w : World} {K : Act -> World -> Prop} {Q : Exit -> Act -> World -> Prop} (hnd : ∀ c, o.op ≠ .defer c) (h : o.wp P a w K Q) : o.wpIn (Fence.wide.inRound l) n P a w K Q := by
 refine ⟨fun f _ => trivial, ?_⟩
 rw [Oper.semAt_plain _ _ _ hnd]
 unfold Oper.wp at h
 generalize (execOp a.eval o).run P w = r at *
 cases r with
 | ok x w' =>
   cases x <;> simp only [Oper.upon, Oper.uponIn] at h ⊢
   case value => exact h
   case skip => exact h
   case defer => exact h
   case enter => exact ⟨fun e => (by cases e), CallsIn.inRound l (callsIn_wide.2 h)⟩
   case row =>
     refine ⟨fun e => (by cases e), fun c cs _ => ?_⟩
     obtain ⟨v, w2, r, s⟩ := h c cs
     exact ⟨v, w2, r, stepsIn_wide.2 s⟩
 | halt x w' => cases x <;> simp only [Oper.upon, Oper.uponIn] at h ⊢ <;> exact h
theorem any_in {l n : Nat} {P : Program} {md : Region.Mode} {ops : Array Oper} {Q : Exit -> Act -> World -> Prop} (hnd : ∀ (j : Nat) (o : Oper), ops[j]? = some o -> ∀ c, o.op ≠ .defer c) (hlo : ¬ LetsOut Q) :
   ∀ (fuel : Nat) (listed : Array Bool) (a : Act) (w : World), wpAny P md ops Q fuel listed a w -> wpAnyIn (Fence.wide.inRound l) n P md ops Q fuel listed a w
 | 0, _, _, _, h => h
 | fuel + 1, listed, a, w, h => by
   refine ⟨h.1, fun i hi => ?_⟩
   have h1 := h.2 i hi
   unfold wpOp at h1
   unfold wpOpIn
   cases ho : ops[i]? with
   | none => rw [ho] at h1; exact any_in hnd hlo fuel _ _ _ h1
   | some o =>
     rw [ho] at h1
     simp only at h1 ⊢
     split
     . rename_i hw
       rw [if_pos hw] at h1
       rcases h1 with h1 | h1
       . exact Oper.wpIn_mono (fun a' w' h' => any_in hnd hlo fuel _ a' w' h') (oper_in (hnd i o ho) h1)
       . exact absurd h1.2 hlo
     . rename_i hw
       rw [if_neg hw] at h1
       exact ⟨fun _ _ => trivial, any_in hnd hlo fuel _ _ _ h1⟩
def noDefer (ops : Array Oper) : Bool := ops.all fun o => match o.op with | .defer _ => false | _ => true
theorem noDefer_spec {ops : Array Oper} (h : noDefer ops = true) (j : Nat) (o : Oper) (hj : ops[j]? = some o) (c : Call) : o.op ≠ .defer c := by
 intro e
 obtain ⟨hlt, rfl⟩ := Array.getElem?_eq_some_iff.1 hj
 have := Array.all_eq_true.1 h j hlt
 rw [e] at this
 cases this
section held
variable {P : Program} {ops : Array Oper} {Q : Exit -> Act -> World -> Prop} {md : Region.Mode} {S : World -> Prop}
def wpAnyE (P : Program) (md : Region.Mode) (ops : Array Oper) (Q : Exit -> Act -> World -> Prop) (S : World -> Prop) : Nat -> Array Bool -> Act -> World -> Prop
 | 0, listed, a, w => Region.ready md ops listed = [] /\ Q .normal a w
 | fuel + 1, listed, a, w =>
   (Region.ready md ops listed = [] -> Q .normal a w) /\
   ∀ i ∈ Region.ready md ops listed, wpOp P ops Q i (fun a' w' => ((∃ k : Nat, (listed.setIfInBounds i true).getD k true = false) -> S w') /\ wpAnyE P md ops Q S fuel (listed.setIfInBounds i true) a' w') a w
theorem any_of_E : ∀ (fuel : Nat) (listed : Array Bool) (a : Act) (w : World), wpAnyE P md ops Q S fuel listed a w -> wpAny P md ops Q fuel listed a w
 | 0, _, _, _, h => h
 | fuel + 1, _, _, _, h => ⟨h.1, fun i hi => wpOp_mono (fun a' w' h' => any_of_E fuel _ a' w' h'.2) (h.2 i hi)⟩
theorem wpAnyE_first {i L : Nat} {oi oL : Oper} {v : Value} (hi : ops[i]? = some oi) (hL : ops[L]? = some oL) (hLi : L ≠ i) (hb : ∃ e ∈ oL.after, Region.binds md e = true /\ e.on = i)
   (hsel : ∀ (j : Nat) (o : Oper) cs b, ops[j]? = some o -> o.op ≠ .select cs b) (hQ : ∀ c a w, Q (.panic c) (a.put oi.dst v) w -> Q (.panic c) a w) :
   ∀ (fuel : Nat) (listed : Array Bool) (a : Act) (w : World), listed.getD L true = false ->
     (∀ j oj, ops[j]? = some oj -> j ≠ i -> listed.getD j true = false -> (∀ e ∈ oj.after, Region.binds md e = true -> e.on ≠ i) -> oi.apart ops oj = true) ->
     i ∈ Region.ready md ops listed -> YieldsIf P ops S oi v a -> S w ->
     wpAnyE P md ops Q S fuel (listed.setIfInBounds i true) (a.put oi.dst v) w -> wpAnyE P md ops Q S (fuel + 1) listed a w := by
 intro fuel
 induction fuel with
 | zero =>
   intro listed a w _ _ hr hy hS H
   refine ⟨fun h => (by rw [h] at hr; cases hr), fun j hj => ?_⟩
   by_cases hji : j = i
   . subst hji; exact hy.wpOp hi hS ⟨fun _ => hS, H⟩
   . have := ready_mono hj hji
     rw [H.1] at this
     cases this
 | succ fuel ih =>
   intro listed a w hLl hfree hr hy hS H
   refine ⟨fun h => (by rw [h] at hr; cases hr), fun j hj => ?_⟩
   by_cases hji : j = i
   . subst hji; exact hy.wpOp hi hS ⟨fun _ => hS, H⟩
   . have h1 := H.2 j (ready_mono hj hji)
     obtain ⟨hjun, oj, hoj, hall⟩ := mem_ready.1 hj
     have hnot : ∀ e ∈ oj.after, Region.binds md e = true -> e.on ≠ i := fun e he hbd heq => by
       have k1 := hall e he hbd
       have k0 := (mem_ready.1 hr).1
       rw [heq] at k1
       rcases Nat.lt_or_ge i listed.size with h' | h'
       . simp [h'] at k0 k1; rw [k0] at k1; cases k1
       . simp [Array.getElem?_eq_none h'] at k1
     have hLj : L ≠ j := by
       rintro rfl
       rw [hL] at hoj
       cases hoj
       obtain ⟨e, he, hbd, heq⟩ := hb
       exact hnot e he hbd heq
     have h2 := wpOp_putIf hoj (hfree j oj hoj hji hjun hnot) (fun cs b => hsel i oi cs b hi) (fun cs b => hsel j oj cs b hoj) hQ hy h1
     have hfree' : ∀ k ok, ops[k]? = some ok -> k ≠ i -> (listed.setIfInBounds j true).getD k true = false ->
         (∀ e ∈ ok.after, Region.binds md e = true -> e.on ≠ i) -> oi.apart ops ok = true := fun k ok hk hki hun hno => by
       refine hfree k ok hk hki ?_ hno
       by_cases hjk : j = k
       . subst hjk; exact hjun
       . rw [getD_set_ne true hjk] at hun; exact hun
     have hLset : (listed.setIfInBounds j true).getD L true = false := by rw [getD_set_ne true (Ne.symm hLj)]; exact hLl
     have hLset2 : ((listed.setIfInBounds i true).setIfInBounds j true).getD L true = false := by rw [getD_set_ne true (Ne.symm hLj), getD_set_ne true (Ne.symm hLi)]; exact hLl
     refine wpOp_mono (fun a' w' h3 => ?_) h2
     have hS' := h3.2.1 ⟨L, hLset2⟩
     refine ⟨fun _ => hS', ih (listed.setIfInBounds j true) a' w' hLset hfree' (ready_mono hr (Ne.symm hji)) h3.1 hS' ?_⟩
     rw [Array.setIfInBounds_comm _ _ hji]
     exact h3.2.2
theorem wpAnyE_take {i L : Nat} {oi oL : Oper} {v : Value} {fuel : Nat} {listed : Array Bool} {a : Act} {w : World} (hi : ops[i]? = some oi) (hL : ops[L]? = some oL) (hLi : L ≠ i) (hb : (oL.after.any fun e => Region.binds md e && e.on == i) = true) (hLl : listed.getD L true = false)
   (hs : Region.noSelect ops = true) (hf : Region.free md ops listed i = true) (hr : (Region.ready md ops listed).contains i = true)
   (hQ : ∀ c a w, Q (.panic c) (a.put oi.dst v) w -> Q (.panic c) a w) (hy : YieldsIf P ops S oi v a) (hS : S w)
   (h : wpAnyE P md ops Q S fuel (listed.setIfInBounds i true) (a.put oi.dst v) w) : wpAnyE P md ops Q S (fuel + 1) listed a w :=
 wpAnyE_first hi hL hLi (by
   obtain ⟨k, hk, h1⟩ := Array.any_eq_true.1 hb
   simp only [Bool.and_eq_true, beq_iff_eq] at h1
   exact ⟨_, Array.getElem_mem hk, h1.1, h1.2⟩) (Region.noSelect_spec hs) hQ fuel listed a w hLl (Region.free_spec hi hf) (by simpa using hr) hy hS h
theorem tk (i L : Nat) (v : Value) {oi oL : Oper} {fuel : Nat} {listed : Array Bool} {a : Act} {w : World} (hi : ops[i]? = some oi) (hL : ops[L]? = some oL)
    (hy : ∀ w, S w → (execOp a.eval oi).run P w = .ok (.value v) w) (hS : S w) (h : wpAnyE P md ops Q S fuel (listed.setIfInBounds i true) (a.put oi.dst v) w)
    (hLi : L ≠ i := by decide) (hb : (oL.after.any fun e => Region.binds md e && e.on == i) = true := by kernel_rfl) (hLl : listed.getD L true = false := by kernel_rfl)
    (hs : Region.noSelect ops = true := by kernel_rfl) (hf : Region.free md ops listed i = true := by kernel_rfl) (hr : (Region.ready md ops listed).contains i = true := by kernel_rfl)
    (hQ : ∀ c a w, Q (.panic c) (a.put oi.dst v) w → Q (.panic c) a w := by exact fun _ _ _ h => h) (hw : Region.wanted oi (yielded ops a.tmps) = true := by rfl) : wpAnyE P md ops Q S (fuel + 1) listed a w :=
  wpAnyE_take hi hL hLi hb hLl hs hf hr hQ (Or.inl ⟨hw, hy⟩) hS h
theorem tp (i L b c : Nat) {oi oL : Oper} {fuel : Nat} {listed : Array Bool} {a : Act} {w : World} (hi : ops[i]? = some oi) (hL : ops[L]? = some oL)
    (hy : ∀ w, S w → (execOp a.eval oi).run P w = .ok (.value (.pointer (some ⟨b, c, none⟩))) w) (hS : S w) (h : wpAnyE P md ops Q S fuel (listed.setIfInBounds i true) (a.put oi.dst (.pointer (some ⟨b, c, none⟩))) w)
    (hLi : L ≠ i := by decide) (hb : (oL.after.any fun e => Region.binds md e && e.on == i) = true := by kernel_rfl) (hLl : listed.getD L true = false := by kernel_rfl)
    (hs : Region.noSelect ops = true := by kernel_rfl) (hf : Region.free md ops listed i = true := by kernel_rfl) (hr : (Region.ready md ops listed).contains i = true := by kernel_rfl)
    (hQ : ∀ x a w, Q (.panic x) (a.put oi.dst (.pointer (some ⟨b, c, none⟩))) w → Q (.panic x) a w := by exact fun _ _ _ h => h) (hw : Region.wanted oi (yielded ops a.tmps) = true := by rfl) : wpAnyE P md ops Q S (fuel + 1) listed a w :=
  wpAnyE_take hi hL hLi hb hLl hs hf hr hQ (Or.inl ⟨hw, hy⟩) hS h
theorem wpAnyE_one {i : Nat} {o : Oper} {fuel : Nat} {listed : Array Bool} {a : Act} {w : World} (hr : Region.ready md ops listed = [i]) (ho : ops[i]? = some o) (hw : Region.wanted o (yielded ops a.tmps) = true)
   (h : ∀ K : Act -> World -> Prop, Shut (∀ a' w', S w' -> wpAnyE P md ops Q S fuel (listed.setIfInBounds i true) a' w' -> K a' w') -> o.wp P a w K Q) : wpAnyE P md ops Q S (fuel + 1) listed a w := by
 refine ⟨fun h0 => (by rw [hr] at h0; cases h0), fun j hj => ?_⟩
 rw [hr] at hj
 obtain rfl : j = i := by simpa using hj
 unfold wpOp
 rw [ho]
 simp only [hw, if_true]
 exact .inl (h _ (fun a' w' hS hW => ⟨fun _ => hS, hW⟩))
theorem wpAnyE_last {i : Nat} {o : Oper} {listed : Array Bool} {a : Act} {w : World} (hr : Region.ready md ops listed = [i]) (ho : ops[i]? = some o) (hw : Region.wanted o (yielded ops a.tmps) = true) (hr1 : Region.ready md ops (listed.setIfInBounds i true) = []) (hall : (listed.setIfInBounds i true).all id = true)
   (h : ∀ K : Act -> World -> Prop, Shut (∀ a' w', Q .normal a' w' -> K a' w') -> o.wp P a w K Q) : wpAnyE P md ops Q S 1 listed a w := by
 refine ⟨fun h0 => (by rw [hr] at h0; cases h0), fun j hj => ?_⟩
 rw [hr] at hj
 obtain rfl : j = i := by simpa using hj
 unfold wpOp
 rw [ho]
 simp only [hw, if_true]
 refine .inl (h _ (fun a' w' hq => ⟨fun ⟨k, hk⟩ => ?_, hr1, hq⟩))
 exfalso
 have h1 := Array.all_eq_true.1 hall
 by_cases hlt : k < (listed.setIfInBounds j true).size
 . have := h1 k hlt
   rw [Array.getD_eq_getD_getElem?, Array.getElem?_eq_getElem hlt] at hk
   simp only [id_eq] at this
   rw [Option.getD_some, this] at hk
   cases hk
 . rw [Array.getD_eq_getD_getElem?, Array.getElem?_eq_none (by omega)] at hk
   cases hk
theorem wp_append_run {o : Oper} {a : Act} {w w' : World} {K : Act -> World -> Prop} {s x : Operand} {t : TypeId} {v u v' : Value} (ho : o.op = .call { callee := .builtin .append, args := #[s, x], argTypes := #[t, t] }) (hs : a.eval s = v) (hx : a.eval x = u)
   (hr : (Builtin.append_ #[t, t] o.type #[v, u]).run P w = .ok v' w') (h : K (a.put o.dst v') w') : o.wp P a w K Q := by
 unfold Oper.wp execOp
 simp only [ho, resolve, invoke, builtin, Sem.run_bind, Sem.run_pure, Result.andThen_ok, List.map_toArray, List.map_cons, List.map_nil, hs, hx, hr]
 exact h
end held
theorem wpIn_region_E {l n : Nat} {P : Program} {id : Nat} {ops : Array Oper} {Q : Exit -> Act -> World -> Prop} {S : World -> Prop} {a : Act} {w : World} (hm : P.follows .mixedOrders = true) (hnd : noDefer ops = true) (hlo : ¬ LetsOut Q)
   (h : wpAnyE P .any ops Q S ops.size (Array.replicate ops.size false) a w.drew) : (Code.region id ops true).wpIn (Fence.wide.inRound l) n P Q a w :=
 wpIn_region_any hm (any_in (noDefer_spec hnd) hlo _ _ _ _ (any_of_E _ _ _ _ h))
theorem wp_region_E {P : Program} {id : Nat} {ops : Array Oper} {Q : Exit -> Act -> World -> Prop} {S : World -> Prop} {a : Act} {w : World} (hm : P.follows .mixedOrders = true)
   (h : wpAnyE P .any ops Q S ops.size (Array.replicate ops.size false) a w.drew) : (Code.region id ops true).wp P Q a w :=
 wp_region_any hm (any_of_E _ _ _ _ h)
end Go.Proofs.YtfghgmojnffgnaaGreat
namespace Go.Proofs.YtfghgmojnffgnaaGreat
open Go.RowKit Go.Maps Go.Sort Go.Shelf
attribute [local go_sem] Oper.semAt_some
theorem Tryz.info87 : (Tryz.prog.info? 87).map (fun i => (i.zero, i.size, i.bytes)) = some (some (.agg #[.string ByteArray.empty, .string ByteArray.empty]), 2, 32) := by kernel_rfl
def flatP (l : List (Nm × Nm)) : List Value := l.flatMap fun x => [str x.1, str x.2]
def OwnP (w : World) (base : Nat) (v : Value) (l : List (Nm × Nm)) : Prop := w.ownsRow base 87 2 v l.length (flatP l)
theorem flatP_snoc (l : List (Nm × Nm)) (x : Nm × Nm) : flatP (l ++ [x]) = flatP l ++ [str x.1, str x.2] := by simp [flatP]
theorem flatP_len (l : List (Nm × Nm)) : (flatP l).length = l.length * 2 := by
 induction l with
 | nil => rfl
 | cons x r ih => show (str x.1 :: str x.2 :: flatP r).length = _; simp [ih]; omega
theorem liftP : ∀ (l : Mp), (∀ x ∈ l, x.1.length <= 1099511627776 /\ x.2.length <= 1099511627776) -> ∃ xs : List PX, xs.map (·.1) = l
 | [], _ => ⟨[], rfl⟩
 | x :: r, h => by
   obtain ⟨xs, hx⟩ := liftP r (fun y hy => h y (by simp [hy]))
   exact ⟨⟨x, h x (by simp)⟩ :: xs, by simp [hx]⟩
theorem keeps_of_kp {B : Nat} {S : Nat -> Prop} {W W' : World} (k : Kp S W W') (hs : ∀ i, S i -> ∃ (cs : Array Value) (t : TypeId) (z : Nat × Nat), W.heap[i]? = some (Obj.cells cs t z)) : KeepsFrom B W W' :=
 ⟨k.size, fun i o _ hi ho => k.at hi (fun s => by obtain ⟨cs, t, z, h⟩ := hs i s; rw [h] at hi; cases hi; cases ho)⟩
structure Rg (n0 : Nat) (Wr W : World) (Bl Bp Bx : Nat) (lim : Int) (t e : TypeId) (sz k : Nat) (fl : List Value) (x : Nm × Nm) (v : Value) : Prop where
 lim : Boxed W Bl 3 (.int .i64 lim)
 box : Boxed W Bp t v
 row : W.ownsRow n0 e sz v k fl
 px : W.heap[Bx]? = some (.cells #[str x.1, str x.2] 87)
 kp : Kp (fun i => i = Bp \/ v.ownBlock = some i) Wr W
theorem Rg.below {n0 : Nat} {w W W' : World} {Bl Bp Bx : Nat} {lim : Int} {t e : TypeId} {sz k : Nat} {fl : List Value} {x : Nm × Nm} {v : Value} (h : Rg n0 w W Bl Bp Bx lim t e sz k fl x v) (b : Below W.heap.size W W') : Rg n0 w W' Bl Bp Bx lim t e sz k fl x v :=
 ⟨block_at2 h.lim b, block_at2 h.box b, ownsRow_of_block h.row (fun g hg => b.block g (h.row.lt g hg).2), block_at2 h.px b, h.kp.trans (T := fun _ => False) (Kp.of_below b) (fun _ _ f => f.elim)⟩
theorem Rg.drew {n0 : Nat} {w W : World} {Bl Bp Bx : Nat} {lim : Int} {t e : TypeId} {sz k : Nat} {fl : List Value} {x : Nm × Nm} {v : Value} (h : Rg n0 w W Bl Bp Bx lim t e sz k fl x v) : Rg n0 w W.drew Bl Bp Bx lim t e sz k fl x v := ⟨h.lim, h.box, h.row, h.px, h.kp.drew⟩
theorem Rg.app {n0 : Nat} {w W : World} {Bl Bp Bx : Nat} {lim : Int} {t e : TypeId} {sz k : Nat} {fl : List Value} {x : Nm × Nm} {v : Value} (h : Rg n0 w W Bl Bp Bx lim t e sz k fl x v) (hn : n0 <= W.heap.size) (hB : n0 <= Bp) (hte : t ≠ e) (hbl : Bl ≠ Bp) (htl : 3 ≠ e)
   (ty : TypeId) (i : TypeInfo) (z : Value) (bytes : Nat) (ht : Tryz.prog.underlying t = some (.slice e)) (hi : Tryz.prog.info? e = some i) (hz : i.zero = some z) (hsize : i.size = sz) (hby : i.bytes = bytes) (hzs : z.cells.size = sz) (hsz : 0 < sz)
   (news : List Value) (hl : news.length = sz) (hsep : v.ownBlock ≠ some Bx) (h1 : ∀ u ∈ news, u.oneCell' = true) (h63 : k + 1 <= maxLen) (hbytes : (k + 1) * bytes <= 140737488355328) :
   ∃ g' cap' w4, (Builtin.append_ #[t, t] ty #[v, .slice (some ⟨W.heap.size, 0, none⟩) 1 1]).run Tryz.prog (W.alloc (.cells news.toArray e)) = .ok (.slice (some ⟨g', 0, none⟩) (k + 1) cap') w4 /\ Boxed w4 Bp t v /\ w4.heap[Bx]? = some (.cells #[str x.1, str x.2] 87) /\
     Boxed (w4.setCell ⟨Bp, 0, none⟩ (.slice (some ⟨g', 0, none⟩) (k + 1) cap')) Bp t (.slice (some ⟨g', 0, none⟩) (k + 1) cap') /\ (w4.setCell ⟨Bp, 0, none⟩ (.slice (some ⟨g', 0, none⟩) (k + 1) cap')).ownsRow n0 e sz (.slice (some ⟨g', 0, none⟩) (k + 1) cap') (k + 1) (fl ++ news) /\
     Kp (fun i => i = Bp \/ v.ownBlock = some i) w (w4.setCell ⟨Bp, 0, none⟩ (.slice (some ⟨g', 0, none⟩) (k + 1) cap')) /\ Boxed (w4.setCell ⟨Bp, 0, none⟩ (.slice (some ⟨g', 0, none⟩) (k + 1) cap')) Bl 3 (.int .i64 lim) := by
 obtain ⟨v', w4, hr, ho, hg, _⟩ := run_append_own (P := Tryz.prog) (W.alloc (.cells news.toArray e)) n0 t ty e i z sz bytes ht hi hz hsize hby hzs hsz v k fl (h.row.alloc _) ⟨W.heap.size, 0, none⟩ 1 1 news (by rw [hl, Nat.one_mul]) (fun j u hu => by
   rw [Addr.add_lit, Nat.zero_add, cell_block (block_new W _)]
   simpa using hu) h1 h63 hbytes (by simp; omega)
 obtain ⟨g', cap', rfl⟩ := ownsRow_succ ho
 obtain ⟨hv1, hv2, hr2, hk2, hb2⟩ := h.box.appended hte h.row hn hB ho hg
 have hkg : Kp (fun i => i = Bp \/ v.ownBlock = some i) w w4 := (h.kp.alloc _).grown hg (fun k hk _ => .inr hk)
 refine ⟨g', cap', w4, hr, hv1, (hg.block Bx (by have := lt_of_block h.px; simp; omega) (fun e => hsep e.symm)).trans (block_alloc h.px), hv2, hr2, hkg.setCell (p := ⟨Bp, 0, none⟩) (fun _ => .inl rfl) _, ?_⟩
 exact ((h.lim.alloc (.cells news.toArray e)).kept hg (h.lim.not_row htl h.row)).other hbl _
def scanT (bs bm a b : Nat) (lo hi : Nm) (lim : Int) (Bx : Nat) (x : Nm × Nm) : Array Value :=
 #[.pointer (some ⟨bs, 0, none⟩), str lo, str hi, .int .i64 lim, undef, undef, undef, .pointer (some ⟨a, 0, none⟩), .slice none 0 0, .int .i64 0, .int .i64 0, .pointer (some ⟨b, 0, none⟩), .pointer (some ⟨Bx, 0, none⟩),
   .pointer (some ⟨bs, 0, none⟩), .int .i64 0, .int .i64 0, .bool false, undef, .int .i64 lim, .bool (decide (lim < 0)), .pointer (some ⟨bs, 0, none⟩), .pointer (some ⟨bs, 0, none⟩), .pointer (some ⟨bs, 2, none⟩), .map (some bm), str lo, str hi,
   .func (.func 165) #[] #[.pointer (some ⟨b + 1, 0, none⟩), .pointer (some ⟨b + 1 + 1, 0, none⟩), .pointer (some ⟨b + 1 + 2, 0, none⟩)], .agg #[str x.1, str x.2],
   undef, undef, undef, undef, undef, undef, undef, undef, undef, undef, undef, undef, undef, undef, undef]
theorem sScan_ok {w : World} {T : Nat -> Prop} {bs bd bm : Nat} {st : St} (h : StAt w T bs bd bm st) {dm dr df : Value} {dead : Bool} {t : Int} (hd : w.heap[bd]? = some (.cells #[dm, dr, df, .bool dead, .int .i64 t] 129))
   (hrd : ready t dead st = 0) (lo hi : Nm) (lim : Int) (hl0 : 0 <= lim) (hl1 : lim <= 9223372036854775807) (hr : rising st.m) (hkl : ∀ x ∈ st.m, x.1.length <= 1099511627776 /\ x.2.length <= 1099511627776) (hml : st.m.length <= 4194304) :
   Calls Tryz.prog 77 #[.pointer (some ⟨bs, 0, none⟩), str lo, str hi, .int .i64 lim] w fun e w' => ∃ v, e = .returned (.tuple #[v, .int .i64 0]) /\ Below w.heap.size w w' /\ OwnP w' w.heap.size v ((rangeM lo hi st.m).take lim.toNat) := by
 obtain ⟨i0, hi0, hz0, hz1, hz2⟩ := info_parts Tryz.info87
 have hml2 : (rangeM lo hi st.m).length <= st.m.length := List.length_filter_le _ _
 obtain ⟨xs, hxs⟩ : ∃ xs : List PX, xs.map (·.1) = rangeM lo hi st.m := liftP _ (fun x hx => hkl x (List.mem_filter.1 hx).1)
 have hxl : xs.length <= 4194304 := by have := congrArg List.length hxs; rw [List.length_map] at this; omega
 have hmx : Tryz.prog.follows .mixedOrders = true := by kernel_rfl
 have hRd : CallsIn Fence.wide 5 Tryz.prog 74 #[.pointer (some ⟨bs, 0, none⟩)] (w.alloc (.cells #[.int .i64 lim] 3)) _ := callsIn_wide.2 (Ready_any (h.below ((Below.refl _ w).alloc (Nat.le_refl _) (.cells #[.int .i64 lim] 3))) (block_alloc hd))
 rw [hrd] at hRd
 have hfR : Fence.wide.fn 74 := trivial
 have hfS : Fence.wide.fn 123 := trivial
 have hfC : Fence.wide.fn 76 := trivial
 refine (callsIn_wide (n := 6)).1 ?_
 refine callsIn_of_wp_marks Tryz.func77 rfl trivial ?_ rfl
 simp only [Tryz.ntmps77, List.size_toArray, List.length_cons, List.length_nil, Nat.reduceAdd, Nat.reduceSub, Array.replicate_succ, Array.replicate_zero, List.push_toArray, List.append_toArray, List.nil_append, List.cons_append]
 gi_wp2_with (first
   | (gi_at_call 74; refine hRd.mono ?_; rintro e w1 ⟨rfl, hb1⟩; have h1 := (h.below ((Below.refl _ w).alloc (Nat.le_refl _) (.cells #[.int .i64 lim] 3))).below hb1; obtain ⟨c0, c1, c2, c3, c4, f0, f1, f2, f3, f4⟩ := cells5 h1.raw; have bL := block_at2 (w1 := w.alloc (.cells #[.int .i64 lim] 3)) (block_new w _) hb1; obtain ⟨cL, _⟩ := cells1 bL; obtain ⟨g0, g1, g2, g3, g4, _⟩ := cells5 (block_alloc (p := .cells #[.slice none 0 0] 33) h1.raw))
   | (gi_at_call 123; refine (callsIn_wide.2 (callsIn_wide.1 (scan_in bm lo hi _))).mono ?_; rintro e w2 ⟨rfl, rfl⟩))
 have hs1 := hb1.size
 rw [World.size_alloc] at hs1
 have bP := (((Boxed.new w1 33 (.slice none 0 0)).alloc (.cells #[.map (some bm)] 124)).alloc (.cells #[str lo] 9)).alloc (.cells #[str hi] 9)
 have bM := ((Boxed.new (w1.alloc (.cells #[.slice none 0 0] 33)) 124 (.map (some bm))).alloc (.cells #[str lo] 9)).alloc (.cells #[str hi] 9)
 have bO := (Boxed.new ((w1.alloc (.cells #[.slice none 0 0] 33)).alloc (.cells #[.map (some bm)] 124)) 9 (str lo)).alloc (.cells #[str hi] 9)
 have bH := Boxed.new (((w1.alloc (.cells #[.slice none 0 0] 33)).alloc (.cells #[.map (some bm)] 124)).alloc (.cells #[str lo] 9)) 9 (str hi)
 have bI := ((((show Boxed w1 w.heap.size 3 (.int .i64 lim) from bL).alloc (.cells #[.slice none 0 0] 33)).alloc (.cells #[.map (some bm)] 124)).alloc (.cells #[str lo] 9)).alloc (.cells #[str hi] 9)
 have hM := (((h1.map.alloc (.cells #[.slice none 0 0] 33)).alloc (.cells #[.map (some bm)] 124)).alloc (.cells #[str lo] 9)).alloc (.cells #[str hi] 9)
 simp only [World.size_alloc] at bM bO bH
 have hB0 : Below w.heap.size w ((((w1.alloc (.cells #[.slice none 0 0] 33)).alloc (.cells #[.map (some bm)] 124)).alloc (.cells #[str lo] 9)).alloc (.cells #[str hi] 9)) :=
   (((((((Below.refl _ w).alloc (Nat.le_refl _) _).trans (hb1.mono (by simp))).alloc (by omega) _).alloc (by simp; omega) _).alloc (by simp; omega) _).alloc (by simp; omega) _)
 have hsz : ((((w1.alloc (.cells #[.slice none 0 0] 33)).alloc (.cells #[.map (some bm)] 124)).alloc (.cells #[str lo] 9)).alloc (.cells #[str hi] 9)).heap.size = w1.heap.size + 4 := by simp
 obtain ⟨W0, hW0⟩ : ∃ W0, (((w1.alloc (.cells #[.slice none 0 0] 33)).alloc (.cells #[.map (some bm)] 124)).alloc (.cells #[str lo] 9)).alloc (.cells #[str hi] 9) = W0 := ⟨_, rfl⟩
 rw [hW0] at bP bM bO bH bI hM hB0 hsz ⊢
 clear hW0 c0 c1 c2 c3 c4 f0 f1 f2 f3 f4 g0 g1 g2 g3 g4 cL bL h1
 have hbm := h.map.lt
 refine wpIn_rangeFunc_ownH rfl (by decide) (gf := 165) (lb := #[.pointer (some ⟨w1.heap.size + 1, 0, none⟩), .pointer (some ⟨w1.heap.size + 1 + 1, 0, none⟩), .pointer (some ⟨w1.heap.size + 1 + 2, 0, none⟩)]) rfl trivial (enters_of Tryz.func165 (by kernel_rfl) rfl)
   (scan_stops bm w.heap.size st.m lo hi xs hxs (w1.heap.size + 1) (w1.heap.size + 1 + 1) (w1.heap.size + 1 + 2) W0 bM bO bH hM hbm hr (fun x hx => (hkl x hx).1) hml) Kq.trans (Kq.put (by omega)) (Below.refl _ _) (fun _ => rfl)
   (fun pre W => (∃ v, Boxed W w1.heap.size 33 v /\ W.ownsRow w.heap.size 87 2 v pre.length (flatP (pre.map (·.1))) /\ True) /\ (Boxed W w.heap.size 3 (.int .i64 lim) /\ (pre.length : Int) <= lim) /\ Below w.heap.size w W)
   (fun c pre W => (∃ v, Boxed W w1.heap.size 33 v /\ W.ownsRow w.heap.size 87 2 v pre.dropLast.length (flatP (pre.dropLast.map (·.1))) /\ True) /\ (c = .exit 0 /\ (pre.length : Int) = lim + 1) /\ Below w.heap.size w W)
   (OwnFrom.and (Own.from (holdsRow_own w.heap.size w1.heap.size 33 87 2 (fun pre : List PX => pre.length) (fun pre => flatP (pre.map (·.1))) (fun _ _ => True)) _) (OwnFrom.and (OwnFrom.and (Own.from (boxed_own _ _ (fun _ => .int .i64 lim)) _) (ownFrom_pure _ (fun pre : List PX => (pre.length : Int) <= lim))) (ownFrom_below (Nat.le_refl _) (by omega))))
   (fun c => OwnFrom.and (Own.from (holdsRow_own w.heap.size w1.heap.size 33 87 2 (fun pre : List PX => pre.dropLast.length) (fun pre => flatP (pre.dropLast.map (·.1))) (fun _ _ => True)) _) (OwnFrom.and (ownFrom_pure _ (fun pre : List PX => c = .exit 0 /\ (pre.length : Int) = lim + 1)) (ownFrom_below (Nat.le_refl _) (by omega))))
   ⟨⟨_, bP, World.ownsRow_nil _ _ _ _, trivial⟩, ⟨bI, by simpa using hl0⟩, hB0⟩
   (fun x a' W => ∃ Bx v0, w1.heap.size < Bx /\ W.heap[Bx]? = some (Obj.cells #[str x.1.1, str x.1.2] 87) /\ (Boxed W w1.heap.size 33 v0 /\ v0.ownBlock ≠ some Bx) /\ a' = { tmps := scanT bs bm w.heap.size w1.heap.size lo hi lim Bx x.1, defers := [] })
   (fun x a' _ X Y row hs hg hr => by
     obtain ⟨Bx, v0, k1, k2, ⟨k4, k5⟩, k3⟩ := hs
     refine ⟨Bx, v0, k1, (hg.block Bx (lt_of_block k2) (fun e => ?_)).trans k2, ⟨boxed_own w1.heap.size 33 (fun (_ : Unit) => v0) () X Y row k4 hg (fun r e => (hr r e).2), k5⟩, k3⟩
     obtain ⟨_, o, ho, hc⟩ := hr Bx e.symm
     rw [k2] at ho; cases ho; cases hc)
   ?assign ?body ?done ?stop
 case assign =>
   rintro l pre x W K ⟨⟨v, hv, hrow, _⟩, ⟨bl, hpl⟩, hBw⟩ hK
   gi_wp2
   exact hK _ _ ((KeepsOthers.alloc _ _).from _) (Kq.of_kp (Kp.of_below (S := fun _ => False) ((Below.refl _ W).alloc (Nat.le_refl _) _)) (fun _ f => f.elim)) ⟨⟨v, hv.alloc _, hrow.alloc _, trivial⟩, ⟨bl.alloc _, hpl⟩, hBw.alloc hBw.size _⟩ ⟨W.heap.size, v, hv.lt, block_new _ _, ⟨hv.alloc _, fun e => Nat.lt_irrefl _ (hrow.lt _ e).2⟩, rfl⟩
 case body =>
   rintro l pre x a' W hl _ ⟨⟨v, hv, hrow, _⟩, ⟨bl, hpl⟩, hBw⟩ ⟨Bx, v0, hBx, hpx, ⟨hv0, hsep⟩, rfl⟩ hlt
   obtain rfl : v0 = v := by have := hv0.symm.trans hv; simpa using this
   have hn0 := hBw.size
   obtain ⟨a, cap, rfl⟩ : ∃ a cap, v0 = .slice a pre.length cap := by
     rcases hrow.2 with ⟨hvv, hn⟩ | ⟨g, cap, cur, hvv, _⟩
     . exact ⟨none, 0, by rw [hvv, hn]⟩
     . exact ⟨_, cap, hvv⟩
   have cL := bl.cell
   have cP := hv.cell
   have hxk : x.1.1.length <= 281474976710656 := Nat.le_trans x.2.1 (by decide)
   have hxv : x.1.2.length <= 281474976710656 := Nat.le_trans x.2.2 (by decide)
   unfold scanT
   by_cases hlim : (pre.length : Int) = lim
   . subst hlim
     gi_wp2
     exact ⟨KeepsFrom.refl _ _, ⟨_, hv, by simpa using hrow, trivial⟩, ⟨rfl, by simp⟩, hBw⟩
   . have hF : Rg w.heap.size W W w.heap.size w1.heap.size Bx lim 33 87 2 pre.length (flatP (pre.map (·.1))) x.1 (.slice a pre.length cap) := ⟨bl, hv, hrow, hpx, Kp.refl _ _⟩
     obtain ⟨q0, q1, _, _⟩ := cells2 hpx
     gi_wp2
     replace hF := hF.drew
     refine wpIn_region_E (S := fun w' => Boxed w' w1.heap.size 33 (.slice a pre.length cap) /\ w'.heap[Bx]? = some (Obj.cells #[str x.1.1, str x.1.2] 87)) hmx (by kernel_rfl) ?lets ?_
     case lets => rintro ⟨_, _, h⟩; exact h
     refine tk 0 10 (.slice a pre.length cap) rfl rfl (fun w' hS => ?_) ⟨hF.box, hF.px⟩ ?_
     . have := hS.1.cell; go_simp
     refine tp 1 10 Bx 0 rfl rfl (fun w' hS => ?_) ⟨hF.box, hF.px⟩ ?_
     . go_simp
     refine tk 2 10 (str x.1.1) rfl rfl (fun w' hS => ?_) ⟨hF.box, hF.px⟩ ?_
     . obtain ⟨u0, u1, _, _⟩ := cells2 hS.2; go_simp
     refine tp 4 10 Bx 1 rfl rfl (fun w' hS => ?_) ⟨hF.box, hF.px⟩ ?_
     . go_simp
     refine tk 5 10 (str x.1.2) rfl rfl (fun w' hS => ?_) ⟨hF.box, hF.px⟩ ?_
     . obtain ⟨u0, u1, _, _⟩ := cells2 hS.2; go_simp
     refine wpAnyE_one (i := 3) (by kernel_rfl) rfl (by rfl) (fun K hK => ?_)
     go_simp
     refine (sCl hxk _).mono ?_
     rintro e w3 ⟨rfl, hb3⟩
     replace hF := hF.below hb3
     refine hK.out _ _ ⟨hF.box, hF.px⟩ ?_
     clear hK
     refine wpAnyE_one (i := 6) (by kernel_rfl) rfl (by rfl) (fun K hK => ?_)
     go_simp
     refine (sCl hxv _).mono ?_
     rintro e w4 ⟨rfl, hb4⟩
     replace hF := hF.below hb4
     refine hK.out _ _ ⟨hF.box, hF.px⟩ ?_
     clear hK
     refine wpAnyE_one (i := 7) (by kernel_rfl) rfl (by rfl) (fun K hK => ?_)
     go_simp
     refine hK.out _ _ ⟨hF.box, hF.px⟩ ?_
     clear hK
     refine wpAnyE_one (i := 8) (by kernel_rfl) rfl (by rfl) (fun K hK => ?_)
     go_simp
     refine hK.out _ _ ⟨hF.box.alloc _, block_alloc hF.px⟩ ?_
     clear hK
     obtain ⟨g5, cap5, w5, hrun, b5, p5, b6, r6, k6, l6⟩ := hF.app (by have := hb3.size; have := hb4.size; simp only [World.size_drew] at *; omega) (by omega) (by decide) (by omega) (by decide) 33 i0 _ 32 Tryz.underlying33 hi0 hz0 hz1 hz2 rfl (by decide) [str x.1.1, str x.1.2] rfl hsep (by simp [Value.oneCell']) (by unfold maxLen; omega) (by omega)
     refine wpAnyE_one (i := 9) (by kernel_rfl) rfl (by rfl) (fun K hK => ?_)
     refine wp_append_run rfl rfl rfl hrun ?_
     refine hK.out _ _ ⟨b5, p5⟩ ?_
     clear hK
     have c5 := b5.cell
     have z5 := b5.frozen
     refine wpAnyE_last (i := 10) (by kernel_rfl) rfl (by rfl) (by kernel_rfl) (by kernel_rfl) (fun K hK => ?_)
     go_simp
     refine hK.out _ _ ?_
     have hSc : ∀ i, (i = w1.heap.size \/ (Value.slice a pre.length cap).ownBlock = some i) -> ∃ (cs : Array Value) (t : TypeId) (z : Nat × Nat), W.heap[i]? = some (Obj.cells cs t z) /\ t ≠ 9 /\ t ≠ 124 := by
       rintro i (rfl | e)
       . exact ⟨_, _, _, hv, by decide, by decide⟩
       . rcases hrow.2 with ⟨hvv, _⟩ | ⟨g, cap', cur, hvv, _, hgg, _⟩
         . rw [hvv] at e; simp [Value.ownBlock] at e
         . rw [hvv] at e
           obtain rfl : g = i := by simpa [Value.ownBlock] using e
           exact ⟨_, _, _, hgg, by decide, by decide⟩
     refine ⟨keeps_of_kp k6 (fun i hi => by obtain ⟨cs, t, z, h, _⟩ := hSc i hi; exact ⟨cs, t, z, h⟩), Kq.of_kp k6 hSc, ⟨_, b6, ?_, trivial⟩, ⟨l6, ?_⟩, ?_⟩
     . rw [List.map_append, List.map_singleton, flatP_snoc, List.length_append]
       exact r6
     . simp; omega
     . refine ⟨k6.os.trans hBw.os, k6.tape.trans hBw.tape, k6.output.trans hBw.output, Nat.le_trans hBw.size k6.size, fun i hi => (k6.block i (by omega) (fun s => ?_)).trans (hBw.block i hi)⟩
       rcases s with rfl | e
       . omega
       . have := (hrow.lt i e).1; omega
 case done =>
   rintro D ys W hD rfl ⟨⟨v, hv, hrow, _⟩, ⟨bl, hpl⟩, hBw⟩ hK
   have hc := hv.cell
   gi_wp2
   refine ⟨by simp, .inl ⟨_, _, rfl, run_takeDeferred hK, ?_⟩⟩
   refine ⟨_, results_tmp2 rfl _ _ _, v, rfl, hBw.trans (belowK_b (w := w) (Nat.le_refl _) W D _ _ (by omega) hK rfl rfl), ?_⟩
   have hlen : (ys.map (·.1)).length <= lim.toNat := by rw [List.length_map]; omega
   rw [hxs] at hlen
   unfold OwnP
   rw [List.take_of_length_le hlen, <- hxs, List.length_map]
   exact ownsRow_putObj hrow _ hK rfl
 case stop =>
   rintro D c pre W hD hpre ⟨⟨v, hv, hrow, _⟩, ⟨rfl, hpl⟩, hBw⟩ hK
   have hc := hv.cell
   gi_wp2
   refine ⟨by simp, .inl ⟨_, _, rfl, run_takeDeferred hK, ?_⟩⟩
   refine ⟨_, results_tmp2 rfl _ _ _, v, rfl, hBw.trans (belowK_b (w := w) (Nat.le_refl _) W D _ _ (by omega) hK rfl rfl), ?_⟩
   have hE : (rangeM lo hi st.m).take lim.toNat = pre.dropLast.map (·.1) := by
     rw [<- hxs, <- List.map_take]
     congr 1
     obtain ⟨r, rfl⟩ := hpre
     have hne : pre.length = lim.toNat + 1 := by omega
     rw [List.take_append_of_le_length (by omega), List.dropLast_eq_take, hne]
     rfl
   unfold OwnP
   rw [hE, List.length_map]
   exact ownsRow_putObj hrow _ hK rfl
theorem xScan_ok {w : World} {T : Nat -> Prop} {bx bs bd bm : Nat} {st : St} (hx : w.heap[bx]? = some (.cells #[.pointer (some ⟨bs, 0, none⟩)] 93)) (h : StAt w T bs bd bm st) {dm dr df : Value} {dead : Bool} {t : Int} (hd : w.heap[bd]? = some (.cells #[dm, dr, df, .bool dead, .int .i64 t] 129))
   (hrd : ready t dead st = 0) (lo hi : Nm) (lim : Int) (hl0 : 0 <= lim) (hl1 : lim <= 9223372036854775807) (hr : rising st.m) (hkl : ∀ x ∈ st.m, x.1.length <= 1099511627776 /\ x.2.length <= 1099511627776) (hml : st.m.length <= 4194304) :
   Calls Tryz.prog 40 #[.pointer (some ⟨bx, 0, none⟩), str lo, str hi, .int .i64 lim] w fun e w' => ∃ v, e = .returned (.tuple #[v, .int .i64 0]) /\ Below w.heap.size w w' /\ OwnP w' w.heap.size v ((rangeM lo hi st.m).take lim.toNat) := by
 have hin := sinner_any hx
 have hc := sScan_ok h hd hrd lo hi lim hl0 hl1 hr hkl hml
 go_enter Tryz.func40, Tryz.ntmps40
 go_wp2_with (first
   | (go_at_call 32; refine hin.mono ?_; rintro e w' ⟨rfl, rfl⟩; clear hin)
   | (go_at_call 77; refine hc.mono ?_; rintro e w1 ⟨v, rfl, hb, ho⟩; clear hc))
 go_ret2
 exact ⟨v, rfl, hb, ho⟩
end Go.Proofs.YtfghgmojnffgnaaGreat
