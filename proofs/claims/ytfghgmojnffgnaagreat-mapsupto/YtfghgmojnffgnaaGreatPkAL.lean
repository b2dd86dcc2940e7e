import Derived.Test.YtfghgmojnffgnaaGreatPkAK
import Derived.Test.YtfghgmojnffgnaaGreatPkAF
set_option maxHeartbeats 4000000
set_option maxRecDepth 20000
namespace Go.Proofs.YtfghgmojnffgnaaGreat
open Go.RowKit Go.Maps Go.Sort
theorem flatten_ok {bs : List (List Ox)} (h : ∀ b ∈ bs, batchOk b = true) : ∀ o ∈ bs.flatten, opOk o = true := by
 intro o ho
 obtain ⟨b, hb, hob⟩ := List.mem_flatten.1 ho
 exact (batchOk_iff.1 (h b hb)).2 o hob
theorem logName : nameOk logN = true := by decide
theorem writable_open {d : Dk} {st : St} (ha : d.dead = false) (ht : st.turn = d.turn) (hs : st.stuck = false) : writable d.turn d.dead st = 0 := by simp [writable, ready, ha, ht, hs]
theorem rep_log {bs : List (List Ox)} (hb : ∀ b ∈ bs, batchOk b = true) : rep (logOf bs) [] = some (doAll [] bs.flatten, (logOf bs).length) := by
 have := replay_log bs [] [] (logOf bs).length hb (.inl rfl) (by simp)
 rw [List.append_nil] at this
 exact this
theorem syncX_loose {d d2 : Dk} {st : St} (ha : d.dead = false) (ht : st.turn = d.turn) (hs : st.stuck = false) (hl : st.loose = true) (h : d.sync logN = (0, d2)) : syncX d st = (0, d2, { st with loose := false }) := by
 unfold syncX
 rw [writable_open ha ht hs, h]
 simp [hl]
theorem syncX_tight {d : Dk} {st : St} (ha : d.dead = false) (ht : st.turn = d.turn) (hs : st.stuck = false) (hl : st.loose = false) : syncX d st = (0, d, st) := by
 unfold syncX
 rw [writable_open ha ht hs]
 simp [hl]
theorem secureX_ok {d : Dk} {st : St} {n0 n : Nat} (h : d.safe logN = (n0, 0)) : secureX d st n = syncX d { st with loose := decide (n0 < n) } := by
 unfold secureX
 rw [h]
 simp
end Go.Proofs.YtfghgmojnffgnaaGreat
namespace Go.Proofs.YtfghgmojnffgnaaGreat
open Go.RowKit Go.Maps Go.Sort
theorem range_all (m : Mp) : rangeM [] [] m = m := by
 refine List.filter_eq_self.2 (fun x _ => ?_)
 unfold okB
 have : bytesBefore x.1 [] = false := by cases x.1 <;> rfl
 rw [this]; rfl
end Go.Proofs.YtfghgmojnffgnaaGreat
namespace Go.Proofs.YtfghgmojnffgnaaGreat
open Go.RowKit Go.Maps Go.Sort
theorem Opp.kept {w w' : World} {U : Nat -> Prop} {q : Option Addr} {l : List Ox} (h : Opp w q l) (k : Kp U w w') (hq : ∀ a, q = some a -> 0 < l.length -> ¬ U a.block) : Opp w' q l := fun i hi => by
 obtain ⟨g, off, rfl, c0, c1, c2⟩ := h i hi
 have hgl := World.block_lt_of_cell? w ⟨g, off + i * 3, none⟩ c0
 have hbk := k.block g hgl (hq _ rfl (by omega))
 exact ⟨g, off, rfl, by simp only [World.cell?, hbk] at c0 ⊢; exact c0, by simp only [World.cell?, hbk] at c1 ⊢; exact c1, by simp only [World.cell?, hbk] at c2 ⊢; exact c2⟩
end Go.Proofs.YtfghgmojnffgnaaGreat
namespace Go.Proofs.YtfghgmojnffgnaaGreat
open Go.RowKit Go.Maps Go.Sort Go.Shelf
attribute [local go_sem] Oper.semAt_some
def opsT (bm b : Nat) (Bx : Nat) (x : Nm × Nm) : Array Value :=
 #[.map (some bm), undef, .slice none 0 0, .pointer (some ⟨b, 0, none⟩), .pointer (some ⟨Bx, 0, none⟩), .map (some bm),
   .func (.func 165) #[] #[.pointer (some ⟨b + 1, 0, none⟩), .pointer (some ⟨b + 1 + 1, 0, none⟩), .pointer (some ⟨b + 1 + 2, 0, none⟩)], .agg #[str x.1, str x.2],
   undef, undef, undef, undef, undef, undef, undef, undef, undef]
theorem mops_any {w : World} {bm : Nat} {m : Mp} (h : MAt w bm m) (hr : rising m) (hkl : ∀ x ∈ m, x.1.length <= 1099511627776 /\ x.2.length <= 1099511627776) (hml : m.length <= 4194304) :
   Calls Tryz.prog 170 #[.map (some bm)] w fun e w' => ∃ v, e = .returned v /\ Below w.heap.size w w' /\ OwnO w' w.heap.size v (opsOf m) := by
 obtain ⟨i0, hi0, hz0, hz1, hz2⟩ := info_parts Tryz.info121
 obtain ⟨xs, hxs⟩ : ∃ xs : List PX, xs.map (·.1) = rangeM [] [] m := liftP _ (fun x hx => hkl x (List.mem_filter.1 hx).1)
 rw [range_all] at hxs
 have hxl : xs.length <= 4194304 := by have := congrArg List.length hxs; rw [List.length_map] at this; omega
 have hfS : Fence.wide.fn 123 := trivial
 refine (callsIn_wide (n := 6)).1 ?_
 refine callsIn_of_wp_marks Tryz.func170 rfl trivial ?_ rfl
 simp only [Tryz.ntmps170, List.size_toArray, List.length_cons, List.length_nil, Nat.reduceAdd, Nat.reduceSub, Array.replicate_succ, Array.replicate_zero, List.push_toArray, List.append_toArray, List.nil_append, List.cons_append]
 gi_wp2_with (gi_at_call 123; refine (callsIn_wide.2 (callsIn_wide.1 (scan_in bm [] [] _))).mono ?_; rintro e w2 ⟨rfl, rfl⟩)
 have bP := (((Boxed.new w 65 (.slice none 0 0)).alloc (.cells #[.map (some bm)] 124)).alloc (.cells #[str []] 9)).alloc (.cells #[str []] 9)
 have bM := ((Boxed.new (w.alloc (.cells #[.slice none 0 0] 65)) 124 (.map (some bm))).alloc (.cells #[str []] 9)).alloc (.cells #[str []] 9)
 have bO := (Boxed.new ((w.alloc (.cells #[.slice none 0 0] 65)).alloc (.cells #[.map (some bm)] 124)) 9 (str [])).alloc (.cells #[str []] 9)
 have bH := Boxed.new (((w.alloc (.cells #[.slice none 0 0] 65)).alloc (.cells #[.map (some bm)] 124)).alloc (.cells #[str []] 9)) 9 (str [])
 have hM := (((h.alloc (.cells #[.slice none 0 0] 65)).alloc (.cells #[.map (some bm)] 124)).alloc (.cells #[str []] 9)).alloc (.cells #[str []] 9)
 simp only [World.size_alloc] at bM bO bH
 have hB0 : Below w.heap.size w ((((w.alloc (.cells #[.slice none 0 0] 65)).alloc (.cells #[.map (some bm)] 124)).alloc (.cells #[str []] 9)).alloc (.cells #[str []] 9)) :=
   ((((Below.refl _ w).alloc (Nat.le_refl _) _).alloc (by simp) _).alloc (by simp; omega) _).alloc (by simp; omega) _
 have hsz : ((((w.alloc (.cells #[.slice none 0 0] 65)).alloc (.cells #[.map (some bm)] 124)).alloc (.cells #[str []] 9)).alloc (.cells #[str []] 9)).heap.size = w.heap.size + 4 := by simp
 obtain ⟨W0, hW0⟩ : ∃ W0, (((w.alloc (.cells #[.slice none 0 0] 65)).alloc (.cells #[.map (some bm)] 124)).alloc (.cells #[str []] 9)).alloc (.cells #[str []] 9) = W0 := ⟨_, rfl⟩
 rw [hW0] at bP bM bO bH hM hB0 hsz ⊢
 clear hW0
 have hbm := h.lt
 refine wpIn_rangeFunc_ownH rfl (by decide) (gf := 165) (lb := #[.pointer (some ⟨w.heap.size + 1, 0, none⟩), .pointer (some ⟨w.heap.size + 1 + 1, 0, none⟩), .pointer (some ⟨w.heap.size + 1 + 2, 0, none⟩)]) rfl trivial (enters_of Tryz.func165 (by kernel_rfl) rfl)
   (scan_stops bm w.heap.size m [] [] xs (by rw [range_all]; exact hxs) (w.heap.size + 1) (w.heap.size + 1 + 1) (w.heap.size + 1 + 2) W0 bM bO bH hM hbm hr (fun x hx => (hkl x hx).1) hml) Kq.trans (Kq.put (by omega)) (Below.refl _ _) (fun _ => rfl)
   (fun pre W => (∃ v, Boxed W w.heap.size 65 v /\ W.ownsRow w.heap.size 121 3 v pre.length (flatO (opsOf (pre.map (·.1)))) /\ True) /\ (pre.length <= 4194304 \/ True) /\ Below w.heap.size w W)
   (fun _ _ _ => False)
   (OwnFrom.and (Own.from (holdsRow_own w.heap.size w.heap.size 65 121 3 (fun pre : List PX => pre.length) (fun pre => flatO (opsOf (pre.map (·.1)))) (fun _ _ => True)) _) (OwnFrom.and (ownFrom_pure _ (fun pre : List PX => pre.length <= 4194304 \/ True)) (ownFrom_below (Nat.le_refl _) (by omega))))
   (fun c => ownFrom_pure _ (fun _ : List PX => False))
   ⟨⟨_, bP, World.ownsRow_nil _ _ _ _, trivial⟩, .inr trivial, hB0⟩
   (fun x a' W => ∃ Bx v0, w.heap.size < Bx /\ W.heap[Bx]? = some (Obj.cells #[str x.1.1, str x.1.2] 87) /\ (Boxed W w.heap.size 65 v0 /\ v0.ownBlock ≠ some Bx) /\ a' = { tmps := opsT bm w.heap.size Bx x.1, defers := [] })
   (fun x a' _ X Y row hs hg hr => by
     obtain ⟨Bx, v0, k1, k2, ⟨k4, k5⟩, k3⟩ := hs
     refine ⟨Bx, v0, k1, (hg.block Bx (lt_of_block k2) (fun e => ?_)).trans k2, ⟨boxed_own w.heap.size 65 (fun (_ : Unit) => v0) () X Y row k4 hg (fun r e => (hr r e).2), k5⟩, k3⟩
     obtain ⟨_, o, ho, hc⟩ := hr Bx e.symm
     rw [k2] at ho; cases ho; cases hc)
   ?assign ?body ?done ?stop
 case assign =>
   rintro l pre x W K ⟨⟨v, hv, hrow, _⟩, _, hBw⟩ hK
   gi_wp2
   exact hK _ _ ((KeepsOthers.alloc _ _).from _) (Kq.of_kp (Kp.of_below (S := fun _ => False) ((Below.refl _ W).alloc (Nat.le_refl _) _)) (fun _ f => f.elim)) ⟨⟨v, hv.alloc _, hrow.alloc _, trivial⟩, .inr trivial, hBw.alloc hBw.size _⟩ ⟨W.heap.size, v, hv.lt, block_new _ _, ⟨hv.alloc _, fun e => Nat.lt_irrefl _ (hrow.lt _ e).2⟩, rfl⟩
 case body =>
   rintro l pre x a' W hl _ ⟨⟨v, hv, hrow, _⟩, _, hBw⟩ ⟨Bx, v0, hBx, hpx, ⟨hv0, hsep⟩, rfl⟩ hlt
   obtain rfl : v0 = v := by have := hv0.symm.trans hv; simpa using this
   have hn0 := hBw.size
   obtain ⟨a, cap, rfl⟩ : ∃ a cap, v0 = .slice a pre.length cap := by
     rcases hrow.2 with ⟨hvv, hn⟩ | ⟨g, cap, cur, hvv, _⟩
     . exact ⟨none, 0, by rw [hvv, hn]⟩
     . exact ⟨_, cap, hvv⟩
   have cP := hv.cell
   obtain ⟨q0, q1, _, _⟩ := cells2 hpx
   unfold opsT
   gi_wp2_with (first
     | (gi_at_builtin; refine wpListIn_append_own _ rfl (.tmp 8) (.tmp 14) 65 rfl w.heap.size 121 i0 _ 3 40 Tryz.underlying65 hi0 hz0 hz1 hz2 rfl (by decide) _ pre.length (flatO (opsOf (pre.map (·.1)))) rfl (World.ownsRow.alloc hrow _) ⟨W.heap.size, 0, none⟩ 1 1 [str x.1.1, str x.1.2, .bool false] rfl rfl (op_new rfl) (by simp [Value.oneCell']) (by unfold maxLen; omega) (by omega) (by simp; omega) ?_; intro v' w5 ho hg _; obtain ⟨g', cap', rfl⟩ := ownsRow_succ ho; obtain ⟨b5, b6, r6, ko, kb⟩ := hv.appended (by decide) hrow hn0 (Nat.le_refl _) ho hg; have c5 := b5.cell; have z5 := b5.frozen))
   have hkg : Kp (fun i => i = w.heap.size \/ (Value.slice a pre.length cap).ownBlock = some i) W (w5.setCell ⟨w.heap.size, 0, none⟩ (.slice (some ⟨g', 0, none⟩) (pre.length + 1) cap')) := (((Kp.refl _ W).alloc _).grown hg (fun k hk _ => .inr hk)).setCell (p := ⟨w.heap.size, 0, none⟩) (fun _ => .inl rfl) _
   have hSc : ∀ i, (i = w.heap.size \/ (Value.slice a pre.length cap).ownBlock = some i) -> ∃ (cs : Array Value) (t : TypeId) (z : Nat × Nat), W.heap[i]? = some (Obj.cells cs t z) /\ t ≠ 9 /\ t ≠ 124 := by
     rintro i (rfl | e)
     . exact ⟨_, _, _, hv, by decide, by decide⟩
     . rcases hrow.2 with ⟨hvv, _⟩ | ⟨g, cap', cur, hvv, _, hgg, _⟩
       . rw [hvv] at e; simp [Value.ownBlock] at e
       . rw [hvv] at e
         obtain rfl : g = i := by simpa [Value.ownBlock] using e
         exact ⟨_, _, _, hgg, by decide, by decide⟩
   refine ⟨keeps_of_kp hkg (fun i hi => by obtain ⟨cs, t, z, h, _⟩ := hSc i hi; exact ⟨cs, t, z, h⟩), Kq.of_kp hkg hSc, ⟨_, b6, ?_, trivial⟩, .inr trivial, hBw.trans kb⟩
   have e1 : opsOf ((pre ++ [x]).map (·.1)) = opsOf (pre.map (·.1)) ++ [⟨x.1.1, x.1.2, false⟩] := by simp [opsOf]
   rw [e1, flatO_snoc, List.length_append]
   exact r6
 case done =>
   rintro D ys W hD rfl ⟨⟨v, hv, hrow, _⟩, _, hBw⟩ hK
   have hc := hv.cell
   gi_wp2
   refine ⟨by simp, .inl ⟨_, _, rfl, run_takeDeferred hK, ?_⟩⟩
   refine ⟨_, results_tmp rfl _ _ _, v, rfl, hBw.trans (belowK_b (w := w) (Nat.le_refl _) W D _ _ (by omega) hK rfl rfl), ?_⟩
   unfold OwnO
   rw [<- hxs]
   have hlo : (opsOf (ys.map (·.1))).length = ys.length := by simp [opsOf]
   rw [hlo]
   exact ownsRow_putObj hrow _ hK rfl
 case stop =>
   rintro D c pre W hD hpre hF
   exact hF.elim
end Go.Proofs.YtfghgmojnffgnaaGreat
namespace Go.Proofs.YtfghgmojnffgnaaGreat
open Go.RowKit Go.Maps Go.Sort Go.Shelf
structure Kz (Z : Nat -> Prop) (w w' : World) : Prop where
 size : w.heap.size <= w'.heap.size
 block : ∀ i, i < w.heap.size -> Z i -> w'.heap[i]? = w.heap[i]?
theorem Kz.refl (Z : Nat -> Prop) (w : World) : Kz Z w w := ⟨Nat.le_refl _, fun _ _ _ => rfl⟩
theorem Kz.trans {Z : Nat -> Prop} {A B C : World} (h : Kz Z A B) (k : Kz Z B C) : Kz Z A C := ⟨Nat.le_trans h.size k.size, fun i hi z => (k.block i (Nat.lt_of_lt_of_le hi h.size) z).trans (h.block i hi z)⟩
theorem Kz.of_kp {Z S : Nat -> Prop} {A B : World} (h : Kp S A B) (hs : ∀ i, Z i -> ¬ S i) : Kz Z A B := ⟨h.size, fun i hi z => h.block i hi (hs i z)⟩
theorem Kz.box {Z : Nat -> Prop} {A B : World} (h : Kz Z A B) {b : Nat} {t : TypeId} {v : Value} (hb : Boxed A b t v) (hz : Z b) : Boxed B b t v := (h.block b hb.lt hz).trans hb
abbrev CX (n : Nat) := { x : Nat × Nat // x.1 + x.2 <= n /\ 1 <= x.2 /\ x.2 <= 8 }
def cuts (n : Nat) : List (CX n) := (List.finRange ((n + 7) / 8)).map fun j => ⟨(8 * j.1, min 8 (n - 8 * j.1)), by have := j.2; simp only; omega⟩
theorem cuts_len (n : Nat) : (cuts n).length = (n + 7) / 8 := by simp [cuts]
theorem cuts_at {n k : Nat} (h : k < (cuts n).length) : (cuts n)[k].1 = (8 * k, min 8 (n - 8 * k)) := by simp [cuts]
def encX (g off : Nat) {n : Nat} (x : CX n) : Array Value := #[.slice (some ⟨g, off + x.1.1 * 3, none⟩) x.1.2 x.1.2]
theorem chunk1_in (l B1 B2 g off n cap : Nat) (q : Option Addr) (hq0 : 0 < n -> q = some ⟨g, off, none⟩) (hn : n <= 4194304) (hnc : n <= cap) (Z : Nat -> Prop) (z1 : Z B1) (z2 : Z B2) (J Jx : List (CX n) -> World -> Prop) (W : World) (hJ : AbidesFrom W.heap.size J)
   (hY : ∀ pre x W1, J pre W1 -> pre.length < (cuts n).length -> YieldAt Fence.wide 4 Tryz.prog l (encX g off x) W1 fun e W' =>
     (e = .returned (.bool true) /\ J (pre ++ [x]) W' /\ Kz Z W1 W') \/ (e = .returned (.bool false) /\ Jx (pre ++ [x]) W'))
   (b1 : Boxed W B1 65 (.slice q n cap)) (b2 : Boxed W B2 3 (.int .i64 8)) (h0 : J [] W) :
   CallsIn Fence.wide 5 Tryz.prog 183 #[.func (.yield l) #[] #[], .pointer (some ⟨B1, 0, none⟩), .pointer (some ⟨B2, 0, none⟩)] W fun e W' => (∃ v, e = .returned v) /\
     ((∃ ys, ys = cuts n /\ J ys W') \/ (∃ pre, pre <+: cuts n /\ Jx pre W')) := by
 have hcl := cuts_len n
 refine callsIn_of_wp Tryz.func183 rfl trivial ?_ rfl
 simp only [Tryz.ntmps183, List.size_toArray, List.length_cons, List.length_nil, Nat.reduceAdd, Nat.reduceSub, Array.replicate_succ, Array.replicate_zero, List.push_toArray, List.append_toArray, List.nil_append, List.cons_append]
 gi_wp2
 gi_loopw [4] (fun i wr => ∃ k : Nat, k <= (cuts n).length /\ i = .int .i64 ((8 * k : Nat) : Int) /\ J ((cuts n).take k) wr /\ Kz Z W wr) (fun i _ => n + 8 - (intOf i).toNat)
 case atStart => exact ⟨0, Nat.zero_le _, rfl, h0, Kz.refl _ _⟩
 case round =>
   obtain ⟨k, hk, rfl, hJk, hq⟩ := hrel
   have c1 := (hq.box b1 z1).cell
   have c2 := (hq.box b2 z2).cell
   by_cases hlt : k < (cuts n).length
   . have h8 : 8 * k < n := by omega
     obtain rfl := hq0 (by omega)
     have e1 := cuts_at hlt
     obtain ⟨M, hM⟩ : ∃ M : Nat, min 8 (n - 8 * k) = M := ⟨_, rfl⟩
     rw [hM] at e1
     have em : min (8 : Int) ((n - 8 * k : Nat) : Int) = (M : Int) := by omega
     have hM1 : M <= n - 8 * k := by omega
     have hM2 : M <= 8 := by omega
     have et : (8 * (k : Int) + (M : Int)).toNat - 8 * k = M := by omega
     have hJd := hJ _ wr wr.drew none hJk (below_grown ((Below.refl wr.heap.size wr).drew)) (fun r e => by cases e)
     obtain ⟨fn, tmps, assign, body, hy, hR⟩ := hY ((cuts n).take k) (cuts n)[k] wr.drew hJd (by rw [List.length_take]; omega)
     unfold encX at hy
     rw [e1] at hy
     simp only at hy
     have hqd : Kz Z W wr.drew := ⟨hq.size, hq.block⟩
     clear hY hM
     gi_wp2
     gi_region
     gi_wp2
     refine hR.mono ?_
     rintro e W3 (⟨rfl, hJ3, hk3⟩ | ⟨rfl, hJx3⟩)
     . have hq3 := hqd.trans hk3
       have d2 := (hq3.box b2 z2).cell
       gi_wp2
       go_roundw
       case rel => exact ⟨k + 1, by omega, by go_num, by rw [List.take_succ_eq_append_getElem hlt]; exact hJ3, hq3⟩
       case measure => simp [intOf]; omega
     . gi_wp2
       refine bodyPost_ret (results_none rfl _ _ _) rfl ?_
       refine ⟨⟨_, rfl⟩, .inr ⟨_, ⟨(cuts n).drop (k + 1), ?_⟩, hJx3⟩⟩
       rw [<- List.take_succ_eq_append_getElem hlt, List.take_append_drop]
   . have h8 : ¬ 8 * k < n := by omega
     rw [List.take_of_length_le (by omega)] at hJk
     gi_wp2
     go_end0
     exact ⟨⟨_, rfl⟩, .inl ⟨_, rfl, hJk⟩⟩
theorem chunk_in (q : Option Addr) (n cap : Nat) (w : World) :
   CallsIn Fence.wide 5 Tryz.prog 169 #[.slice q n cap, .int .i64 8] w fun e w' => e = .returned (.func (.func 183) #[] #[.pointer (some ⟨w.heap.size, 0, none⟩), .pointer (some ⟨w.heap.size + 1, 0, none⟩)]) /\ w' = (w.alloc (.cells #[.slice q n cap] 65)).alloc (.cells #[.int .i64 8] 3) := by
 refine callsIn_of_wp Tryz.func169 rfl trivial ?_ rfl
 simp only [Tryz.ntmps169, List.size_toArray, List.length_cons, List.length_nil, Nat.reduceAdd, Nat.reduceSub, Array.replicate_succ, Array.replicate_zero, List.push_toArray, List.append_toArray, List.nil_append, List.cons_append]
 gi_wp2
 go_ret
 exact ⟨rfl, rfl⟩
theorem chunk_stops (B1 B2 g off n cap : Nat) (q : Option Addr) (hq0 : 0 < n -> q = some ⟨g, off, none⟩) (hn : n <= 4194304) (hnc : n <= cap) (Z : Nat -> Prop) (z1 : Z B1) (z2 : Z B2) (w : World) (b1 : Boxed w B1 65 (.slice q n cap)) (b2 : Boxed w B2 3 (.int .i64 8)) :
   SeqStopsK Fence.wide 5 Tryz.prog 183 #[.pointer (some ⟨B1, 0, none⟩), .pointer (some ⟨B2, 0, none⟩)] (encX g off) (Kz Z) (fun ys => ys = cuts n) (fun pre => pre <+: cuts n) (cuts n).length w := fun l J Jx W hW hJ _ hY h0 => by
 have k : Kz Z w W := ⟨hW.size, fun i hi _ => hW.block i hi⟩
 exact chunk1_in l B1 B2 g off n cap q hq0 hn hnc Z z1 z2 J Jx W hJ hY (k.box b1 z1) (k.box b2 z2) h0
end Go.Proofs.YtfghgmojnffgnaaGreat
