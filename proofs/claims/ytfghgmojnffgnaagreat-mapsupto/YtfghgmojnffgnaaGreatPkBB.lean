import Derived.Test.YtfghgmojnffgnaaGreatPkBA
set_option maxHeartbeats 4000000
set_option maxRecDepth 20000
namespace Go.Proofs.YtfghgmojnffgnaaGreat.M
open Go.RowKit Go.Maps Go.Sort
theorem Tryz.info33 : (Tryz.prog.info? 33).map (fun i => (i.zero, i.size, i.bytes)) = some (some (.slice none 0 0), 1, 24) := by kernel_rfl
def pp (p : Nm) (n : Nat) : Mp := List.replicate n (p, p)
theorem pp_len (p : Nm) (n : Nat) : (pp p n).length = n := by simp [pp]
theorem flatP_append (a b : List (Nm × Nm)) : flatP (a ++ b) = flatP a ++ flatP b := by simp [flatP]
theorem pp_one (p : Nm) (n : Nat) : flatP (pp p n) ++ [str p, str p] = flatP (pp p (n + 1)) := by
 rw [show [str p, str p] = flatP [(p, p)] from rfl, <- flatP_append]
 unfold pp
 rw [<- List.replicate_succ']
theorem pp_two (p : Nm) (n : Nat) : flatP (pp p n) ++ [str p, str p, str p, str p] = flatP (pp p (n + 2)) := by
 rw [<- pp_one, <- pp_one]; simp
theorem pp_three (p : Nm) (n : Nat) : flatP (pp p n) ++ [str p, str p, str p, str p, str p, str p] = flatP (pp p (n + 3)) := by
 rw [<- pp_one, <- pp_one, <- pp_one]; simp
def overP (p : Nm) (L : Mp) (j : Nat) : Mp := pp p j ++ L.drop j
theorem overP_len (p : Nm) (L : Mp) (j : Nat) (h : j <= L.length) : (overP p L j).length = L.length := by simp [overP, pp_len]; omega
theorem flatP_set (A B : Mp) (x y : Nm × Nm) : ((flatP (A ++ x :: B)).set (A.length * 2) (str y.1)).set (A.length * 2 + 1) (str y.2) = flatP (A ++ y :: B) := by
 have hA := flatP_len A
 have e : ∀ z : Nm × Nm, flatP (A ++ z :: B) = flatP A ++ (str z.1 :: str z.2 :: flatP B) := fun z => by rw [flatP_append]; rfl
 rw [e, e, List.set_append_right _ _ (by omega), List.set_append_right _ _ (by omega), hA, Nat.sub_self, show A.length * 2 + 1 - A.length * 2 = 1 by omega]
 rfl
theorem overP_succ (p : Nm) (L : Mp) (j : Nat) (h : j < L.length) : ((flatP (overP p L j)).set (j * 2) (str p)).set (j * 2 + 1) (str p) = flatP (overP p L (j + 1)) := by
 have e1 : overP p L j = pp p j ++ L[j] :: L.drop (j + 1) := by unfold overP; rw [List.drop_eq_getElem_cons h]
 have e2 : overP p L (j + 1) = pp p j ++ (p, p) :: L.drop (j + 1) := by unfold overP pp; rw [List.replicate_succ', List.append_assoc]; rfl
 have := flatP_set (pp p j) (L.drop (j + 1)) L[j] (p, p)
 rw [pp_len] at this
 rw [e1, e2]
 exact this
theorem overP_end (p : Nm) (L : Mp) : overP p L L.length = pp p L.length := by simp [overP]
def AllQ (w : World) (v : Value) (n : Nat) (p : Nm) : Prop := ∃ a cap, v = .slice a n cap /\ ∀ i, i < n -> ∃ g, a = some ⟨g, 0, none⟩ /\ (w.cell? ⟨g, i * 2, none⟩ = some (str p) /\ w.cell? ⟨g, i * 2 + 1, none⟩ = some (str p)) /\ ∃ cs z, w.heap[g]? = some (.cells cs 87 z)
theorem allQ_of {w : World} {v : Value} {n : Nat} {p : Nm} (h : w.ownsRow 0 87 2 v n (flatP (pp p n))) : AllQ w v n p := by
 rcases h.2 with ⟨hv, hn⟩ | ⟨g, cap, cur, hv, _, hb, h1, h2, _⟩
 . exact ⟨none, 0, by rw [hv, hn], fun i hi => by omega⟩
 . subst hv
   refine ⟨_, cap, rfl, fun i hi => ⟨g, rfl, ?_, _, _, hb⟩⟩
   obtain ⟨k0, k1⟩ := flatP_at (pp p n) i (by rw [pp_len]; exact hi)
   have e : (pp p n)[i]'(by rw [pp_len]; exact hi) = (p, p) := by simp [pp]
   rw [e] at k0 k1
   exact ⟨(h.cellAt (i * 2) (by omega)).trans k0, (h.cellAt (i * 2 + 1) (by omega)).trans k1⟩
theorem AllQ.kept {S : Nat -> Prop} {w w' : World} {u : Value} {nu : Nat} {p : Nm} (h : AllQ w u nu p) (kp : Kp S w w') (hs : ∀ g, u.ownBlock = some g -> ¬ S g) : AllQ w' u nu p := by
 obtain ⟨a, cap, hv, hc⟩ := h
 refine ⟨a, cap, hv, fun i hi => ?_⟩
 obtain ⟨g, rfl, hg, cs, z, hb⟩ := hc i hi
 have hk := kp.block g (lt_of_block hb) (hs g (by rw [hv]; rfl))
 exact ⟨g, rfl, ⟨(World.cell?_of_block hk).trans hg.1, (World.cell?_of_block hk).trans hg.2⟩, cs, z, hk.trans hb⟩
theorem AllQ.ty {S : Nat -> Prop} {w w' : World} {u : Value} {nu : Nat} {p : Nm} (h : AllQ w u nu p) (kp : Kp S w w') (hs : ∀ g cs z, w.heap[g]? = some (.cells cs 87 z) -> ¬ S g) : AllQ w' u nu p := by
 obtain ⟨a, cap, hv, hc⟩ := h
 refine ⟨a, cap, hv, fun i hi => ?_⟩
 obtain ⟨g, rfl, hg, cs, z, hb⟩ := hc i hi
 have hk := kp.block g (lt_of_block hb) (hs g cs z hb)
 exact ⟨g, rfl, ⟨(World.cell?_of_block hk).trans hg.1, (World.cell?_of_block hk).trans hg.2⟩, cs, z, hk.trans hb⟩
theorem AllQ.new {w : World} {u : Value} {nu : Nat} {p : Nm} (h : AllQ w u nu p) (o : Obj) : AllQ (w.alloc o) u nu p := h.kept (S := fun _ => False) ((Kp.refl _ _).alloc _) (fun _ _ f => f)
theorem AllQ.app {w w' : World} {v v' u : Value} {n m nu : Nat} {p : Nm} (h : AllQ w u nu p) (ha : AppR w w' 87 2 v n (flatP (pp p n)) v' (n + m) (flatP (pp p (n + m)))) (hle : nu <= n + m) : AllQ w' u nu p := by
 obtain ⟨a, cap, hv, hc⟩ := h
 refine ⟨a, cap, hv, fun i hi => ?_⟩
 obtain ⟨g, rfl, hg, cs, z, hb⟩ := hc i hi
 refine ⟨g, rfl, ?_⟩
 have hlt := lt_of_block hb
 rcases ha.how with ⟨h1, h2⟩ | ⟨h1, h2⟩
 . by_cases e : v.ownBlock = some g
   . obtain ⟨a2, cap2, hv2, hc2⟩ := allQ_of ha.new
     obtain ⟨g2, e2, hg2⟩ := hc2 i (by omega)
     rw [hv2, e2] at h1
     rw [e] at h1
     simp only [Value.ownBlock, Option.some.injEq] at h1
     subst h1
     exact hg2
   . have hk := h2.block g hlt e
     exact ⟨⟨(World.cell?_of_block hk).trans hg.1, (World.cell?_of_block hk).trans hg.2⟩, cs, z, hk.trans hb⟩
 . have hk := h1.block g hlt
   exact ⟨⟨(World.cell?_of_block hk).trans hg.1, (World.cell?_of_block hk).trans hg.2⟩, cs, z, hk.trans hb⟩
theorem slice_cap {w : World} {base size n : Nat} {ty : TypeId} {v : Value} {xs : List Value} (h : w.ownsRow base ty size v n xs) : ∃ a c, v = .slice a n c := by
 rcases h.2 with ⟨rfl, rfl⟩ | ⟨g, cap, cur, rfl, _⟩
 . exact ⟨_, _, rfl⟩
 . exact ⟨_, _, rfl⟩
theorem arr_at (w : World) (xs : List Value) (t : TypeId) : ∀ i u, xs[i]? = some u -> (w.alloc (.cells xs.toArray t)).cell? ((⟨w.heap.size, 0, none⟩ : Addr).add i) = some u := fun i u hu => by
 rw [Addr.add_lit, Nat.zero_add, cell_block (block_new w _)]
 simpa using hu
theorem own_closeP {w w' : World} {own : Nat -> Nat} {bW N : Nat} {rs : List DR} {ts : List TX} {nxt : Nat} {vd vt vm : Value} {zz : PX} (h : Inv w own bW N rs ts nxt vd vt vm zz) {vl vp' vq' : Value} (hvl : ∀ g, vl.ownBlock = some g -> own g = 0)
   (kp : Kp (fun k => k = bW \/ vl.ownBlock = some k \/ zz.vp.ownBlock = some k \/ zz.vq.ownBlock = some k) w w')
   (hb : w'.heap[bW]? = some (.cells #[vd, vp', .slice none 0 0, vt, vq', .slice none 0 0, vm, .int .i64 (nxt + 1 : Nat)] 61))
   (us : List TX) (hus : ∀ u ∈ us, u.m = nxt + 1 /\ ∃ n, n <= 4194400 /\ AllQ w' u.v n (textOf (nxt + 1)) /\ ∀ g, u.v.ownBlock = some g -> vl.ownBlock = some g \/ w.heap.size <= g)
   (ht : w'.ownsRow 0 33 1 vp' (zz.ps.length + us.length) (zz.ps.map (·.v) ++ us.map (·.v))) (hm : w'.ownsRow 0 3 1 vq' (zz.ps.length + us.length) ((zz.ps.map fun t => .int .i64 t.m) ++ us.map fun t => .int .i64 t.m))
   (ht' : ∀ g, vp'.ownBlock = some g -> zz.vp.ownBlock = some g \/ w.heap.size <= g) (hm' : ∀ g, vq'.ownBlock = some g -> zz.vq.ownBlock = some g \/ w.heap.size <= g) :
   Inv w' (ownT own w vl vp' vq') bW N rs ts (nxt + 1) vd vt vm ⟨vp', vq', zz.ps ++ us⟩ := by
 have hold : ∀ k, k < w.heap.size -> own k ≠ 0 -> ownT own w vl vp' vq' k = own k := fun k hk h0 => by
   unfold ownT
   rw [if_pos hk, if_neg (fun e => h0 (hvl k e))]
 have hltW := lt_of_block h.blk
 have hnd : ∀ k, own k ≠ 0 -> own k ≠ 1 -> ¬ (k = bW \/ vl.ownBlock = some k \/ zz.vp.ownBlock = some k \/ zz.vq.ownBlock = some k) := fun k h0 h1 => by
   rintro (e | e | e | e)
   . subst e; exact h1 h.cW
   . exact h0 (hvl k e)
   . exact h1 (h.cp k e)
   . exact h1 (h.cq k e)
 refine ⟨hb, (hold _ hltW (by have := h.cW; omega)).trans h.cW, ?_, ?_, ?_, ?_, ?_, fun g hg => ?_, fun g hg => ?_, fun g hg => ?_, fun g hg => ?_, fun g hg => ?_, fun g hg hg' => ?_, fun t htm => ?_, fun t htm => ?_, fun i hi => ?_⟩
 . refine kp.row h.rowd (fun g hg => ?_)
   rintro (e | e | e | e)
   . exact row_ne h.blk h.rowd hg (by decide) e
   . have := h.cd g hg; have := hvl g e; omega
   . exact rows_ne h.rowd h.rowp hg e (by decide)
   . exact rows_ne h.rowd h.rowq hg e (by decide)
 . refine kp.row h.rowt (fun g hg => ?_)
   rintro (e | e | e | e)
   . exact row_ne h.blk h.rowt hg (by decide) e
   . have := h.ct g hg; have := hvl g e; omega
   . exact rows_ne h.rowt h.rowp hg e (by decide)
   . exact rows_ne h.rowt h.rowq hg e (by decide)
 . refine kp.row h.rowm (fun g hg => ?_)
   rintro (e | e | e | e)
   . exact row_ne h.blk h.rowm hg (by decide) e
   . have := h.cm g hg; have := hvl g e; omega
   . exact rows_ne h.rowm h.rowp hg e (by decide)
   . exact h.mq g hg e
 . show World.ownsRow _ _ _ _ _ (zz.ps ++ us).length _
   rw [List.length_append, List.map_append]; exact ht
 . show World.ownsRow _ _ _ _ _ (zz.ps ++ us).length _
   rw [List.length_append, List.map_append]; exact hm
 . have := h.cd g hg
   exact (hold g (h.rowd.lt g hg).2 (by omega)).trans this
 . have := h.ct g hg
   exact (hold g (h.rowt.lt g hg).2 (by omega)).trans this
 . have := h.cm g hg
   exact (hold g (h.rowm.lt g hg).2 (by omega)).trans this
 . rcases Nat.lt_or_ge g w.heap.size with hk | hk
   . rcases ht' g hg with e | e
     . have := h.cp g e; exact (hold g hk (by omega)).trans this
     . omega
   . unfold ownT; rw [if_neg (by omega), if_pos (.inl hg)]
 . rcases Nat.lt_or_ge g w.heap.size with hk | hk
   . rcases hm' g hg with e | e
     . have := h.cq g e; exact (hold g hk (by omega)).trans this
     . omega
   . unfold ownT; rw [if_neg (by omega), if_pos (.inr hg)]
 . rcases hm' g hg' with e | e
   . exact h.mq g hg e
   . have := (h.rowm.lt g hg).2; omega
 . refine ⟨(h.text t htm).1.kept' kp (fun g hg hc => ⟨hnd g (by omega) (by omega), (hold g hg (by omega)).trans hc⟩), ?_⟩
   have := (h.text t htm).2; omega
 . rcases List.mem_append.1 htm with htm | htm
   . refine ⟨(h.pair t htm).1.kept' kp (fun g hg hc => ⟨hnd g (by omega) (by omega), (hold g hg (by omega)).trans hc⟩), ?_⟩
     have := (h.pair t htm).2; omega
   . obtain ⟨hmm, n, hn, hall, hfr⟩ := hus t htm
     refine ⟨?_, by omega⟩
     obtain ⟨a, cap, hv, hc⟩ := hall
     refine ⟨a, n, cap, hv, hn, fun i hi => ?_⟩
     obtain ⟨g, rfl, hg, cs, z, hbg⟩ := hc i hi
     refine ⟨g, rfl, ?_, by rw [hmm]; exact hg.1, by rw [hmm]; exact hg.2⟩
     have hob : t.v.ownBlock = some g := by rw [hv]; rfl
     show ownT own w vl vp' vq' g = 2
     rcases Nat.lt_or_ge g w.heap.size with hk | hk
     . rcases hfr g hob with e | e
       . unfold ownT; rw [if_pos hk, if_pos e]
       . omega
     . unfold ownT
       rw [if_neg (by omega), if_neg]
       rintro (e | e)
       . exact row_ne hbg ht e (by decide) rfl
       . exact row_ne hbg hm e (by decide) rfl
 . exact (h.disk i hi).carry kp (fun k hk s => by
     have h0 : own k ≠ 0 /\ own k ≠ 1 := by rcases s with s | s | s <;> omega
     exact ⟨hnd k h0.1 h0.2, hold k hk h0.1⟩) (Nat.le_refl _)
theorem ownPairs_any {w : World} {own : Nat -> Nat} {bW N : Nat} {rs : List DR} {ts : List TX} {nxt : Nat} {vd vt vm : Value} {zz : PX} (h : Inv w own bW N rs ts nxt vd vt vm zz) (hts : zz.ps.length <= 16777216) (hnx : nxt <= 1099511627770)
   (vl : Value) (L : Mp) (hvl : ∀ g, vl.ownBlock = some g -> own g = 0) (hL : OwnP w 0 vl L) (hLl : L.length <= 4194310) :
   Calls Tryz.prog 143 #[ptrB bW, vl] w fun e w' => e = .returned (.tuple #[]) /\ Kp (fun k => own k = 1 \/ vl.ownBlock = some k) w w' /\ ∃ us vp' vq', us.length = 4 /\ Inv w' (ownT own w vl vp' vq') bW N rs ts (nxt + 1) vd vt vm ⟨vp', vq', zz.ps ++ us⟩ := by
 obtain ⟨c0, c1, c2, c3, c4, c5, c6, c7, hz⟩ := cells8 h.blk
 have z3 := hz 1
 have z6 := hz 4
 have z7 := hz 7
 have hbl := lt_of_block h.blk
 obtain ⟨al, capl, rfl⟩ := slice_cap hL
 have htx := text_any (nxt + 1) (by omega)
 have htx2 := text_any (nxt + 1) (by omega)
 have HB : Hid (w.heap[bW]? = some (.cells #[vd, zz.vp, .slice none 0 0, vt, zz.vq, .slice none 0 0, vm, .int .i64 nxt] 61)) := h.blk
 obtain ⟨s0, sh, s1, s2, s3⟩ := info_parts Tryz.info87
 obtain ⟨ss0, ssh, ss1, ss2, ss3⟩ := info_parts Tryz.info33
 obtain ⟨i0, ih, i1, i2, i3⟩ := info_parts Tryz.info3
 generalize hp : textOf (nxt + 1) = p at *
 unfold ptrB
 clear hz
 go_enter Tryz.func143, Tryz.ntmps143
 go_wp2_with (first
   | (go_at_call 65; refine (htx _).mono ?_; rintro e wa ⟨rfl, hba⟩; clear htx)
   | (go_at_call 65; refine (htx2 _).mono ?_; rintro e wb ⟨rfl, hbb⟩; clear htx2))
 have hb2 := (hba.trans (hbb.mono hba.size)).alloc (Nat.le_trans hba.size hbb.size) (.cells #[str p, str p] 87)
 have hP2 : (wb.alloc (.cells #[str p, str p] 87)).heap[wb.heap.size]? = some (.cells #[str p, str p] 87) := block_new _ _
 have hbs : w.heap.size <= wb.heap.size := by have h1 := hba.size; have h2 := hbb.size; simp [World.setCell] at h1; omega
 generalize wb.alloc (.cells #[str p, str p] 87) = w2 at *
 generalize wb.heap.size = bP at *
 have K2 : Kp (fun k => k = bW \/ (Value.slice al L.length capl).ownBlock = some k) w w2 := ((Kp.refl _ _).put (.inl rfl) _).trans (T := fun _ => False) (Kp.of_below hb2) (fun _ _ f => f.elim)
 have hne : ∀ g, (Value.slice al L.length capl).ownBlock = some g -> g ≠ bW := fun g hg => row_ne HB.out hL hg (by decide)
 have B2 : Hid (w2.heap[bW]? = some (.cells #[vd, zz.vp, .slice none 0 0, vt, zz.vq, .slice none 0 0, vm, .int .i64 ((nxt : Int) + 1)] 61)) := block_at2 ((block_set HB.out _).trans rfl) hb2
 have R2 : w2.ownsRow 0 87 2 (.slice al L.length capl) L.length (flatP (overP p L 0)) := by
   have := ownsRow_of_block hL (w' := w2) (fun g hg => (hb2.block g (by simpa using (World.ownsRow.lt hL g hg).2)).trans (Below.heap_setCell _ _ _ _ (hne g hg)))
   simpa [overP, pp] using this
 have HK2 : Hid (Kp (fun k => k = bW \/ (Value.slice al L.length capl).ownBlock = some k) w w2) := K2
 have tne : Hid (∀ g, zz.vp.ownBlock = some g -> ¬ (g = bW \/ (Value.slice al L.length capl).ownBlock = some g)) := fun g hg => by
   rintro (e | e)
   . exact row_ne HB.out h.rowp hg (by decide) e
   . have := h.cp g hg; have := hvl g e; omega
 have mne : Hid (∀ g, zz.vq.ownBlock = some g -> ¬ (g = bW \/ (Value.slice al L.length capl).ownBlock = some g)) := fun g hg => by
   rintro (e | e)
   . exact row_ne HB.out h.rowq hg (by decide) e
   . have := h.cq g hg; have := hvl g e; omega
 have T2 : Hid (w2.ownsRow 0 33 1 zz.vp zz.ps.length (zz.ps.map (·.v))) := K2.row h.rowp tne.out
 have M2 : Hid (w2.ownsRow 0 3 1 zz.vq zz.ps.length (zz.ps.map fun t => .int .i64 t.m)) := K2.row h.rowq mne.out
 have hne' : Hid (∀ g, (Value.slice al L.length capl).ownBlock = some g -> g ≠ bW) := hne
 clear K2 hb2 c0 c1 c2 c3 c4 c5 c6 c7 z3 z6 z7 hne
 go_loopw [6] (fun i wr => ∃ j : Nat, j <= L.length /\ i = .int .i64 j /\ Kp (fun k => (Value.slice al L.length capl).ownBlock = some k) w2 wr /\ wr.ownsRow 0 87 2 (.slice al L.length capl) L.length (flatP (overP p L j)) /\ wr.heap[bP]? = some (.cells #[str p, str p] 87)) (fun i _ => L.length - (intOf i).toNat)
 case atStart => exact ⟨0, Nat.zero_le _, rfl, Kp.refl _ _, R2, hP2⟩
 case round =>
   obtain ⟨j, hj, rfl, kpr, R3, hP3⟩ := hrel
   by_cases hlt : j < L.length
   . obtain ⟨g, cap', e', -, -, -⟩ := row_pos R3 (by omega)
     obtain ⟨rfl, -⟩ : al = some ⟨g, 0, none⟩ /\ capl = cap' := by simpa using e'
     have hgl := (World.ownsRow.lt hL g rfl).2
     have hgne : ¬ g = bP := by omega
     have hgne' : ¬ bP = g := by omega
     have hat := flatP_at (overP p L j) j (by rw [overP_len _ _ _ (by omega)]; exact hlt)
     have hc0 := (R3.cellAt (j * 2) (by omega)).trans hat.1
     have hc1 := (R3.cellAt (j * 2 + 1) (by omega)).trans hat.2
     have hz0 := R3.frozenAt (j * 2)
     have hz1 := R3.frozenAt (j * 2 + 1)
     have m0 : wr.cell? ⟨bP, 0, none⟩ = some (str p) := cell_block hP3
     have m1 : wr.cell? ⟨bP, 1, none⟩ = some (str p) := cell_block hP3
     have hst := ((R3.stored (j * 2) (str p)).1.stored (j * 2 + 1) (str p)).1
     rw [overP_succ p L j hlt] at hst
     have HST : Hid (((wr.setCell ⟨g, j * 2, none⟩ (str p)).setCell ⟨g, j * 2 + 1, none⟩ (str p)).ownsRow 0 87 2 (.slice (some ⟨g, 0, none⟩) L.length capl) L.length (flatP (overP p L (j + 1)))) := hst
     have HP3 : Hid (((wr.setCell ⟨g, j * 2, none⟩ (str p)).setCell ⟨g, j * 2 + 1, none⟩ (str p)).heap[bP]? = some (.cells #[str p, str p] 87)) := block_set_ne (block_set_ne hP3 hgne' _) hgne' _
     clear hst R3 hat e' hP3
     go_wp2
     go_roundw
     case rel => exact ⟨j + 1, by omega, by go_num, (kpr.put rfl _).put rfl _, HST.out, HP3.out⟩
     case measure => simp [intOf]; omega
   . have hje : j = L.length := by omega
     subst hje
     rw [overP_end] at R3
     have K3 : Hid (Kp (fun k => (Value.slice al L.length capl).ownBlock = some k) w2 wr) := kpr
     have m0 : wr.cell? ⟨bP, 0, none⟩ = some (str p) := cell_block hP3
     have m1 : wr.cell? ⟨bP, 1, none⟩ = some (str p) := cell_block hP3
     have HP3 : Hid (wr.heap[bP]? = some (.cells #[str p, str p] 87)) := hP3
     have hvne : Hid (∀ g, (Value.slice al L.length capl).ownBlock = some g -> g ≠ bP) := fun g hg e => by have := (World.ownsRow.lt hL g hg).2; omega
     clear kpr R2 hP3
     go_wp2_with (first
       | (at_builtin; refine wpList_app2 _ rfl (.tmp 36) (.tmp 38) 33 rfl 87 s0 _ 2 32 Tryz.underlying33 sh s1 s2 s3 rfl (by decide) _ _ _ rfl (World.ownsRow.alloc R3 _) ⟨wr.heap.size, 0, none⟩ 1 1 [str p, str p] rfl rfl (by exact arr_at _ [str p, str p] _) (by intro u hu; simp at hu; subst hu; rfl) (by unfold maxLen; omega) (by omega) ?_; intro v1 w4 A1; rw [pp_one] at A1; have sz4 := A1.kp.size; obtain ⟨a1, cap1, rfl⟩ := slice_cap A1.new; have HA1 : Hid (AppR (wr.alloc (.cells #[str p, str p] 87)) w4 87 2 (.slice al L.length capl) L.length (flatP (pp p L.length)) (.slice a1 (L.length + 1) cap1) (L.length + 1) (flatP (pp p (L.length + 1)))) := A1; have R4 := A1.old; have HP4 : Hid (w4.heap[bP]? = some (.cells #[str p, str p] 87)) := A1.kp.at (block_alloc HP3.out) (fun e => hvne.out _ e rfl); clear m0 m1; have m0 : w4.cell? ⟨bP, 0, none⟩ = some (str p) := cell_block HP4.out; have m1 : w4.cell? ⟨bP, 1, none⟩ = some (str p) := cell_block HP4.out; clear A1)
       | (at_builtin; refine wpList_app2 _ rfl (.tmp 40) (.tmp 43) 33 rfl 87 s0 _ 2 32 Tryz.underlying33 sh s1 s2 s3 rfl (by decide) _ _ _ rfl (World.ownsRow.alloc R4 _) ⟨w4.heap.size, 0, none⟩ 2 2 [str p, str p, str p, str p] rfl rfl (by exact arr_at _ [str p, str p, str p, str p] _) (by intro u hu; simp at hu; subst hu; rfl) (by unfold maxLen; omega) (by omega) ?_; intro v2 w5 A2; rw [pp_two] at A2; have sz5 := A2.kp.size; obtain ⟨a2, cap2, rfl⟩ := slice_cap A2.new; have HA2 : Hid (AppR (w4.alloc (.cells #[str p, str p, str p, str p] 87)) w5 87 2 (.slice al L.length capl) L.length (flatP (pp p L.length)) (.slice a2 (L.length + 2) cap2) (L.length + 2) (flatP (pp p (L.length + 2)))) := A2; have R5 := A2.old; have HP5 : Hid (w5.heap[bP]? = some (.cells #[str p, str p] 87)) := A2.kp.at (block_alloc HP4.out) (fun e => hvne.out _ e rfl); clear m0 m1; have m0 : w5.cell? ⟨bP, 0, none⟩ = some (str p) := cell_block HP5.out; have m1 : w5.cell? ⟨bP, 1, none⟩ = some (str p) := cell_block HP5.out; clear A2)
       | (at_builtin; refine wpList_app2 _ rfl (.tmp 45) (.tmp 49) 33 rfl 87 s0 _ 2 32 Tryz.underlying33 sh s1 s2 s3 rfl (by decide) _ _ _ rfl (World.ownsRow.alloc R5 _) ⟨w5.heap.size, 0, none⟩ 3 3 [str p, str p, str p, str p, str p, str p] rfl rfl (by exact arr_at _ [str p, str p, str p, str p, str p, str p] _) (by intro u hu; simp at hu; subst hu; rfl) (by unfold maxLen; omega) (by omega) ?_; intro v3 w6 A3; rw [pp_three] at A3; have sz6 := A3.kp.size; obtain ⟨a3, cap3, rfl⟩ := slice_cap A3.new; have HA3 : Hid (AppR (w5.alloc (.cells #[str p, str p, str p, str p, str p, str p] 87)) w6 87 2 (.slice al L.length capl) L.length (flatP (pp p L.length)) (.slice a3 (L.length + 3) cap3) (L.length + 3) (flatP (pp p (L.length + 3)))) := A3; clear A3; have K6 := ((((((K3.out.alloc (.cells #[str p, str p] 87)).trans HA1.out.kp (fun _ _ e => e)).alloc (.cells #[str p, str p, str p, str p] 87)).trans HA2.out.kp (fun _ _ e => e)).alloc (.cells #[str p, str p, str p, str p, str p, str p] 87)).trans HA3.out.kp (fun _ _ e => e)); have HK6 : Hid (Kp (fun k => (Value.slice al L.length capl).ownBlock = some k) w2 w6) := K6; have b6 := K6.at B2.out (fun e => hne'.out bW e rfl); have T6 := K6.row T2.out (fun g hg e => tne.out g hg (.inr e)); have M6 := K6.row M2.out (fun g hg e => mne.out g hg (.inr e)); clear K6; obtain ⟨y0, y1, y2, y3, y4, y5, y6, y7, zy⟩ := cells8 b6; have zz3 := zy 1; have zz6 := zy 4; clear zy; have HB6 : Hid (w6.heap[bW]? = some (.cells #[vd, zz.vp, .slice none 0 0, vt, zz.vq, .slice none 0 0, vm, .int .i64 ((nxt : Int) + 1)] 61)) := b6; clear b6)
       | (at_builtin; refine wpList_app2 _ rfl (.tmp 55) (.tmp 60) 56 rfl 33 ss0 _ 1 24 Tryz.underlying56 ssh ss1 ss2 ss3 rfl (by decide) _ _ _ rfl (World.ownsRow.alloc T6 _) ⟨w6.heap.size, 0, none⟩ 4 4 [.slice al L.length capl, .slice a1 (L.length + 1) cap1, .slice a2 (L.length + 2) cap2, .slice a3 (L.length + 3) cap3] rfl rfl (four_at _ _ _ _ _ _) (by intro u hu; simp at hu; rcases hu with rfl | rfl | rfl | rfl <;> rfl) (by unfold maxLen; omega) (by omega) ?_; intro v7 w7 A4; have sz7 := A4.kp.size; obtain ⟨a7, cap7, rfl, -, -, -, -⟩ := row1 A4.new; have HA4 : Hid (AppR (w6.alloc (.cells #[.slice al L.length capl, .slice a1 (L.length + 1) cap1, .slice a2 (L.length + 2) cap2, .slice a3 (L.length + 3) cap3] 33)) w7 33 1 zz.vp zz.ps.length (zz.ps.map (·.v)) (.slice a7 (zz.ps.length + 4) cap7) (zz.ps.length + 4) (zz.ps.map (·.v) ++ [.slice al L.length capl, .slice a1 (L.length + 1) cap1, .slice a2 (L.length + 2) cap2, .slice a3 (L.length + 3) cap3])) := A4; have kp7 := HA4.out.kp; have b7 := kp7.at (block_alloc HB6.out) (fun e => tne.out bW e (.inl rfl)); have HM7 : Hid (w7.ownsRow 0 3 1 zz.vq zz.ps.length (zz.ps.map fun t => .int .i64 t.m)) := kp7.row (World.ownsRow.alloc M6 _) (fun g hg e => rows_ne T6 M6 e hg (by decide)); clear kp7; obtain ⟨x0, x1, x2, x3, x4, x5, x6, x7, zx⟩ := cells8 b7; have zx3 := zx 1; have zx6 := zx 4; clear zx A4; have HB7 : Hid (w7.heap[bW]? = some (.cells #[vd, zz.vp, .slice none 0 0, vt, zz.vq, .slice none 0 0, vm, .int .i64 ((nxt : Int) + 1)] 61)) := b7; clear b7 y0 y1 y2 y3 y4 y5 y6 y7 zz3 zz6 M6)
       | go_in)
     have p1 := (((allQ_of HA1.out.new).new _).app HA2.out (by omega)).new _ |>.app HA3.out (by omega)
     have p2 := ((allQ_of HA2.out.new).new _).app HA3.out (by omega)
     have p3 := allQ_of HA3.out.new
     have p0 := allQ_of HA3.out.old
     have hst6 : ∀ g cs z, (w6.alloc (.cells #[.slice al L.length capl, .slice a1 (L.length + 1) cap1, .slice a2 (L.length + 2) cap2, .slice a3 (L.length + 3) cap3] 33)).heap[g]? = some (.cells cs 87 z) -> ¬ zz.vp.ownBlock = some g := fun g cs z hb e => row_ne hb (World.ownsRow.alloc T6 _) e (by decide) rfl
     have q0 := (p0.new _).ty HA4.out.kp hst6
     have q1 := (p1.new _).ty HA4.out.kp hst6
     have q2 := (p2.new _).ty HA4.out.kp hst6
     have q3 := (p3.new _).ty HA4.out.kp hst6
     have hst7 : ∀ g cs z, w7.heap[g]? = some (.cells cs 87 z) -> ¬ g = bW := fun g cs z hb e => cells_ne hb HB7.out (by decide) e
     have k78 := Kp.set1 w7 bW 1 (.slice a7 (zz.ps.length + 4) cap7)
     have Q0 := q0.ty k78 hst7
     have Q1 := q1.ty k78 hst7
     have Q2 := q2.ty k78 hst7
     have Q3 := q3.ty k78 hst7
     have b8 := (block_set (j := 1) HB7.out (.slice a7 (zz.ps.length + 4) cap7)).trans rfl
     have M8 := k78.row HM7.out (fun g hg e => row_ne HB7.out HM7.out hg (by decide) e)
     have T8 := k78.row HA4.out.new (fun g hg e => row_ne HB7.out HA4.out.new hg (by decide) e)
     have K8 : Kp (fun k => k = bW \/ (Value.slice al L.length capl).ownBlock = some k \/ zz.vp.ownBlock = some k \/ zz.vq.ownBlock = some k) w (w7.setCell ⟨bW, 1, none⟩ (.slice a7 (zz.ps.length + 4) cap7)) :=
       (((((HK2.out.mono (fun k e => e.elim .inl (fun e => .inr (.inl e)))).trans HK6.out (fun _ _ e => .inr (.inl e))).alloc (.cells #[.slice al L.length capl, .slice a1 (L.length + 1) cap1, .slice a2 (L.length + 2) cap2, .slice a3 (L.length + 3) cap3] 33)).trans HA4.out.kp (fun _ _ e => .inr (.inr (.inl e))))).put (.inl rfl) _
     have hsz : w.heap.size <= w2.heap.size := HK2.out.size
     have hsz3 : w2.heap.size <= wr.heap.size := K3.out.size
     have F1 : ∀ g, (Value.slice a1 (L.length + 1) cap1).ownBlock = some g -> (Value.slice al L.length capl).ownBlock = some g \/ w.heap.size <= g := fun g hg => (HA1.out.fresh g hg).imp id (fun h => by simp at h; omega)
     have F2 : ∀ g, (Value.slice a2 (L.length + 2) cap2).ownBlock = some g -> (Value.slice al L.length capl).ownBlock = some g \/ w.heap.size <= g := fun g hg => (HA2.out.fresh g hg).imp id (fun h => by simp at h sz4; omega)
     have F3 : ∀ g, (Value.slice a3 (L.length + 3) cap3).ownBlock = some g -> (Value.slice al L.length capl).ownBlock = some g \/ w.heap.size <= g := fun g hg => (HA3.out.fresh g hg).imp id (fun h => by simp at h sz4 sz5; omega)
     have F7 : ∀ g, (Value.slice a7 (zz.ps.length + 4) cap7).ownBlock = some g -> zz.vp.ownBlock = some g \/ w.heap.size <= g := fun g hg => (HA4.out.fresh g hg).imp id (fun h => by simp at h sz4 sz5 sz6; omega)
     have HF : Hid ((∀ g, (Value.slice a1 (L.length + 1) cap1).ownBlock = some g -> (Value.slice al L.length capl).ownBlock = some g \/ w.heap.size <= g) /\ (∀ g, (Value.slice a2 (L.length + 2) cap2).ownBlock = some g -> (Value.slice al L.length capl).ownBlock = some g \/ w.heap.size <= g) /\ (∀ g, (Value.slice a3 (L.length + 3) cap3).ownBlock = some g -> (Value.slice al L.length capl).ownBlock = some g \/ w.heap.size <= g) /\ (∀ g, (Value.slice a7 (zz.ps.length + 4) cap7).ownBlock = some g -> zz.vp.ownBlock = some g \/ w.heap.size <= g)) := ⟨F1, F2, F3, F7⟩
     generalize w7.setCell ⟨bW, 1, none⟩ (.slice a7 (zz.ps.length + 4) cap7) = w8 at Q0 Q1 Q2 Q3 b8 M8 T8 K8 ⊢
     have HQ : Hid (AllQ w8 (.slice al L.length capl) L.length p /\ AllQ w8 (.slice a1 (L.length + 1) cap1) (L.length + 1) p /\ AllQ w8 (.slice a2 (L.length + 2) cap2) (L.length + 2) p /\ AllQ w8 (.slice a3 (L.length + 3) cap3) (L.length + 3) p) := ⟨Q0, Q1, Q2, Q3⟩
     have HT8 : Hid (w8.ownsRow 0 33 1 (.slice a7 (zz.ps.length + 4) cap7) (zz.ps.length + 4) (zz.ps.map (·.v) ++ [.slice al L.length capl, .slice a1 (L.length + 1) cap1, .slice a2 (L.length + 2) cap2, .slice a3 (L.length + 3) cap3])) := T8
     have HK8 : Hid (Kp (fun k => k = bW \/ (Value.slice al L.length capl).ownBlock = some k \/ zz.vp.ownBlock = some k \/ zz.vq.ownBlock = some k) w w8) := K8
     obtain ⟨y0, y1, y2, y3, y4, y5, y6, y7, zy⟩ := cells8 b8
     have zz6 := zy 4
     have HB8 : Hid (w8.heap[bW]? = some (.cells #[vd, .slice a7 (zz.ps.length + 4) cap7, .slice none 0 0, vt, zz.vq, .slice none 0 0, vm, .int .i64 ((nxt : Int) + 1)] 61)) := b8
     have hbl8 := lt_of_block b8
     clear p0 p1 p2 p3 q0 q1 q2 q3 hst6 hst7 k78 F1 F2 F3 F7 Q0 Q1 Q2 Q3 T8 K8 b8 zy x0 x1 x2 x3 x4 x5 x6 x7 zx3 zx6 R3 R4 R5 T6 HA1 HA2 HA3 HA4 HB6 HB7 HM7 K3 T2 M2 sz4 sz5 sz6 sz7
     go_region_law (refine step_app2 rfl (.tmp 69) (.tmp 74) 27 rfl 3 i0 _ 1 8 Tryz.underlying27 ih i1 i2 i3 rfl (by decide) _ _ _ rfl (by exact World.ownsRow.alloc M8 _) ⟨w8.heap.size, 0, none⟩ 4 4 [.int .i64 ((nxt : Int) + 1), .int .i64 ((nxt : Int) + 1), .int .i64 ((nxt : Int) + 1), .int .i64 ((nxt : Int) + 1)] rfl rfl (by exact four_at _ _ _ _ _ _) (by intro u hu; simp at hu; subst hu; rfl) (by unfold maxLen; omega) (by omega) ?_; intro v9 w9 A5; obtain ⟨a9, cap9, rfl, -, -, -, -⟩ := row1 A5.new; have kp9 : Kp (fun k => zz.vq.ownBlock = some k) (w8.alloc (.cells #[.int .i64 ((nxt : Int) + 1), .int .i64 ((nxt : Int) + 1), .int .i64 ((nxt : Int) + 1), .int .i64 ((nxt : Int) + 1)] 3)) w9 := A5.kp.undrew; have b9 := kp9.at (block_alloc HB8.out) (fun e => mne.out bW e (.inl rfl)); obtain ⟨g0, g1, g2, g3, g4, g5, g6, g7, zg⟩ := cells8 b9; have zg6 := zg 4; clear zg)
     all_goals (try go_wp2)
     all_goals go_end0
     all_goals
       have hsv : ∀ g cs z, (w8.alloc (.cells #[.int .i64 ((nxt : Int) + 1), .int .i64 ((nxt : Int) + 1), .int .i64 ((nxt : Int) + 1), .int .i64 ((nxt : Int) + 1)] 3)).heap[g]? = some (.cells cs 87 z) -> ¬ zz.vq.ownBlock = some g := fun g cs z hb e => row_ne hb (World.ownsRow.alloc M8 _) e (by decide) rfl
       have hsw : ∀ g cs z, w9.heap[g]? = some (.cells cs 87 z) -> ¬ g = bW := fun g cs z hb e => cells_ne hb b9 (by decide) e
       have k9 := Kp.set1 w9 bW 4 (.slice a9 (zz.ps.length + 4) cap9)
       obtain ⟨Q0, Q1, Q2, Q3⟩ := HQ.out
       obtain ⟨F1, F2, F3, F7⟩ := HF.out
       have P0 := ((Q0.new _).ty kp9 hsv).ty k9 hsw
       have P1 := ((Q1.new _).ty kp9 hsv).ty k9 hsw
       have P2 := ((Q2.new _).ty kp9 hsv).ty k9 hsw
       have P3 := ((Q3.new _).ty kp9 hsv).ty k9 hsw
       have T10 := k9.row (kp9.row (World.ownsRow.alloc HT8.out _) (fun g hg e => rows_ne HT8.out M8 hg e (by decide))) (fun g hg e => row_ne HB8.out HT8.out hg (by decide) e)
       have M10 := k9.row A5.new (fun g hg e => row_ne b9 A5.new hg (by decide) e)
       have K10 : Kp (fun k => k = bW \/ (Value.slice al L.length capl).ownBlock = some k \/ zz.vp.ownBlock = some k \/ zz.vq.ownBlock = some k) w (w9.setCell ⟨bW, 4, none⟩ (.slice a9 (zz.ps.length + 4) cap9)) := ((HK8.out.alloc (.cells #[.int .i64 ((nxt : Int) + 1), .int .i64 ((nxt : Int) + 1), .int .i64 ((nxt : Int) + 1), .int .i64 ((nxt : Int) + 1)] 3)).trans kp9 (fun _ _ e => .inr (.inr (.inr e)))).put (.inl rfl) _
       have hsz8 := HK8.out.size
       have B10 := (block_set (j := 4) b9 (.slice a9 (zz.ps.length + 4) cap9)).trans rfl
       refine ⟨rfl, K10.mono (fun k e => ?_), [⟨.slice al L.length capl, nxt + 1⟩, ⟨.slice a1 (L.length + 1) cap1, nxt + 1⟩, ⟨.slice a2 (L.length + 2) cap2, nxt + 1⟩, ⟨.slice a3 (L.length + 3) cap3, nxt + 1⟩], _, _, rfl, own_closeP h hvl K10 B10 _ (fun u hu => ?_) T10 M10 F7 (fun g hg => (A5.fresh g hg).imp id (fun h => by simp at h; omega))⟩
       . rcases e with e | e | e | e
         . exact .inl (e ▸ h.cW)
         . exact .inr e
         . exact .inl (h.cp k e)
         . exact .inl (h.cq k e)
       . rw [hp]
         simp only [List.mem_cons, List.not_mem_nil, or_false] at hu
         rcases hu with rfl | rfl | rfl | rfl
         . exact ⟨rfl, _, by omega, P0, fun g hg => .inl hg⟩
         . exact ⟨rfl, _, by omega, P1, F1⟩
         . exact ⟨rfl, _, by omega, P2, F2⟩
         . exact ⟨rfl, _, by omega, P3, F3⟩
end Go.Proofs.YtfghgmojnffgnaaGreat.M
