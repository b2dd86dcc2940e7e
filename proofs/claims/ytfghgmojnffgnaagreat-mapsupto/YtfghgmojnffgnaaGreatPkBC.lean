import Derived.Test.YtfghgmojnffgnaaGreatPkBA
import Derived.StillTailTactics
import Derived.Test.YtfghgmojnffgnaaGreatPkAH
import Derived.Deep.RegionHeld3
import Derived.Deep.DrawnRows
set_option maxHeartbeats 4000000
set_option maxRecDepth 20000
namespace Go.Proofs.YtfghgmojnffgnaaGreat.M
open Go.RowKit Go.Maps Go.Sort
theorem made_close {w w1 w2 w' : World} {own : Nat -> Nat} {bW N : Nat} {rs : List DR} {ts : List TX} {nxt : Nat} {vd vt vm vd' : Value} {zz : PX} {bx bY : Nat} {d : Dk} (h : Inv w own bW N rs ts nxt vd vt vm zz)
   (hb1 : Below w.heap.size w w1) (hb2 : Below w1.heap.size w1 w2) (hx : XAt w1 (fun k => w.heap.size <= k) bx d) (hy : RefAt w2 (fun k => w1.heap.size <= k) bY d) (hok : d.Ok) (hl : Fits d N)
   (kp : Kp (fun k => k = bW \/ vd.ownBlock = some k) w2 w') (hbk : w'.heap[w2.heap.size]? = some (.cells #[ptrB bx, ptrB bY, .pointer none] 100))
   (hb : w'.heap[bW]? = some (.cells #[vd', zz.vp, .slice none 0 0, vt, zz.vq, .slice none 0 0, vm, .int .i64 nxt] 61))
   (hd : w'.ownsRow 0 64 1 vd' (rs.length + 1) ((rs.map fun r => ptrB r.bk) ++ [ptrB w2.heap.size])) (hd' : ∀ g, vd'.ownBlock = some g -> vd.ownBlock = some g \/ w2.heap.size < g) :
   Inv w' (ownM own w w1 w2 rs.length vd') bW N (rs ++ [⟨w2.heap.size, bx, bY, d, d, none⟩]) ts nxt vd' vt vm zz := by
 have s1 := hb1.size
 have s2 := hb2.size
 have hbW := lt_of_block h.blk
 have hold : ∀ k, k < w.heap.size -> ownM own w w1 w2 rs.length vd' k = own k := fun k hk => if_pos hk
 have hdlt : ∀ g, vd.ownBlock = some g -> g < w.heap.size := fun g hg => (h.rowd.lt g hg).2
 have kpw : Kp (fun k => k = bW \/ vd.ownBlock = some k) w w' := ((Kp.of_below (S := fun k => k = bW \/ vd.ownBlock = some k) hb1).trans (T := fun _ => False) (Kp.of_below hb2) (fun _ _ f => f.elim)).trans kp (fun _ _ e => e)
 have hn1 : ∀ k, own k ≠ 1 -> ¬ (k = bW \/ vd.ownBlock = some k) := fun k h1 => by
   rintro (e | e)
   . subst e; exact h1 h.cW
   . exact h1 (h.cd k e)
 refine ⟨hb, (hold _ hbW).trans h.cW, by simpa using hd, ?_, ?_, ?_, ?_, fun g hg => ?_, fun g hg => ?_, fun g hg => ?_, fun g hg => ?_, fun g hg => ?_, h.mq, fun t ht => ?_, fun t ht => ?_, fun i hi => ?_⟩
 . exact kpw.row h.rowt (fun g hg => by
     rintro (e | e)
     . exact row_ne h.blk h.rowt hg (by decide) e
     . exact rows_ne h.rowt h.rowd hg e (by decide))
 . exact kpw.row h.rowm (fun g hg => by
     rintro (e | e)
     . exact row_ne h.blk h.rowm hg (by decide) e
     . exact rows_ne h.rowm h.rowd hg e (by decide))
 . exact kpw.row h.rowp (fun g hg => by
     rintro (e | e)
     . exact row_ne h.blk h.rowp hg (by decide) e
     . exact rows_ne h.rowp h.rowd hg e (by decide))
 . exact kpw.row h.rowq (fun g hg => by
     rintro (e | e)
     . exact row_ne h.blk h.rowq hg (by decide) e
     . exact rows_ne h.rowq h.rowd hg e (by decide))
 . rcases hd' g hg with e | e
   . exact (hold g (hdlt g e)).trans (h.cd g e)
   . unfold ownM
     rw [if_neg (by omega), if_neg (by omega), if_neg (by omega), if_neg (by omega), if_pos hg]
 . exact (hold g (h.rowt.lt g hg).2).trans (h.ct g hg)
 . exact (hold g (h.rowm.lt g hg).2).trans (h.cm g hg)
 . exact (hold g (h.rowp.lt g hg).2).trans (h.cp g hg)
 . exact (hold g (h.rowq.lt g hg).2).trans (h.cq g hg)
 . exact ⟨(h.text t ht).1.kept' kpw (fun g hg hc => ⟨hn1 g (by omega), (hold g hg).trans hc⟩), (h.text t ht).2⟩
 . exact ⟨(h.pair t ht).1.kept' kpw (fun g hg hc => ⟨hn1 g (by omega), (hold g hg).trans hc⟩), (h.pair t ht).2⟩
 . by_cases hi' : i < rs.length
   . rw [List.getElem_append_left hi']
     exact (h.disk i hi').carry kpw (fun k hk s => ⟨hn1 k (by rcases s with s | s | s <;> omega), hold k hk⟩) (Nat.le_refl _)
   . have hie : i = rs.length := by simp at hi; omega
     subst hie
     rw [List.getElem_append_right (Nat.le_refl _)]
     simp only [Nat.sub_self, List.getElem_cons_zero]
     have hne2 : ∀ k, w.heap.size <= k -> ¬ (k = bW \/ vd.ownBlock = some k) := fun k hk => by
       rintro (e | e)
       . omega
       . have := hdlt k e; omega
     refine ⟨fun _ => ⟨hbk, ?_, ?_, ?_, hok, hok, hl, hl.1⟩, fun q hq => (by cases hq)⟩
     . show ownM own w w1 w2 rs.length vd' w2.heap.size = _
       unfold ownM
       rw [if_neg (by omega), if_neg (by omega), if_neg (by omega), if_pos rfl]
     . have x2 := (hx.mono (T := fun k => w.heap.size <= k /\ k < w1.heap.size) (fun _ hk s => ⟨s, hk⟩)).kept (T := fun _ => False) (Kp.of_below hb2) (fun _ _ f => f)
       refine (x2.kept kp (fun k s => hne2 k s.1)).mono (fun k _ s => ?_)
       show ownM own w w1 w2 rs.length vd' k = _
       unfold ownM
       rw [if_neg (by omega), if_pos s.2]
     . have y2 := hy.mono (T := fun k => w1.heap.size <= k /\ k < w2.heap.size) (fun _ hk s => ⟨s, hk⟩)
       refine (y2.kept kp (fun k s => hne2 k (by omega))).mono (fun k _ s => ?_)
       show ownM own w w1 w2 rs.length vd' k = _
       unfold ownM
       rw [if_neg (by omega), if_neg (by omega), if_pos s.2]
theorem made_any {w : World} {own : Nat -> Nat} {bW N : Nat} {rs : List DR} {ts : List TX} {nxt : Nat} {vd vt vm : Value} {zz : PX} (h : Inv w own bW N rs ts nxt vd vt vm zz) (hrs : rs.length <= 16777216) (q : Int) :
   Calls Tryz.prog 23 #[ptrB bW, .int .i64 q] w fun e w' => e = .returned (.bool true) /\ Kp (fun k => own k = 1) w w' /\ ∃ own' rs' vd', Inv w' own' bW N rs' ts nxt vd' vt vm zz /\ (∀ k, k < w.heap.size -> own' k = own k) /\
     ((rs' = rs /\ quotaOk q = false) \/ (quotaOk q = true /\ ∃ r : DR, rs' = rs ++ [r] /\ r.dx = newDk q /\ r.dy = newDk q /\ r.kn = none)) := by
 cases hq : quotaOk q
 . have hx := xNew_bad q w hq
   have hy := yNew_bad q w hq
   unfold ptrB
   go_enter Tryz.func23, Tryz.ntmps23
   go_wp2_with (first
     | (go_at_call 27; refine hx.mono ?_; rintro e w' ⟨rfl, rfl⟩; clear hx)
     | (go_at_call 43; refine hy.mono ?_; rintro e w' ⟨rfl, rfl⟩; clear hy)
     | (go_at_call 44; refine (num_eq _ _).mono ?_; rintro e w9 ⟨rfl, rfl⟩))
   go_ret
   exact ⟨rfl, Kp.refl _ _, own, rs, vd, h, fun _ _ => rfl, .inl ⟨rfl, by simp⟩⟩
 . have hx := xNew_ok q w hq
   obtain ⟨i0, ih, i1, i2, i3⟩ := info_parts Tryz.info64
   obtain ⟨vda, capd, hvd, -, -, -, -⟩ := row1 h.rowd
   unfold ptrB
   go_enter Tryz.func23, Tryz.ntmps23
   go_wp2_with (first
     | (go_at_call 27; refine hx.mono ?_; rintro e w1 ⟨bx, rfl, hX, hb1⟩; clear hx; have hs1 := hb1.size)
     | (go_at_call 43; refine (yNew_ok q w1 hq).mono ?_; rintro e w2 ⟨rfl, hY, hb2⟩; have hs2 := hb2.size; have b2 := block_at2 (block_at2 h.blk hb1) hb2; obtain ⟨c0, c1, c2, c3, c4, c5, c6, c7, hz⟩ := cells8 b2; have z0 := hz 0; have hbl := lt_of_block b2; have D2 := ownsRow_of_block (ownsRow_of_block h.rowd (fun g hg => hb1.block g (h.rowd.lt g hg).2)) (fun g hg => hb2.block g (Nat.lt_of_lt_of_le (h.rowd.lt g hg).2 hs1)); have HB2 : Hid (w2.heap[bW]? = some (.cells #[vd, zz.vp, .slice none 0 0, vt, zz.vq, .slice none 0 0, vm, .int .i64 nxt] 61)) := b2; clear b2 hz c1 c2 c3 c4 c5 c6 c7; rw [hvd] at c0)
     | (go_at_call 44; refine (num_eq _ _).mono ?_; rintro e w9 ⟨rfl, rfl⟩)
     | (at_builtin; refine wpList_app2 _ rfl (.tmp 37) (.tmp 42) 55 rfl 64 i0 _ 1 8 Tryz.underlying55 ih i1 i2 i3 rfl (by decide) _ _ _ (by exact hvd.symm) (by exact World.ownsRow.alloc (World.ownsRow.alloc D2 _) _) ⟨w2.heap.size + 1, 0, none⟩ 1 1 [ptrB w2.heap.size] rfl rfl (by exact one_at' _ _ _ _ (by simp)) (by intro u hu; simp at hu; subst hu; rfl) (by unfold maxLen; omega) (by omega) ?_; intro v5 w5 A5; obtain ⟨a5, cap5, rfl, -, -, -, -⟩ := row1 A5.new; have HA5 : Hid (AppR ((w2.alloc (.cells #[ptrB bx, ptrB w1.heap.size, .pointer none] 100)).alloc (.cells #[ptrB w2.heap.size] 64)) w5 64 1 vd rs.length (rs.map fun r => ptrB r.bk) (.slice a5 (rs.length + 1) cap5) (rs.length + 1) ((rs.map fun r => ptrB r.bk) ++ [ptrB w2.heap.size])) := A5; clear A5; have b5 := HA5.out.kp.at (block_alloc (block_alloc HB2.out)) (fun e => row_ne HB2.out D2 e (by decide) rfl); obtain ⟨y0, y1, y2, y3, y4, y5, y6, y7, zz⟩ := cells8 b5; have zz0 := zz 0; clear zz)
     | go_in)
   go_ret
   have k5 := HA5.out.kp
   have hdlt : ∀ g, vd.ownBlock = some g -> g < w2.heap.size := fun g hg => (D2.lt g hg).2
   have hbk : (w5.setCell ⟨bW, 0, none⟩ (.slice a5 (rs.length + 1) cap5)).heap[w2.heap.size]? = some (.cells #[ptrB bx, ptrB w1.heap.size, .pointer none] 100) := block_set_ne (k5.at (block_alloc (block_new w2 _)) (fun e => by have := hdlt _ e; omega)) (by omega) _
   have K6 : Kp (fun k => k = bW \/ vd.ownBlock = some k) w2 (w5.setCell ⟨bW, 0, none⟩ (.slice a5 (rs.length + 1) cap5)) := ((((Kp.refl _ w2).alloc (.cells #[ptrB bx, ptrB w1.heap.size, .pointer none] 100)).alloc (.cells #[ptrB w2.heap.size] 64)).trans k5 (fun _ _ e => .inr e)).put (.inl rfl) _
   have D6 := (Kp.set1 w5 bW 0 (.slice a5 (rs.length + 1) cap5)).row HA5.out.new (fun g hg e => row_ne b5 HA5.out.new hg (by decide) e)
   have hcl := made_close h hb1 hb2 hX hY (newDk_ok hq) ⟨Nat.zero_le _, Int.le_refl _, Int.natCast_nonneg _⟩ K6 hbk ((block_set (j := 0) b5 _).trans rfl) D6 (fun g hg => (HA5.out.fresh g hg).imp id (fun h => by simp at h; omega))
   refine ⟨rfl, ?_, _, _, _, hcl, fun k hk => if_pos hk, .inr ⟨by simp, _, rfl, rfl, rfl, rfl⟩⟩
   refine (((Kp.of_below (S := fun k => own k = 1) hb1).trans (T := fun _ => False) (Kp.of_below hb2) (fun _ _ f => f.elim))).trans K6 (fun k _ e => ?_)
   rcases e with rfl | e
   . exact h.cW
   . exact h.cd k e
structure Left (w : World) (own : Nat -> Nat) (bW M : Nat) (rs : List DR) (ts : List TX) (nxt : Nat) (zz : PX) (w' : World) (own' : Nat -> Nat) (rs' : List DR) (ts' : List TX) (nxt' : Nat) (vd' vt' vm' : Value) (zz' : PX) : Prop where
 inv : Inv w' own' bW M rs' ts' nxt' vd' vt' vm' zz'
 old : ∀ k, k < w.heap.size -> own' k = own k
 len : rs.length <= rs'.length /\ rs'.length <= rs.length + 1
 sync : ∀ r ∈ rs', r.dx = r.dy
 tlen : ts'.length <= ts.length + 4
 plen : zz'.ps.length <= zz.ps.length + 4
 nx : nxt' <= nxt + 1
def StepM (w : World) (own : Nat -> Nat) (bW M : Nat) (rs : List DR) (ts : List TX) (nxt : Nat) (zz : PX) (w' : World) : Prop :=
 Kp (fun k => own k ≠ 0) w w' /\ ∃ own' rs' ts' nxt' vd' vt' vm' zz', Left w own bW M rs ts nxt zz w' own' rs' ts' nxt' vd' vt' vm' zz'
abbrev Step (w : World) (own : Nat -> Nat) (bW N : Nat) (rs : List DR) (ts : List TX) (nxt : Nat) (zz : PX) (w' : World) : Prop := StepM w own bW (N + 1) rs ts nxt zz w'
theorem StepM.more {w w' : World} {own : Nat -> Nat} {bW M M' : Nat} {rs : List DR} {ts : List TX} {nxt : Nat} {zz : PX} (h : StepM w own bW M rs ts nxt zz w') (hM : M <= M') : StepM w own bW M' rs ts nxt zz w' := by
 obtain ⟨kp, own', rs', ts', nxt', vd', vt', vm', zz', L⟩ := h
 exact ⟨kp, own', rs', ts', nxt', vd', vt', vm', zz', L.inv.more hM, L.old, L.len, L.sync, L.tlen, L.plen, L.nx⟩
theorem fits_next {w : World} {own : Nat -> Nat} {N i : Nat} {r : DR} (h : PlainAt w own N i r) (hxy : r.dx = r.dy) {d' : Dk} (ht : d'.turn = r.dy.turn) (hl : d'.files.length <= N + 1) : Fits d' (N + 1) := by
 have h1 := h.fx.2
 rw [hxy] at h1
 exact ⟨hl, by rw [ht]; exact h1.1, by rw [ht]; omega⟩
theorem step_quiet {w w' : World} {own : Nat -> Nat} {bW N : Nat} {rs : List DR} {ts : List TX} {nxt : Nat} {vd vt vm : Value} {zz : PX} (h : Inv w own bW N rs ts nxt vd vt vm zz) (hs : ∀ r ∈ rs, r.dx = r.dy) (kb : Below w.heap.size w w') : Step w own bW N rs ts nxt zz w' :=
 ⟨Kp.of_below kb, _, _, _, _, _, _, _, _, (h.quiet (Kp.of_below kb)).more (Nat.le_succ _), fun _ hk => recolor_old hk, ⟨Nat.le_refl _, Nat.le_succ _⟩, hs, by omega, by omega, by omega⟩
theorem xy_close {w w0 w1 w2 : World} {own : Nat -> Nat} {bW N : Nat} {rs : List DR} {ts : List TX} {nxt : Nat} {vd vt vm : Value} {zz : PX} (h : Inv w own bW N rs ts nxt vd vt vm zz) (hs : ∀ r ∈ rs, r.dx = r.dy) (k0 : Below w.heap.size w w0) (i : Nat) (hi : i < rs.length) (hkn : rs[i].kn = none)
   (k1 : Kp (fun k => recolor own w 0 k = 4 + 3 * i) w0 w1) {d' : Dk} (hX : XAt w1 (Nw (fun k => recolor own w 0 k = 4 + 3 * i) w0) rs[i].bx d') (k2 : Kp (fun k => recolor (recolor own w 0) w0 (4 + 3 * i) k = 5 + 3 * i) w1 w2)
   (hY : RefAt w2 (Nw (fun k => recolor (recolor own w 0) w0 (4 + 3 * i) k = 5 + 3 * i) w1) rs[i].bY d') (hok : d'.Ok) (hl : Fits d' (N + 1)) : Step w own bW N rs ts nxt zz w2 := by
 have s0 := k0.size
 have s1 := k1.size
 have h0 := h.quiet (Kp.of_below k0)
 have h1 := h0.stepX i hi hkn k1 d' hX hok hl (Nat.le_succ _)
 have hi1 : i < (rs.set i { rs[i] with dx := d' }).length := by simpa using hi
 have e1 : (rs.set i { rs[i] with dx := d' })[i] = { rs[i] with dx := d' } := List.getElem_set_self _
 have h2 := h1.stepY i hi1 (by rw [e1]; exact hkn) k2 d' (by rw [e1]; exact hY) hok hl.1 (Nat.le_refl _)
 rw [e1, List.set_set] at h2
 refine ⟨?_, _, _, _, _, _, _, _, _, h2, fun k hk => ?_, ?_, ?_, by omega, by omega, by omega⟩
 . refine ((Kp.of_below (S := fun k => own k ≠ 0) k0).trans k1 (fun k hk e => ?_)).trans k2 (fun k hk e => ?_)
   . rw [recolor_old hk] at e; omega
   . rw [recolor_old (by omega), recolor_old hk] at e; omega
 . rw [recolor_old (by omega), recolor_old (by omega), recolor_old hk]
 . simp
 . intro r hr
   rcases List.mem_or_eq_of_mem_set hr with hr | rfl
   . exact hs r hr
   . rfl
theorem plain_write {w : World} {own : Nat -> Nat} {bW N : Nat} {rs : List DR} {ts : List TX} {nxt : Nat} {vd vt vm : Value} {zz : PX} (h : Inv w own bW N rs ts nxt vd vt vm zz) (i : Nat) (hi : i < rs.length) (hkn : rs[i].kn = none) (hsy : ∀ r ∈ rs, r.dx = r.dy) (hN : N <= 4194300)
   (S T : List UInt8) (hS : S.length <= 1099511627776) (hT : T.length <= 1099511627776) (D A B ops L old : Value) :
   Calls Tryz.prog 24 #[ptrB bW, ptrB rs[i].bk, .agg #[.int .i64 2, D, A, B, .string ⟨S.toArray⟩, .string ⟨T.toArray⟩, ops, L, old]] w fun e w' => e = .returned (.bool true) /\ Step w own bW N rs ts nxt zz w' := by
 have hxy := hsy _ (List.getElem_mem hi)
 have h0 := h.quiet ((Kp.refl (fun k => own k = 0) w).alloc (Obj.cells #[.int .i64 2, D, A, B, .string ⟨S.toArray⟩, .string ⟨T.toArray⟩, ops, L, old] 67))
 have hOb := block_new w (Obj.cells #[.int .i64 2, D, A, B, .string ⟨S.toArray⟩, .string ⟨T.toArray⟩, ops, L, old] 67)
 have hbw : Below w.heap.size w (w.alloc (Obj.cells #[.int .i64 2, D, A, B, .string ⟨S.toArray⟩, .string ⟨T.toArray⟩, ops, L, old] 67)) := (Below.refl _ _).alloc (Nat.le_refl _) _
 obtain ⟨own0, ho0⟩ : ∃ own0, own0 = recolor own w 0 := ⟨_, rfl⟩
 rw [<- ho0] at h0
 have hO0 : own0 w.heap.size = 0 := by rw [ho0]; exact recolor_new (Nat.le_refl _)
 unfold ptrB at *
 go_enter Tryz.func24, Tryz.ntmps24
 go_wp2
 generalize hw0 : w.alloc (Obj.cells #[.int .i64 2, D, A, B, .string ⟨S.toArray⟩, .string ⟨T.toArray⟩, ops, L, old] 67) = w0 at *
 have HW : Hid (w.alloc (Obj.cells #[.int .i64 2, D, A, B, .string ⟨S.toArray⟩, .string ⟨T.toArray⟩, ops, L, old] 67) = w0) := hw0
 clear hw0
 have d0 := (h0.disk i hi).1 hkn
 obtain ⟨k0, k1, k2, kz0, kz1, kz2⟩ := cells3 d0.blk
 obtain ⟨o0, o2, o4, o5, o7⟩ := cells9 hOb
 unfold ptrB at *
 have HD : Hid (PlainAt w0 own0 N i rs[i]) := d0
 have HI : Hid (Inv w0 own0 bW N rs ts nxt vd vt vm zz) := h0
 have HH : Hid (Inv w own bW N rs ts nxt vd vt vm zz) := h
 clear d0 h0 h
 have hxw := xWrite_any rs[i].bx rs[i].dx S T (fun k => own0 k = 4 + 3 * i) w0.drew (HD.out.x.drew) HD.out.okx (Nat.le_trans HD.out.lx (by omega)) hS hT
 go_still_tail 8, mixedT
 go_wp2_with (go_at_call 45; refine hxw.mono ?_; rintro e w1 ⟨rfl, hX1, kp1⟩)
 have kp1 := kp1.undrew
 have hy1 := HD.out.y.recolor kp1 (by omega)
 have hdb := kp1.at HD.out.blk (fun e => by have := HD.out.ck; omega)
 have hob := kp1.at hOb (fun e => by omega)
 unfold ptrB at hdb
 obtain ⟨j0, j1, j2, jz0, jz1, jz2⟩ := cells3 hdb
 obtain ⟨p0, p2, p4, p5, p7⟩ := cells9 hob
 have hyw := yWrite_any rs[i].bY rs[i].dy S T (fun k => recolor own0 w0 (4 + 3 * i) k = 5 + 3 * i) w1.drew hy1 HD.out.oky (Nat.le_trans HD.out.ly (by omega)) hS hT
 clear hxw
 go_still_tail 8, mixedT
 go_wp2_with (first
   | (go_at_call 46; refine hyw.mono ?_; rintro e w2 ⟨rfl, hY2, kp2⟩)
   | (go_at_call 44; refine (num_eq _ _).mono ?_; rintro e w9 ⟨rfl, rfl⟩))
 go_ret
 have hwo := write_ok HD.out.oky S T
 subst ho0
 rw [hxy] at hX1
 refine ⟨by first | rfl | simp [hxy] | exact ret_bool (by rw [hxy]; simp), xy_close HH.out hsy hbw i hi hkn kp1 hX1 kp2.undrew hY2 hwo.1 (fits_next HD.out hxy (liv_write HD.out.oky S T).turn (Nat.le_trans hwo.2 (by have := HD.out.ly; omega)))⟩
theorem plain_sync {w : World} {own : Nat -> Nat} {bW N : Nat} {rs : List DR} {ts : List TX} {nxt : Nat} {vd vt vm : Value} {zz : PX} (h : Inv w own bW N rs ts nxt vd vt vm zz) (i : Nat) (hi : i < rs.length) (hkn : rs[i].kn = none) (hsy : ∀ r ∈ rs, r.dx = r.dy) (hN : N <= 4194300)
   (S T : List UInt8) (hS : S.length <= 1099511627776) (D A B ops L old : Value) :
   Calls Tryz.prog 24 #[ptrB bW, ptrB rs[i].bk, .agg #[.int .i64 3, D, A, B, .string ⟨S.toArray⟩, .string ⟨T.toArray⟩, ops, L, old]] w fun e w' => e = .returned (.bool true) /\ Step w own bW N rs ts nxt zz w' := by
 have hxy := hsy _ (List.getElem_mem hi)
 have h0 := h.quiet ((Kp.refl (fun k => own k = 0) w).alloc (Obj.cells #[.int .i64 3, D, A, B, .string ⟨S.toArray⟩, .string ⟨T.toArray⟩, ops, L, old] 67))
 have hOb := block_new w (Obj.cells #[.int .i64 3, D, A, B, .string ⟨S.toArray⟩, .string ⟨T.toArray⟩, ops, L, old] 67)
 have hbw : Below w.heap.size w (w.alloc (Obj.cells #[.int .i64 3, D, A, B, .string ⟨S.toArray⟩, .string ⟨T.toArray⟩, ops, L, old] 67)) := (Below.refl _ _).alloc (Nat.le_refl _) _
 obtain ⟨own0, ho0⟩ : ∃ own0, own0 = recolor own w 0 := ⟨_, rfl⟩
 rw [<- ho0] at h0
 have hO0 : own0 w.heap.size = 0 := by rw [ho0]; exact recolor_new (Nat.le_refl _)
 unfold ptrB at *
 go_enter Tryz.func24, Tryz.ntmps24
 go_wp2
 generalize hw0 : w.alloc (Obj.cells #[.int .i64 3, D, A, B, .string ⟨S.toArray⟩, .string ⟨T.toArray⟩, ops, L, old] 67) = w0 at *
 have HW : Hid (w.alloc (Obj.cells #[.int .i64 3, D, A, B, .string ⟨S.toArray⟩, .string ⟨T.toArray⟩, ops, L, old] 67) = w0) := hw0
 clear hw0
 have d0 := (h0.disk i hi).1 hkn
 obtain ⟨k0, k1, k2, kz0, kz1, kz2⟩ := cells3 d0.blk
 obtain ⟨o0, o2, o4, o5, o7⟩ := cells9 hOb
 unfold ptrB at *
 have HD : Hid (PlainAt w0 own0 N i rs[i]) := d0
 have HI : Hid (Inv w0 own0 bW N rs ts nxt vd vt vm zz) := h0
 have HH : Hid (Inv w own bW N rs ts nxt vd vt vm zz) := h
 clear d0 h0 h
 have hxw := xSync_any rs[i].bx rs[i].dx S (fun k => own0 k = 4 + 3 * i) w0.drew (HD.out.x.drew) HD.out.okx (Nat.le_trans hS (by decide))
 go_still_tail 6, mixedT
 go_wp2_with (go_at_call 47; refine hxw.mono ?_; rintro e w1 ⟨rfl, hX1, kp1⟩)
 have kp1 := kp1.undrew
 have hy1 := HD.out.y.recolor kp1 (by omega)
 have hdb := kp1.at HD.out.blk (fun e => by have := HD.out.ck; omega)
 have hob := kp1.at hOb (fun e => by omega)
 unfold ptrB at hdb
 obtain ⟨j0, j1, j2, jz0, jz1, jz2⟩ := cells3 hdb
 obtain ⟨p0, p2, p4, p5, p7⟩ := cells9 hob
 have hyw := ySync_any rs[i].bY rs[i].dy S (fun k => recolor own0 w0 (4 + 3 * i) k = 5 + 3 * i) w1.drew hy1 HD.out.oky (Nat.le_trans HD.out.ly (by omega))
 clear hxw
 go_still_tail 6, mixedT
 go_wp2_with (first
   | (go_at_call 48; refine hyw.mono ?_; rintro e w2 ⟨rfl, hY2, kp2⟩)
   | (go_at_call 44; refine (num_eq _ _).mono ?_; rintro e w9 ⟨rfl, rfl⟩))
 go_ret
 have hwo := sync_ok HD.out.oky S
 subst ho0
 rw [hxy] at hX1
 refine ⟨by first | rfl | simp [hxy] | exact ret_bool (by rw [hxy]; simp), xy_close HH.out hsy hbw i hi hkn kp1 hX1 kp2.undrew hY2 hwo.1 (fits_next HD.out hxy (liv_sync HD.out.oky S).turn (Nat.le_trans hwo.2 (by have := HD.out.ly; omega)))⟩
theorem plain_rename {w : World} {own : Nat -> Nat} {bW N : Nat} {rs : List DR} {ts : List TX} {nxt : Nat} {vd vt vm : Value} {zz : PX} (h : Inv w own bW N rs ts nxt vd vt vm zz) (i : Nat) (hi : i < rs.length) (hkn : rs[i].kn = none) (hsy : ∀ r ∈ rs, r.dx = r.dy) (hN : N <= 4194300)
   (S T : List UInt8) (hS : S.length <= 1099511627776) (hT : T.length <= 1099511627776) (D A B ops L old : Value) :
   Calls Tryz.prog 24 #[ptrB bW, ptrB rs[i].bk, .agg #[.int .i64 4, D, A, B, .string ⟨S.toArray⟩, .string ⟨T.toArray⟩, ops, L, old]] w fun e w' => e = .returned (.bool true) /\ Step w own bW N rs ts nxt zz w' := by
 have hxy := hsy _ (List.getElem_mem hi)
 have h0 := h.quiet ((Kp.refl (fun k => own k = 0) w).alloc (Obj.cells #[.int .i64 4, D, A, B, .string ⟨S.toArray⟩, .string ⟨T.toArray⟩, ops, L, old] 67))
 have hOb := block_new w (Obj.cells #[.int .i64 4, D, A, B, .string ⟨S.toArray⟩, .string ⟨T.toArray⟩, ops, L, old] 67)
 have hbw : Below w.heap.size w (w.alloc (Obj.cells #[.int .i64 4, D, A, B, .string ⟨S.toArray⟩, .string ⟨T.toArray⟩, ops, L, old] 67)) := (Below.refl _ _).alloc (Nat.le_refl _) _
 obtain ⟨own0, ho0⟩ : ∃ own0, own0 = recolor own w 0 := ⟨_, rfl⟩
 rw [<- ho0] at h0
 have hO0 : own0 w.heap.size = 0 := by rw [ho0]; exact recolor_new (Nat.le_refl _)
 unfold ptrB at *
 go_enter Tryz.func24, Tryz.ntmps24
 go_wp2
 generalize hw0 : w.alloc (Obj.cells #[.int .i64 4, D, A, B, .string ⟨S.toArray⟩, .string ⟨T.toArray⟩, ops, L, old] 67) = w0 at *
 have HW : Hid (w.alloc (Obj.cells #[.int .i64 4, D, A, B, .string ⟨S.toArray⟩, .string ⟨T.toArray⟩, ops, L, old] 67) = w0) := hw0
 clear hw0
 have d0 := (h0.disk i hi).1 hkn
 obtain ⟨k0, k1, k2, kz0, kz1, kz2⟩ := cells3 d0.blk
 obtain ⟨o0, o2, o4, o5, o7⟩ := cells9 hOb
 unfold ptrB at *
 have HD : Hid (PlainAt w0 own0 N i rs[i]) := d0
 have HI : Hid (Inv w0 own0 bW N rs ts nxt vd vt vm zz) := h0
 have HH : Hid (Inv w own bW N rs ts nxt vd vt vm zz) := h
 clear d0 h0 h
 have hxw := xRename_any rs[i].bx rs[i].dx S T (fun k => own0 k = 4 + 3 * i) w0.drew (HD.out.x.drew) HD.out.okx (Nat.le_trans HD.out.lx (by omega)) hS hT
 go_still_tail 8, mixedT
 go_wp2_with (go_at_call 49; refine hxw.mono ?_; rintro e w1 ⟨rfl, hX1, kp1⟩)
 have kp1 := kp1.undrew
 have hy1 := HD.out.y.recolor kp1 (by omega)
 have hdb := kp1.at HD.out.blk (fun e => by have := HD.out.ck; omega)
 have hob := kp1.at hOb (fun e => by omega)
 unfold ptrB at hdb
 obtain ⟨j0, j1, j2, jz0, jz1, jz2⟩ := cells3 hdb
 obtain ⟨p0, p2, p4, p5, p7⟩ := cells9 hob
 have hyw := yRename_any rs[i].bY rs[i].dy S T (fun k => recolor own0 w0 (4 + 3 * i) k = 5 + 3 * i) w1.drew hy1 HD.out.oky (Nat.le_trans HD.out.ly (by omega)) hT
 clear hxw
 go_still_tail 8, mixedT
 go_wp2_with (first
   | (go_at_call 50; refine hyw.mono ?_; rintro e w2 ⟨rfl, hY2, kp2⟩)
   | (go_at_call 44; refine (num_eq _ _).mono ?_; rintro e w9 ⟨rfl, rfl⟩))
 go_ret
 have hwo := rename_ok HD.out.oky S T
 subst ho0
 rw [hxy] at hX1
 refine ⟨by first | rfl | simp [hxy] | exact ret_bool (by rw [hxy]; simp), xy_close HH.out hsy hbw i hi hkn kp1 hX1 kp2.undrew hY2 hwo.1 (fits_next HD.out hxy (liv_rename HD.out.oky S T).turn (Nat.le_trans hwo.2 (by have := HD.out.ly; omega)))⟩
theorem plain_remove {w : World} {own : Nat -> Nat} {bW N : Nat} {rs : List DR} {ts : List TX} {nxt : Nat} {vd vt vm : Value} {zz : PX} (h : Inv w own bW N rs ts nxt vd vt vm zz) (i : Nat) (hi : i < rs.length) (hkn : rs[i].kn = none) (hsy : ∀ r ∈ rs, r.dx = r.dy) (hN : N <= 4194300)
   (S T : List UInt8) (hS : S.length <= 1099511627776) (D A B ops L old : Value) :
   Calls Tryz.prog 24 #[ptrB bW, ptrB rs[i].bk, .agg #[.int .i64 5, D, A, B, .string ⟨S.toArray⟩, .string ⟨T.toArray⟩, ops, L, old]] w fun e w' => e = .returned (.bool true) /\ Step w own bW N rs ts nxt zz w' := by
 have hxy := hsy _ (List.getElem_mem hi)
 have h0 := h.quiet ((Kp.refl (fun k => own k = 0) w).alloc (Obj.cells #[.int .i64 5, D, A, B, .string ⟨S.toArray⟩, .string ⟨T.toArray⟩, ops, L, old] 67))
 have hOb := block_new w (Obj.cells #[.int .i64 5, D, A, B, .string ⟨S.toArray⟩, .string ⟨T.toArray⟩, ops, L, old] 67)
 have hbw : Below w.heap.size w (w.alloc (Obj.cells #[.int .i64 5, D, A, B, .string ⟨S.toArray⟩, .string ⟨T.toArray⟩, ops, L, old] 67)) := (Below.refl _ _).alloc (Nat.le_refl _) _
 obtain ⟨own0, ho0⟩ : ∃ own0, own0 = recolor own w 0 := ⟨_, rfl⟩
 rw [<- ho0] at h0
 have hO0 : own0 w.heap.size = 0 := by rw [ho0]; exact recolor_new (Nat.le_refl _)
 unfold ptrB at *
 go_enter Tryz.func24, Tryz.ntmps24
 go_wp2
 generalize hw0 : w.alloc (Obj.cells #[.int .i64 5, D, A, B, .string ⟨S.toArray⟩, .string ⟨T.toArray⟩, ops, L, old] 67) = w0 at *
 have HW : Hid (w.alloc (Obj.cells #[.int .i64 5, D, A, B, .string ⟨S.toArray⟩, .string ⟨T.toArray⟩, ops, L, old] 67) = w0) := hw0
 clear hw0
 have d0 := (h0.disk i hi).1 hkn
 obtain ⟨k0, k1, k2, kz0, kz1, kz2⟩ := cells3 d0.blk
 obtain ⟨o0, o2, o4, o5, o7⟩ := cells9 hOb
 unfold ptrB at *
 have HD : Hid (PlainAt w0 own0 N i rs[i]) := d0
 have HI : Hid (Inv w0 own0 bW N rs ts nxt vd vt vm zz) := h0
 have HH : Hid (Inv w own bW N rs ts nxt vd vt vm zz) := h
 clear d0 h0 h
 have hxw := xRemove_any rs[i].bx rs[i].dx S (fun k => own0 k = 4 + 3 * i) w0.drew (HD.out.x.drew) HD.out.okx (Nat.le_trans hS (by decide))
 go_still_tail 6, mixedT
 go_wp2_with (go_at_call 51; refine hxw.mono ?_; rintro e w1 ⟨rfl, hX1, kp1⟩)
 have kp1 := kp1.undrew
 have hy1 := HD.out.y.recolor kp1 (by omega)
 have hdb := kp1.at HD.out.blk (fun e => by have := HD.out.ck; omega)
 have hob := kp1.at hOb (fun e => by omega)
 unfold ptrB at hdb
 obtain ⟨j0, j1, j2, jz0, jz1, jz2⟩ := cells3 hdb
 obtain ⟨p0, p2, p4, p5, p7⟩ := cells9 hob
 have hyw := yRemove_any rs[i].bY rs[i].dy S (fun k => recolor own0 w0 (4 + 3 * i) k = 5 + 3 * i) w1.drew hy1 HD.out.oky (Nat.le_trans HD.out.ly (by omega))
 clear hxw
 go_still_tail 6, mixedT
 go_wp2_with (first
   | (go_at_call 52; refine hyw.mono ?_; rintro e w2 ⟨rfl, hY2, kp2⟩)
   | (go_at_call 44; refine (num_eq _ _).mono ?_; rintro e w9 ⟨rfl, rfl⟩))
 go_ret
 have hwo := remove_ok HD.out.oky S
 subst ho0
 rw [hxy] at hX1
 refine ⟨by first | rfl | simp [hxy] | exact ret_bool (by rw [hxy]; simp), xy_close HH.out hsy hbw i hi hkn kp1 hX1 kp2.undrew hY2 hwo.1 (fits_next HD.out hxy (liv_remove HD.out.oky S).turn (Nat.le_trans hwo.2 (by have := HD.out.ly; omega)))⟩
end Go.Proofs.YtfghgmojnffgnaaGreat.M
namespace Go.Proofs.YtfghgmojnffgnaaGreat.M
open Go.RowKit Go.Maps Go.Sort
attribute [local go_sem ↓] Go.wp_at_zero Go.wp_at_succ
theorem plain_read {w : World} {own : Nat -> Nat} {bW N : Nat} {rs : List DR} {ts : List TX} {nxt : Nat} {vd vt vm : Value} {zz : PX} (h : Inv w own bW N rs ts nxt vd vt vm zz) (i : Nat) (hi : i < rs.length) (hkn : rs[i].kn = none) (hsy : ∀ r ∈ rs, r.dx = r.dy) (hN : N <= 4194300)
   (S T : List UInt8) (hS : S.length <= 1099511627776) (D A B ops L old : Value) :
   Calls Tryz.prog 24 #[ptrB bW, ptrB rs[i].bk, .agg #[.int .i64 6, D, A, B, .string ⟨S.toArray⟩, .string ⟨T.toArray⟩, ops, L, old]] w fun e w' => e = .returned (.bool true) /\ Step w own bW N rs ts nxt zz w' := by
 have hxy := hsy _ (List.getElem_mem hi)
 have h0 := h.quiet ((Kp.refl (fun k => own k = 0) w).alloc (Obj.cells #[.int .i64 6, D, A, B, .string ⟨S.toArray⟩, .string ⟨T.toArray⟩, ops, L, old] 67))
 have hOb := block_new w (Obj.cells #[.int .i64 6, D, A, B, .string ⟨S.toArray⟩, .string ⟨T.toArray⟩, ops, L, old] 67)
 have hbw : Below w.heap.size w (w.alloc (Obj.cells #[.int .i64 6, D, A, B, .string ⟨S.toArray⟩, .string ⟨T.toArray⟩, ops, L, old] 67)) := (Below.refl _ _).alloc (Nat.le_refl _) _
 obtain ⟨own0, ho0⟩ : ∃ own0, own0 = recolor own w 0 := ⟨_, rfl⟩
 rw [<- ho0] at h0
 have hO0 : own0 w.heap.size = 0 := by rw [ho0]; exact recolor_new (Nat.le_refl _)
 unfold ptrB at *
 go_enter Tryz.func24, Tryz.ntmps24
 go_wp2
 generalize hw0 : w.alloc (Obj.cells #[.int .i64 6, D, A, B, .string ⟨S.toArray⟩, .string ⟨T.toArray⟩, ops, L, old] 67) = w0 at *
 have HW : Hid (w.alloc (Obj.cells #[.int .i64 6, D, A, B, .string ⟨S.toArray⟩, .string ⟨T.toArray⟩, ops, L, old] 67) = w0) := hw0
 clear hw0
 have d0 := (h0.disk i hi).1 hkn
 obtain ⟨k0, k1, k2, kz0, kz1, kz2⟩ := cells3 d0.blk
 obtain ⟨o0, o2, o4, o5, o7⟩ := cells9 hOb
 unfold ptrB at *
 have HD : Hid (PlainAt w0 own0 N i rs[i]) := d0
 have HI : Hid (Inv w0 own0 bW N rs ts nxt vd vt vm zz) := h0
 have HH : Hid (Inv w own bW N rs ts nxt vd vt vm zz) := h
 clear d0 h0 h
 have hxw : ∀ w', Sm w0 w' -> _ := fun w' e => (xRead_any rs[i].bx rs[i].dx S (fun k => own0 k = 4 + 3 * i) w' (HD.out.x.sm e) (Nat.le_trans hS (by decide)))
 have hyw : ∀ w', Sm w0 w' -> _ := fun w' e => (yRead_any rs[i].bY rs[i].dy S (fun k => own0 k = 5 + 3 * i) w' (HD.out.y.sm e) (Nat.le_trans HD.out.ly (by omega)))
 go_region_held3 (fun w' => w'.cell? ⟨rs[i].bk, 0, none⟩ = some (.pointer (some ⟨rs[i].bx, 0, none⟩)) /\ w'.cell? ⟨w.heap.size, 4, none⟩ = some (.string ⟨S.toArray⟩) /\ Sm w0 w') (go_keep)
   (first | (go_at_call 53; refine (hxw _ ?_).mono ?_; (simp [*]); rintro e w' ⟨rfl, rfl⟩))
 go_wp2
 go_region_held3 (fun w' => w'.cell? ⟨rs[i].bk, 1, none⟩ = some (.pointer (some ⟨rs[i].bY, 0, none⟩)) /\ w'.cell? ⟨w.heap.size, 4, none⟩ = some (.string ⟨S.toArray⟩) /\ Sm w0 w') (go_keep)
   (first | (go_at_call 54; refine (hyw _ ?_).mono ?_; (simp [*]); rintro e w' ⟨rfl, rfl⟩))
 go_wp2_with (go_at_call 44; refine (num_eq _ _).mono ?_; rintro e w9 ⟨rfl, rfl⟩)
 go_ret
 exact ⟨by first | rfl | simp | exact ret_bool (by simp), step_quiet HH.out hsy hbw.drew.drew⟩
theorem plain_safe {w : World} {own : Nat -> Nat} {bW N : Nat} {rs : List DR} {ts : List TX} {nxt : Nat} {vd vt vm : Value} {zz : PX} (h : Inv w own bW N rs ts nxt vd vt vm zz) (i : Nat) (hi : i < rs.length) (hkn : rs[i].kn = none) (hsy : ∀ r ∈ rs, r.dx = r.dy) (hN : N <= 4194300)
   (S T : List UInt8) (hS : S.length <= 1099511627776) (D A B ops L old : Value) :
   Calls Tryz.prog 24 #[ptrB bW, ptrB rs[i].bk, .agg #[.int .i64 7, D, A, B, .string ⟨S.toArray⟩, .string ⟨T.toArray⟩, ops, L, old]] w fun e w' => e = .returned (.bool true) /\ Step w own bW N rs ts nxt zz w' := by
 have hxy := hsy _ (List.getElem_mem hi)
 have h0 := h.quiet ((Kp.refl (fun k => own k = 0) w).alloc (Obj.cells #[.int .i64 7, D, A, B, .string ⟨S.toArray⟩, .string ⟨T.toArray⟩, ops, L, old] 67))
 have hOb := block_new w (Obj.cells #[.int .i64 7, D, A, B, .string ⟨S.toArray⟩, .string ⟨T.toArray⟩, ops, L, old] 67)
 have hbw : Below w.heap.size w (w.alloc (Obj.cells #[.int .i64 7, D, A, B, .string ⟨S.toArray⟩, .string ⟨T.toArray⟩, ops, L, old] 67)) := (Below.refl _ _).alloc (Nat.le_refl _) _
 obtain ⟨own0, ho0⟩ : ∃ own0, own0 = recolor own w 0 := ⟨_, rfl⟩
 rw [<- ho0] at h0
 have hO0 : own0 w.heap.size = 0 := by rw [ho0]; exact recolor_new (Nat.le_refl _)
 unfold ptrB at *
 go_enter Tryz.func24, Tryz.ntmps24
 go_wp2
 generalize hw0 : w.alloc (Obj.cells #[.int .i64 7, D, A, B, .string ⟨S.toArray⟩, .string ⟨T.toArray⟩, ops, L, old] 67) = w0 at *
 have HW : Hid (w.alloc (Obj.cells #[.int .i64 7, D, A, B, .string ⟨S.toArray⟩, .string ⟨T.toArray⟩, ops, L, old] 67) = w0) := hw0
 clear hw0
 have d0 := (h0.disk i hi).1 hkn
 obtain ⟨k0, k1, k2, kz0, kz1, kz2⟩ := cells3 d0.blk
 obtain ⟨o0, o2, o4, o5, o7⟩ := cells9 hOb
 unfold ptrB at *
 have HD : Hid (PlainAt w0 own0 N i rs[i]) := d0
 have HI : Hid (Inv w0 own0 bW N rs ts nxt vd vt vm zz) := h0
 have HH : Hid (Inv w own bW N rs ts nxt vd vt vm zz) := h
 clear d0 h0 h
 have hxw : ∀ w', Sm w0 w' -> _ := fun w' e => (xSafe_any rs[i].bx rs[i].dx S (fun k => own0 k = 4 + 3 * i) w' (HD.out.x.sm e) (Nat.le_trans hS (by decide)))
 have hyw : ∀ w', Sm w0 w' -> _ := fun w' e => (ySafe_any rs[i].bY rs[i].dy S (fun k => own0 k = 5 + 3 * i) w' (HD.out.y.sm e) (Nat.le_trans HD.out.ly (by omega)))
 go_region_held3 (fun w' => w'.cell? ⟨rs[i].bk, 0, none⟩ = some (.pointer (some ⟨rs[i].bx, 0, none⟩)) /\ w'.cell? ⟨w.heap.size, 4, none⟩ = some (.string ⟨S.toArray⟩) /\ Sm w0 w') (go_keep)
   (first | (go_at_call 55; refine (hxw _ ?_).mono ?_; (simp [*]); rintro e w' ⟨rfl, rfl⟩))
 go_wp2
 go_region_held3 (fun w' => w'.cell? ⟨rs[i].bk, 1, none⟩ = some (.pointer (some ⟨rs[i].bY, 0, none⟩)) /\ w'.cell? ⟨w.heap.size, 4, none⟩ = some (.string ⟨S.toArray⟩) /\ Sm w0 w') (go_keep)
   (first | (go_at_call 56; refine (hyw _ ?_).mono ?_; (simp [*]); rintro e w' ⟨rfl, rfl⟩))
 go_wp2_with (go_at_call 44; refine (num_eq _ _).mono ?_; rintro e w9 ⟨rfl, rfl⟩)
 go_ret
 exact ⟨by first | rfl | simp | exact ret_bool (by simp), step_quiet HH.out hsy hbw.drew.drew⟩
end Go.Proofs.YtfghgmojnffgnaaGreat.M
