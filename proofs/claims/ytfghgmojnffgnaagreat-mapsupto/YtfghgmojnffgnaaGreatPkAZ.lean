import Derived.Test.YtfghgmojnffgnaaGreatPkAW
import Derived.Test.YtfghgmojnffgnaaGreatPkAF
import Derived.StillTailTactics
import Derived.Test.YtfghgmojnffgnaaGreatPkAH
import Derived.Deep.RegionHeld3
import Derived.Deep.DrawnRows
import Derived.Test.YtfghgmojnffgnaaGreatPkAY
set_option maxHeartbeats 4000000
set_option maxRecDepth 20000
namespace Go.Proofs.YtfghgmojnffgnaaGreat
open Go.RowKit Go.Maps Go.Sort
theorem Tryz.info64 : (Tryz.prog.info? 64).map (fun i => (i.zero, i.size, i.bytes)) = some (some (.pointer none), 1, 8) := by kernel_rfl
def ownM (own : Nat -> Nat) (w w1 w2 : World) (i : Nat) (vd' : Value) (k : Nat) : Nat :=
 if k < w.heap.size then own k else if k < w1.heap.size then 4 + 3 * i else if k < w2.heap.size then 5 + 3 * i else if k = w2.heap.size then 3 + 3 * i else if vd'.ownBlock = some k then 1 else 0
theorem one_at' (w : World) (u : Value) (t : TypeId) (n : Nat) (hn : n = w.heap.size) : ∀ i x, [u][i]? = some x -> (w.alloc (.cells #[u] t)).cell? ((⟨n, 0, none⟩ : Addr).add i) = some x := by
 subst hn; exact one_at w u t
theorem num_eq (a : Int) (w : World) : Calls Tryz.prog 44 #[.int .i64 a] w fun e w' => e = .returned (.int .i64 a) /\ w = w' := (num_any a w).mono (fun _ _ ⟨h1, h2⟩ => ⟨h1, h2.symm⟩)
theorem cells9 {w : World} {b : Nat} {a0 a1 a2 a3 a4 a5 a6 a7 a8 : Value} {t : TypeId} (hb : w.heap[b]? = some (.cells #[a0, a1, a2, a3, a4, a5, a6, a7, a8] t)) :
   w.cell? ⟨b, 0, none⟩ = some a0 /\ w.cell? ⟨b, 2, none⟩ = some a2 /\ w.cell? ⟨b, 4, none⟩ = some a4 /\ w.cell? ⟨b, 5, none⟩ = some a5 /\ w.cell? ⟨b, 7, none⟩ = some a7 :=
 ⟨cell_block hb, cell_block hb, cell_block hb, cell_block hb, cell_block hb⟩
theorem mixedT : Tryz.prog.follows .mixedOrders = true := by kernel_rfl
theorem XAt.drew {w : World} {S : Nat -> Prop} {b : Nat} {d : Dk} (h : XAt w S b d) : XAt w.drew S b d := h.kept (T := fun _ => False) ((Kp.refl _ _).drew) (fun _ _ f => f)
end Go.Proofs.YtfghgmojnffgnaaGreat
namespace Go.Proofs.YtfghgmojnffgnaaGreat
open Go.RowKit Go.Maps Go.Sort
attribute [local go_sem ↓] Go.wp_at_zero Go.wp_at_succ
theorem XAt.sm {w w' : World} {S : Nat -> Prop} {b : Nat} {d : Dk} (h : XAt w S b d) (e : Sm w w') : XAt w' S b d := h.kept e.1 (fun _ _ f => f)
theorem RefAt.sm {w w' : World} {S : Nat -> Prop} {b : Nat} {d : Dk} (h : RefAt w S b d) (e : Sm w w') : RefAt w' S b d := h.kept e.1 (fun _ _ f => f)
end Go.Proofs.YtfghgmojnffgnaaGreat
namespace Go.Proofs.YtfghgmojnffgnaaGreat
open Go.RowKit Go.Maps Go.Sort
attribute [local go_sem ↓] Go.wp_at_zero Go.wp_at_succ
theorem Sm.drewN (w : World) (n : Nat) : Sm w (w.drewN n) := ⟨⟨rfl, rfl, rfl, Nat.le_refl _, fun _ _ _ => rfl⟩, rfl⟩
theorem Sm.belowB {w w' : World} {B : Nat} (h : Sm w w') : Below B w w' := ⟨h.1.os, h.1.tape, h.1.output, h.1.size, fun k _ => by
 rcases Nat.lt_or_ge k w.heap.size with hk | hk
 . exact h.1.block k hk (fun f => f)
 . rw [Array.getElem?_eq_none hk, Array.getElem?_eq_none (by rw [h.2]; exact hk)]⟩
theorem OwnS.below {w w' : World} {base : Nat} {v : Value} {l : List (List UInt8)} (h : OwnS w base v l) (hb : Below w.heap.size w w') : OwnS w' base v l := ownsRow_of_block h (fun g hg => hb.block g (World.ownsRow.lt h g hg).2)
theorem OwnS.strp {w : World} {base : Nat} {a : Option Addr} {n cap : Nat} {l : List (List UInt8)} (h : OwnS w base (.slice a n cap) l) : Strp w a l := by
 obtain ⟨a', cap', e, hc⟩ := ownS_shape h
 cases e
 exact fun i hi => let ⟨g, h1, _, h3⟩ := hc i hi; ⟨g, h1, h3⟩
end Go.Proofs.YtfghgmojnffgnaaGreat
namespace Go.Proofs.YtfghgmojnffgnaaGreat
open Go.RowKit Go.Maps Go.Sort
theorem intp_row {w : World} {g cap n : Nat} {ks ms : List Int} (h : w.ownsRow 0 3 1 (.slice (some ⟨g, 0, none⟩) n cap) n ((ks ++ ms).map encI)) : Intp w (some ⟨g, 0, none⟩) ks := by
 intro i hi
 have hi' : i < ((ks ++ ms).map encI).length := by simp; omega
 obtain ⟨a, c, e, _, _, _, hc⟩ := row1 h
 cases e
 obtain ⟨g', e', _, hcc⟩ := hc i hi'
 cases e'
 refine ⟨g, 0, rfl, ?_⟩
 rw [Nat.zero_add, hcc, List.getElem_map, List.getElem_append_left hi]
 rfl
end Go.Proofs.YtfghgmojnffgnaaGreat
namespace Go.Proofs.YtfghgmojnffgnaaGreat.M
open Go.RowKit Go.Maps Go.Sort
structure KR where
 bd : Nat
 d : Dk
 zs : List (Nat × St)
 k : Kno
structure DR where
 bk : Nat
 bx : Nat
 bY : Nat
 dx : Dk
 dy : Dk
 kn : Option KR
structure PX where
 vp : Value
 vq : Value
 ps : List TX
def PairsAt (w : World) (C : Nat -> Prop) (t : TX) : Prop := ∃ a n cap, t.v = .slice a n cap /\ n <= 4194400 /\ ∀ i, i < n -> ∃ g, a = some ⟨g, 0, none⟩ /\ C g /\ w.cell? ⟨g, i * 2, none⟩ = some (encS (textOf t.m)) /\ w.cell? ⟨g, i * 2 + 1, none⟩ = some (encS (textOf t.m))
def Fits (d : Dk) (N : Nat) : Prop := d.files.length <= N /\ 0 <= d.turn /\ d.turn <= N
structure PlainAt (w : World) (own : Nat -> Nat) (N i : Nat) (r : DR) : Prop where
 blk : w.heap[r.bk]? = some (.cells #[ptrB r.bx, ptrB r.bY, .pointer none] 100)
 ck : own r.bk = 3 + 3 * i
 x : XAt w (fun k => own k = 4 + 3 * i) r.bx r.dx
 y : RefAt w (fun k => own k = 5 + 3 * i) r.bY r.dy
 okx : r.dx.Ok
 oky : r.dy.Ok
 fx : Fits r.dx N
 ly : r.dy.files.length <= N
theorem PlainAt.lx {w : World} {own : Nat -> Nat} {N i : Nat} {r : DR} (h : PlainAt w own N i r) : r.dx.files.length <= N := h.fx.1
def Ci (own : Nat -> Nat) (i k : Nat) : Prop := own k = 3 + 3 * i \/ own k = 4 + 3 * i \/ own k = 5 + 3 * i
structure KeptAt (w : World) (own : Nat -> Nat) (N i : Nat) (r : DR) (q : KR) : Prop where
 dka : Dka w (Ci own i) r.bk r.bx q.bd (ptrB r.bY) q.d q.zs q.k
 inv : KInv q.k q.d q.zs
 turn : q.d.turn <= N
 bytes : q.k.bytes <= N
 ops : q.k.ops <= N
 ones : q.k.ones.length <= N
def DiskAt (w : World) (own : Nat -> Nat) (N i : Nat) (r : DR) : Prop := (r.kn = none -> PlainAt w own N i r) /\ ∀ q, r.kn = some q -> KeptAt w own N i r q
structure Inv (w : World) (own : Nat -> Nat) (bW N : Nat) (rs : List DR) (ts : List TX) (nxt : Nat) (vd vt vm : Value) (zz : PX) : Prop where
 blk : w.heap[bW]? = some (.cells #[vd, zz.vp, .slice none 0 0, vt, zz.vq, .slice none 0 0, vm, .int .i64 nxt] 61)
 cW : own bW = 1
 rowd : w.ownsRow 0 64 1 vd rs.length (rs.map fun r => ptrB r.bk)
 rowt : w.ownsRow 0 106 1 vt ts.length (ts.map (·.v))
 rowm : w.ownsRow 0 3 1 vm ts.length (ts.map fun t => .int .i64 t.m)
 rowp : w.ownsRow 0 33 1 zz.vp zz.ps.length (zz.ps.map (·.v))
 rowq : w.ownsRow 0 3 1 zz.vq zz.ps.length (zz.ps.map fun t => .int .i64 t.m)
 cd : ∀ g, vd.ownBlock = some g -> own g = 1
 ct : ∀ g, vt.ownBlock = some g -> own g = 1
 cm : ∀ g, vm.ownBlock = some g -> own g = 1
 cp : ∀ g, zz.vp.ownBlock = some g -> own g = 1
 cq : ∀ g, zz.vq.ownBlock = some g -> own g = 1
 mq : ∀ g, vm.ownBlock = some g -> zz.vq.ownBlock = some g -> False
 text : ∀ t ∈ ts, TextAt w (fun g => own g = 2) t /\ t.m <= nxt
 pair : ∀ t ∈ zz.ps, PairsAt w (fun g => own g = 2) t /\ t.m <= nxt
 disk : ∀ i (h : i < rs.length), DiskAt w own N i rs[i]
theorem PairsAt.kept' {w w' : World} {C C' : Nat -> Prop} {S : Nat -> Prop} {t : TX} (h : PairsAt w C t) (kp : Kp S w w') (hS : ∀ g, g < w.heap.size -> C g -> ¬ S g /\ C' g) : PairsAt w' C' t := by
 obtain ⟨a, n, cap, h1, h2, h3⟩ := h
 refine ⟨a, n, cap, h1, h2, fun i hi => ?_⟩
 obtain ⟨g, rfl, hg, hc, hc'⟩ := h3 i hi
 have hlt := World.block_lt_of_cell? w ⟨g, i * 2, none⟩ hc
 exact ⟨g, rfl, (hS g hlt hg).2, (World.cell?_of_block (kp.block g hlt (hS g hlt hg).1)).trans hc, (World.cell?_of_block (kp.block g hlt (hS g hlt hg).1)).trans hc'⟩
theorem DiskAt.carry {w w' : World} {own own' : Nat -> Nat} {N N' i : Nat} {r : DR} {S : Nat -> Prop} (h : DiskAt w own N i r) (kp : Kp S w w') (hS : ∀ k, k < w.heap.size -> Ci own i k -> ¬ S k /\ own' k = own k) (hN : N <= N') : DiskAt w' own' N' i r := by
 refine ⟨fun e => ?_, fun q e => ?_⟩
 . have hd := h.1 e
   have hlk := lt_of_block hd.blk
   have hk := hS _ hlk (.inl hd.ck)
   refine ⟨kp.at hd.blk hk.1, hk.2.trans hd.ck, ?_, ?_, hd.okx, hd.oky, ⟨Nat.le_trans hd.fx.1 hN, hd.fx.2.1, by have := hd.fx.2.2; omega⟩, Nat.le_trans hd.ly hN⟩
   . exact ((hd.x.mono (T := fun k => own k = 4 + 3 * i /\ k < w.heap.size) (fun _ hk s => ⟨s, hk⟩)).kept kp (fun k s => (hS k s.2 (.inr (.inl s.1))).1)).mono (fun k _ s => (hS k s.2 (.inr (.inl s.1))).2.trans s.1)
   . exact ((hd.y.mono (T := fun k => own k = 5 + 3 * i /\ k < w.heap.size) (fun _ hk s => ⟨s, hk⟩)).kept kp (fun k s => (hS k s.2 (.inr (.inr s.1))).1)).mono (fun k _ s => (hS k s.2 (.inr (.inr s.1))).2.trans s.1)
 . have hd := h.2 q e
   refine ⟨?_, hd.inv, by have := hd.turn; omega, Nat.le_trans hd.bytes hN, Nat.le_trans hd.ops hN, Nat.le_trans hd.ones hN⟩
   refine ((hd.dka.mono (C' := fun k => Ci own i k /\ k < w.heap.size) (fun k hk s => ⟨s, hk⟩)).kept kp (fun k s => (hS k s.2 s.1).1)).mono (fun k _ s => ?_)
   have h2 := (hS k s.2 s.1).2
   unfold Ci
   rw [h2]
   exact s.1
theorem DiskAt.recolor {w w' : World} {own : Nat -> Nat} {N N' i c' : Nat} {r : DR} (h : DiskAt w own N i r) (kp : Kp (fun k => own k = c') w w') (h3 : 3 + 3 * i ≠ c') (h4 : 4 + 3 * i ≠ c') (h5 : 5 + 3 * i ≠ c') (hN : N <= N') : DiskAt w' (recolor own w c') N' i r :=
 h.carry kp (fun k hk s => ⟨fun e => by have e' : own k = c' := e; rcases s with s | s | s <;> omega, recolor_old hk⟩) hN
theorem Inv.carry {w w' : World} {own : Nat -> Nat} {bW N : Nat} {rs rs' : List DR} {ts : List TX} {nxt : Nat} {vd vt vm : Value} {zz : PX} (h : Inv w own bW N rs ts nxt vd vt vm zz) {S : Nat -> Prop} {c : Nat} (kp : Kp S w w') (h1 : ∀ k, S k -> own k ≠ 1) (h2 : ∀ k, S k -> own k ≠ 2) {N' : Nat}
   (hr : rs'.map (·.bk) = rs.map (·.bk)) (hd : ∀ i (h : i < rs'.length), DiskAt w' (recolor own w c) N' i rs'[i]) : Inv w' (recolor own w c) bW N' rs' ts nxt vd vt vm zz := by
 have hrow : ∀ {e : TypeId} {size n : Nat} {v : Value} {xs : List Value}, w.ownsRow 0 e size v n xs -> (∀ g, v.ownBlock = some g -> own g = 1) -> w'.ownsRow 0 e size v n xs /\ ∀ g, v.ownBlock = some g -> recolor own w c g = 1 := fun hr hc =>
   ⟨kp.row hr (fun g hg e => h1 g e (hc g hg)), fun g hg => (recolor_old (hr.lt g hg).2).trans (hc g hg)⟩
 have hl : rs'.length = rs.length := by simpa using congrArg List.length hr
 have hm : (rs'.map fun r => ptrB r.bk) = rs.map fun r => ptrB r.bk := by
   have := congrArg (List.map ptrB) hr
   simpa [List.map_map, Function.comp_def] using this
 refine ⟨kp.at h.blk (fun e => h1 _ e h.cW), (recolor_old (lt_of_block h.blk)).trans h.cW, ?_, (hrow h.rowt h.ct).1, (hrow h.rowm h.cm).1, (hrow h.rowp h.cp).1, (hrow h.rowq h.cq).1, (hrow h.rowd h.cd).2, (hrow h.rowt h.ct).2, (hrow h.rowm h.cm).2, (hrow h.rowp h.cp).2, (hrow h.rowq h.cq).2, h.mq, fun t ht => ⟨?_, (h.text t ht).2⟩, fun t ht => ⟨?_, (h.pair t ht).2⟩, hd⟩
 . rw [hl, hm]; exact (hrow h.rowd h.cd).1
 . exact (h.text t ht).1.kept' kp (fun g hg hc => ⟨fun e => h2 g e hc, (recolor_old hg).trans hc⟩)
 . exact (h.pair t ht).1.kept' kp (fun g hg hc => ⟨fun e => h2 g e hc, (recolor_old hg).trans hc⟩)
theorem Inv.quiet {w w' : World} {own : Nat -> Nat} {bW N : Nat} {rs : List DR} {ts : List TX} {nxt : Nat} {vd vt vm : Value} {zz : PX} (h : Inv w own bW N rs ts nxt vd vt vm zz) (kp : Kp (fun k => own k = 0) w w') : Inv w' (recolor own w 0) bW N rs ts nxt vd vt vm zz :=
 h.carry kp (fun k e => by have e' : own k = 0 := e; omega) (fun k e => by have e' : own k = 0 := e; omega) rfl (fun i hi => (h.disk i hi).recolor kp (by omega) (by omega) (by omega) (Nat.le_refl _))
theorem set_bk {rs : List DR} {i : Nat} (hi : i < rs.length) {r : DR} (e : r.bk = rs[i].bk) : (rs.set i r).map (·.bk) = rs.map (·.bk) := by
 rw [List.map_set, e]
 apply List.ext_getElem (by simp)
 intro a h1 h2
 rw [List.getElem_set]
 split
 . rename_i e; subst e; simp
 . rfl
theorem Inv.stepX {w w' : World} {own : Nat -> Nat} {bW N N' : Nat} {rs : List DR} {ts : List TX} {nxt : Nat} {vd vt vm : Value} {zz : PX} (h : Inv w own bW N rs ts nxt vd vt vm zz) (i : Nat) (hi : i < rs.length) (hk : rs[i].kn = none) (kp : Kp (fun k => own k = 4 + 3 * i) w w') (d' : Dk)
   (hx : XAt w' (Nw (fun k => own k = 4 + 3 * i) w) rs[i].bx d') (hok : d'.Ok) (hl : Fits d' N') (hN : N <= N') : Inv w' (recolor own w (4 + 3 * i)) bW N' (rs.set i { rs[i] with dx := d' }) ts nxt vd vt vm zz := by
 refine h.carry kp (fun k e => by have e' : own k = 4 + 3 * i := e; omega) (fun k e => by have e' : own k = 4 + 3 * i := e; omega) (set_bk hi rfl) (fun j hj => ?_)
 rw [List.length_set] at hj
 by_cases e : i = j
 . subst e
   rw [List.getElem_set_self]
   have hd := (h.disk i hi).1 hk
   have hlt : ∀ k, k < w'.heap.size -> Nw (fun k => own k = 4 + 3 * i) w k -> recolor own w (4 + 3 * i) k = 4 + 3 * i := fun k _ s => by
     rcases Nat.lt_or_ge k w.heap.size with h1 | h1
     . rcases s with s | s
       . exact (recolor_old h1).trans s
       . omega
     . exact recolor_new h1
   exact ⟨fun _ => ⟨kp.at hd.blk (fun e => by have h9 := hd.ck; simp only at e; omega), (recolor_old (lt_of_block hd.blk)).trans hd.ck, hx.mono hlt, hd.y.recolor kp (by omega), hok, hd.oky, hl, Nat.le_trans hd.ly hN⟩, fun q hq => by simp only [hk] at hq; cases hq⟩
 . rw [List.getElem_set_ne e]
   exact (h.disk j hj).recolor kp (by omega) (by omega) (by omega) hN
theorem Inv.stepY {w w' : World} {own : Nat -> Nat} {bW N N' : Nat} {rs : List DR} {ts : List TX} {nxt : Nat} {vd vt vm : Value} {zz : PX} (h : Inv w own bW N rs ts nxt vd vt vm zz) (i : Nat) (hi : i < rs.length) (hk : rs[i].kn = none) (kp : Kp (fun k => own k = 5 + 3 * i) w w') (d' : Dk)
   (hy : RefAt w' (Nw (fun k => own k = 5 + 3 * i) w) rs[i].bY d') (hok : d'.Ok) (hl : d'.files.length <= N') (hN : N <= N') : Inv w' (recolor own w (5 + 3 * i)) bW N' (rs.set i { rs[i] with dy := d' }) ts nxt vd vt vm zz := by
 refine h.carry kp (fun k e => by have e' : own k = 5 + 3 * i := e; omega) (fun k e => by have e' : own k = 5 + 3 * i := e; omega) (set_bk hi rfl) (fun j hj => ?_)
 rw [List.length_set] at hj
 by_cases e : i = j
 . subst e
   rw [List.getElem_set_self]
   have hd := (h.disk i hi).1 hk
   have hlt : ∀ k, k < w'.heap.size -> Nw (fun k => own k = 5 + 3 * i) w k -> recolor own w (5 + 3 * i) k = 5 + 3 * i := fun k _ s => by
     rcases Nat.lt_or_ge k w.heap.size with h1 | h1
     . rcases s with s | s
       . exact (recolor_old h1).trans s
       . omega
     . exact recolor_new h1
   exact ⟨fun _ => ⟨kp.at hd.blk (fun e => by have h9 := hd.ck; simp only at e; omega), (recolor_old (lt_of_block hd.blk)).trans hd.ck, hd.x.recolor kp (by omega), hy.mono hlt, hd.okx, hok, ⟨Nat.le_trans hd.fx.1 hN, hd.fx.2.1, by have := hd.fx.2.2; show rs[i].dx.turn <= _; omega⟩, hl⟩, fun q hq => by simp only [hk] at hq; cases hq⟩
 . rw [List.getElem_set_ne e]
   exact (h.disk j hj).recolor kp (by omega) (by omega) (by omega) hN
theorem Inv.stepK {w w' : World} {own : Nat -> Nat} {bW N N' : Nat} {rs : List DR} {ts : List TX} {nxt : Nat} {vd vt vm : Value} {zz : PX} (h : Inv w own bW N rs ts nxt vd vt vm zz) (i : Nat) (hi : i < rs.length) (kp : Kp (Ci own i) w w') (q : KR)
   (hx : Dka w' (Nw (Ci own i) w) rs[i].bk rs[i].bx q.bd (ptrB rs[i].bY) q.d q.zs q.k) (hI : KInv q.k q.d q.zs) (ht : q.d.turn <= N') (hb : q.k.bytes <= N') (ho : q.k.ops <= N') (hl : q.k.ones.length <= N') (hN : N <= N') : Inv w' (recolor own w (3 + 3 * i)) bW N' (rs.set i { rs[i] with kn := some q }) ts nxt vd vt vm zz := by
 have hc : ∀ k, Ci own i k -> own k ≠ 1 /\ own k ≠ 2 := fun k e => by rcases e with e | e | e <;> omega
 refine h.carry kp (fun k e => (hc k e).1) (fun k e => (hc k e).2) (set_bk hi rfl) (fun j hj => ?_)
 rw [List.length_set] at hj
 by_cases e : i = j
 . subst e
   rw [List.getElem_set_self]
   refine ⟨fun e => (by cases e), fun q' hq => ?_⟩
   cases hq
   refine ⟨hx.mono (fun k _ s => ?_), hI, ht, hb, ho, hl⟩
   rcases Nat.lt_or_ge k w.heap.size with h1 | h1
   . rcases s with s | s
     . unfold Ci; rw [recolor_old h1]; exact s
     . omega
   . exact .inl (recolor_new h1)
 . rw [List.getElem_set_ne e]
   exact (h.disk j hj).carry kp (fun k hk s => ⟨fun s' => by rcases s with s | s | s <;> rcases s' with s' | s' | s' <;> omega, recolor_old hk⟩) hN
theorem DiskAt.more {w : World} {own : Nat -> Nat} {N N' i : Nat} {r : DR} (h : DiskAt w own N i r) (hN : N <= N') : DiskAt w own N' i r :=
 h.carry (S := fun _ => False) (Kp.refl _ _) (fun _ _ _ => ⟨fun f => f, rfl⟩) hN
theorem Inv.more {w : World} {own : Nat -> Nat} {bW N : Nat} {rs : List DR} {ts : List TX} {nxt : Nat} {vd vt vm : Value} {zz : PX} (h : Inv w own bW N rs ts nxt vd vt vm zz) {N' : Nat} (hN : N <= N') : Inv w own bW N' rs ts nxt vd vt vm zz :=
 ⟨h.blk, h.cW, h.rowd, h.rowt, h.rowm, h.rowp, h.rowq, h.cd, h.ct, h.cm, h.cp, h.cq, h.mq, h.text, h.pair, fun i hi => (h.disk i hi).more hN⟩
end Go.Proofs.YtfghgmojnffgnaaGreat.M
