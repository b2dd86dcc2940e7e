import Derived.Test.YtfghgmojnffgnaaGreatPkBC
import Derived.Test.YtfghgmojnffgnaaGreatPkAY
set_option maxHeartbeats 4000000
set_option maxRecDepth 20000
namespace Go.Proofs.YtfghgmojnffgnaaGreat.M
open Go.RowKit Go.Maps Go.Sort
attribute [local go_sem ↓] Go.wp_at_zero Go.wp_at_succ
theorem names_close {w w3 : World} {own : Nat -> Nat} {bW N : Nat} {rs : List DR} {ts : List TX} {nxt : Nat} {vd vt vm : Value} {zz : PX} (h : Inv w own bW N rs ts nxt vd vt vm zz) (hs : ∀ r ∈ rs, r.dx = r.dy) (hts : ts.length <= 16777216) (hnx : nxt <= 1099511627770)
   (k0 : Below w.heap.size w w3) (vl : Value) (L : List (List UInt8)) (hL : OwnS w3 w.heap.size vl L) (hLl : L.length <= 4194310) :
   Calls Tryz.prog 60 #[ptrB bW, vl] w3 fun e w' => e = .returned (.tuple #[]) /\ Step w own bW N rs ts nxt zz w' := by
 have h3 := h.quiet (Kp.of_below k0)
 have hge : ∀ g, vl.ownBlock = some g -> w.heap.size <= g := fun g hg => (World.ownsRow.lt hL g hg).1
 refine (ownTexts_any h3 hts hnx vl L (fun g hg => recolor_new (hge g hg)) (ownsRow_base hL (Nat.zero_le _)) hLl).mono ?_
 rintro e w' ⟨rfl, kp, us, vt', vm', hu, hI⟩
 refine ⟨rfl, ?_, _, _, _, _, _, _, _, _, hI.more (Nat.le_succ _), fun k hk => ?_, ⟨Nat.le_refl _, Nat.le_succ _⟩, hs, by simp [hu], by omega, Nat.le_refl _⟩
 . refine (Kp.of_below k0).trans kp (fun k hk e => ?_)
   rcases e with e | e
   . rw [recolor_old hk] at e; omega
   . have := hge k e; omega
 . have hlt := Nat.lt_of_lt_of_le hk k0.size
   unfold ownT
   rw [if_pos hlt, if_neg (fun e => by have := hge k e; omega), recolor_old hk]
theorem plain_names_dead {w : World} {own : Nat -> Nat} {bW N : Nat} {rs : List DR} {ts : List TX} {nxt : Nat} {vd vt vm : Value} {zz : PX} (h : Inv w own bW N rs ts nxt vd vt vm zz) (i : Nat) (hi : i < rs.length) (hkn : rs[i].kn = none) (hdead : rs[i].dx.dead = true) (hsy : ∀ r ∈ rs, r.dx = r.dy) (hts : ts.length <= 16777216) (hnx : nxt <= 1099511627770)
   (S T : List UInt8) (D A B ops L old : Value) :
   Calls Tryz.prog 24 #[ptrB bW, ptrB rs[i].bk, .agg #[.int .i64 8, D, A, B, .string ⟨S.toArray⟩, .string ⟨T.toArray⟩, ops, L, old]] w fun e w' => e = .returned (.bool true) /\ Step w own bW N rs ts nxt zz w' := by
 have hxy := hsy _ (List.getElem_mem hi)
 obtain ⟨w0, hw0⟩ : ∃ w0, w0 = w.alloc (Obj.cells #[.int .i64 8, D, A, B, .string ⟨S.toArray⟩, .string ⟨T.toArray⟩, ops, L, old] 67) := ⟨_, rfl⟩
 have h0 := h.quiet ((Kp.refl (fun k => own k = 0) w).alloc (Obj.cells #[.int .i64 8, D, A, B, .string ⟨S.toArray⟩, .string ⟨T.toArray⟩, ops, L, old] 67))
 have hbw : Below w.heap.size w w0 := by rw [hw0]; exact (Below.refl _ _).alloc (Nat.le_refl _) _
 rw [<- hw0] at h0
 obtain ⟨own0, ho0⟩ : ∃ own0, own0 = recolor own w 0 := ⟨_, rfl⟩
 rw [<- ho0] at h0
 have d0 := (h0.disk i hi).1 hkn
 have q := d0.blk
 rw [hw0] at q
 obtain ⟨k0, k1, k2, -, -, -⟩ := cells3 q
 clear q
 have HW : Hid (w0 = w.alloc (Obj.cells #[.int .i64 8, D, A, B, .string ⟨S.toArray⟩, .string ⟨T.toArray⟩, ops, L, old] 67)) := hw0
 have HD : Hid (PlainAt w0 own0 N i rs[i]) := d0
 have HH : Hid (Inv w own bW N rs ts nxt vd vt vm zz) := h
 clear d0 h0 h hw0
 have hxw : ∀ w', Sm w0 w' -> _ := fun w' e => (xNames_dead rs[i].bx rs[i].dx (fun k => own0 k = 4 + 3 * i) w' (HD.out.x.sm e) hdead)
 have hyw : ∀ w', Sm w0 w' -> _ := fun w' e => (yNames_dead rs[i].bY rs[i].dy (fun k => own0 k = 5 + 3 * i) w' (HD.out.y.sm e) (hxy ▸ hdead))
 have hst : ∀ w', _ := fun w' => sameTexts_any none none 0 0 [] w' (Nat.zero_le _) (fun i hi => absurd hi (Nat.not_lt_zero _)) (fun i hi => absurd hi (Nat.not_lt_zero _))
 have hot : ∀ w', Sm w0 w' -> _ := fun w' e => names_close HH.out hsy hts hnx (hbw.trans e.belowB) (.slice none 0 0) [] (World.ownsRow_nil _ _ _ _) (Nat.zero_le _)
 unfold ptrB at *
 go_enter Tryz.func24, Tryz.ntmps24
 go_wp2_with (first
   | (go_at_call 57; refine (hxw _ (by rw [HW.out]; simp)).mono ?_; rintro e w1 ⟨rfl, rfl⟩; clear hxw)
   | (go_at_call 58; refine (hyw _ (by rw [HW.out]; simp)).mono ?_; rintro e w1 ⟨rfl, rfl⟩; clear hyw)
   | (go_at_call 59; refine (hst _).mono ?_; rintro e w1 ⟨rfl, n, hw1⟩; clear hst; replace hot := hot w1 (by rw [hw1, HW.out]; exact Sm.drewN _ _); replace hw1 : Hid (w1 = w1) := rfl)
   | (go_at_call 60; refine hot.mono ?_; rintro e w2 ⟨rfl, hstep⟩; clear hot)
   | (go_at_call 44; refine (num_eq _ _).mono ?_; rintro e w9 ⟨rfl, rfl⟩))
 go_ret
 exact ⟨by first | rfl | simp | exact ret_bool (by simp), hstep⟩
end Go.Proofs.YtfghgmojnffgnaaGreat.M
namespace Go.Proofs.YtfghgmojnffgnaaGreat.M
open Go.RowKit Go.Maps Go.Sort
theorem plain_names_alive {w : World} {own : Nat -> Nat} {bW N : Nat} {rs : List DR} {ts : List TX} {nxt : Nat} {vd vt vm : Value} {zz : PX} (h : Inv w own bW N rs ts nxt vd vt vm zz) (i : Nat) (hi : i < rs.length) (hkn : rs[i].kn = none) (hdead : rs[i].dx.dead = false) (hsy : ∀ r ∈ rs, r.dx = r.dy) (hN : N <= 4194300) (hts : ts.length <= 16777216) (hnx : nxt <= 1099511627770)
   (S T : List UInt8) (D A B ops L old : Value) :
   Calls Tryz.prog 24 #[ptrB bW, ptrB rs[i].bk, .agg #[.int .i64 8, D, A, B, .string ⟨S.toArray⟩, .string ⟨T.toArray⟩, ops, L, old]] w fun e w' => e = .returned (.bool true) /\ Step w own bW N rs ts nxt zz w' := by
 have hxy := hsy _ (List.getElem_mem hi)
 obtain ⟨w0, hw0⟩ : ∃ w0, w0 = w.alloc (Obj.cells #[.int .i64 8, D, A, B, .string ⟨S.toArray⟩, .string ⟨T.toArray⟩, ops, L, old] 67) := ⟨_, rfl⟩
 have h0 := h.quiet ((Kp.refl (fun k => own k = 0) w).alloc (Obj.cells #[.int .i64 8, D, A, B, .string ⟨S.toArray⟩, .string ⟨T.toArray⟩, ops, L, old] 67))
 have hbw : Below w.heap.size w w0 := by rw [hw0]; exact (Below.refl _ _).alloc (Nat.le_refl _) _
 rw [<- hw0] at h0
 obtain ⟨own0, ho0⟩ : ∃ own0, own0 = recolor own w 0 := ⟨_, rfl⟩
 rw [<- ho0] at h0
 have d0 := (h0.disk i hi).1 hkn
 have q := d0.blk
 rw [hw0] at q
 obtain ⟨k0, k1, k2, -, -, -⟩ := cells3 q
 clear q
 have HW : Hid (w0 = w.alloc (Obj.cells #[.int .i64 8, D, A, B, .string ⟨S.toArray⟩, .string ⟨T.toArray⟩, ops, L, old] 67)) := hw0
 have HD : Hid (PlainAt w0 own0 N i rs[i]) := d0
 have HH : Hid (Inv w own bW N rs ts nxt vd vt vm zz) := h
 clear d0 h0 h hw0
 have hxw : ∀ w', Sm w0 w' -> _ := fun w' e => (xNames_any rs[i].bx rs[i].dx (fun k => own0 k = 4 + 3 * i) w' (HD.out.x.sm e) HD.out.okx (Nat.le_trans HD.out.lx (by omega)) hdead)
 have hyw : ∀ w', Below w0.heap.size w0 w' -> _ := fun w' e => (yNames_any rs[i].bY rs[i].dy (fun k => own0 k = 5 + 3 * i) w' (HD.out.y.kept (Kp.of_below (S := fun _ => False) e) (fun _ _ f => f)) (Nat.le_trans HD.out.ly (by omega)) (hxy ▸ hdead))
 have hnl : (nmsOf rs[i].dy.files).length <= 4194304 := by have := HD.out.ly; simp only [nmsOf, List.length_map]; omega
 rw [hxy] at hxw
 generalize hNL : nmsOf rs[i].dy.files = NL at *
 have hdl := lt_of_block HD.out.blk
 have hdb := HD.out.blk
 have hot : ∀ w' v, Below w.heap.size w w' -> OwnS w' w.heap.size v NL -> _ := fun w' v e hv => names_close HH.out hsy hts hnx e v NL hv (Nat.le_trans hnl (by decide))
 have hs0 := hbw.size
 clear hNL
 unfold ptrB at *
 go_enter Tryz.func24, Tryz.ntmps24
 go_wp2_with (first
   | (go_at_call 57; refine (hxw _ (by rw [HW.out]; simp)).mono ?_; rintro e w1 ⟨v1, rfl, hb1, hv1⟩; rw [<- HW.out] at hb1 hv1; clear hxw k0 k1 k2; obtain ⟨k0, k1, k2, -, -, -⟩ := cells3 (block_at2 hdb hb1); replace hyw := hyw w1 hb1; have HV1 : Hid (OwnS w1 w0.heap.size v1 NL) := hv1; have HB1 : Hid (Below w0.heap.size w0 w1) := hb1; clear hb1 hv1; obtain ⟨a1, c1, rfl, -⟩ := ownS_shape HV1.out)
   | (go_at_call 58; refine hyw.mono ?_; rintro e w2 ⟨v2, rfl, hb2, hv2⟩; clear hyw; have HB2 : Hid (Below w1.heap.size w1 w2) := hb2; have HV2 : Hid (OwnS w2 w1.heap.size v2 NL) := hv2; have HV3 : Hid (OwnS w2 w0.heap.size (.slice a1 NL.length c1) NL) := HV1.out.below hb2; clear hb2 hv2; obtain ⟨a2, c2, rfl, -⟩ := ownS_shape HV2.out)
   | (go_at_call 59; refine (sameTexts_any a1 a2 c1 c2 NL w2 hnl HV3.out.strp HV2.out.strp).mono ?_; rintro e w3 ⟨rfl, n, hw3⟩; replace hot := hot w3 (.slice a1 NL.length c1) (by rw [hw3]; exact (hbw.trans ((HB1.out.mono hs0).trans (HB2.out.mono (Nat.le_trans hs0 HB1.out.size)))).trans (Sm.drewN _ _).belowB) (by rw [hw3]; exact ownsRow_base (HV3.out.below (Sm.drewN _ _).belowB) hs0); clear hw3)
   | (go_at_call 60; refine hot.mono ?_; rintro e w4 ⟨rfl, hstep⟩; clear hot)
   | (go_at_call 44; refine (num_eq _ _).mono ?_; rintro e w9 ⟨rfl, rfl⟩))
 go_ret
 exact ⟨by first | rfl | simp | exact ret_bool (by simp), hstep⟩
theorem fuse_turn (d : Dk) (n : Int) : (d.fuse n).turn = d.turn := by unfold Dk.fuse; split <;> rfl
theorem power_fuse {w : World} {own : Nat -> Nat} {bW N : Nat} {rs : List DR} {ts : List TX} {nxt : Nat} {vd vt vm : Value} {zz : PX} (h : Inv w own bW N rs ts nxt vd vt vm zz) (i : Nat) (hi : i < rs.length) (hkn : rs[i].kn = none) (hsy : ∀ r ∈ rs, r.dx = r.dy)
   (S T : List UInt8) (A : Int) (hA : A <= 9223372036854775807) (D B ops L old : Value) :
   Calls Tryz.prog 62 #[ptrB rs[i].bk, .agg #[.int .i64 9, D, .int .i64 A, B, .string ⟨S.toArray⟩, .string ⟨T.toArray⟩, ops, L, old]] w fun e w' => e = .returned (.bool true) /\ Step w own bW N rs ts nxt zz w' := by
 have hxy := hsy _ (List.getElem_mem hi)
 have h0 := h.quiet ((Kp.refl (fun k => own k = 0) w).alloc (Obj.cells #[.int .i64 9, D, .int .i64 A, B, .string ⟨S.toArray⟩, .string ⟨T.toArray⟩, ops, L, old] 67))
 have hOb := block_new w (Obj.cells #[.int .i64 9, D, .int .i64 A, B, .string ⟨S.toArray⟩, .string ⟨T.toArray⟩, ops, L, old] 67)
 have hbw : Below w.heap.size w (w.alloc (Obj.cells #[.int .i64 9, D, .int .i64 A, B, .string ⟨S.toArray⟩, .string ⟨T.toArray⟩, ops, L, old] 67)) := (Below.refl _ _).alloc (Nat.le_refl _) _
 obtain ⟨own0, ho0⟩ : ∃ own0, own0 = recolor own w 0 := ⟨_, rfl⟩
 rw [<- ho0] at h0
 have hO0 : own0 w.heap.size = 0 := by rw [ho0]; exact recolor_new (Nat.le_refl _)
 unfold ptrB at *
 go_enter Tryz.func62, Tryz.ntmps62
 go_wp2
 generalize hw0 : w.alloc (Obj.cells #[.int .i64 9, D, .int .i64 A, B, .string ⟨S.toArray⟩, .string ⟨T.toArray⟩, ops, L, old] 67) = w0 at *
 have HW : Hid (w.alloc (Obj.cells #[.int .i64 9, D, .int .i64 A, B, .string ⟨S.toArray⟩, .string ⟨T.toArray⟩, ops, L, old] 67) = w0) := hw0
 clear hw0
 have d0 := (h0.disk i hi).1 hkn
 obtain ⟨k0, k1, k2, kz0, kz1, kz2⟩ := cells3 d0.blk
 obtain ⟨o0, o2, o4, o5, o7⟩ := cells9 hOb
 unfold ptrB at *
 have HD : Hid (PlainAt w0 own0 N i rs[i]) := d0
 have HI : Hid (Inv w0 own0 bW N rs ts nxt vd vt vm zz) := h0
 have HH : Hid (Inv w own bW N rs ts nxt vd vt vm zz) := h
 clear d0 h0 h
 have hxw := xFuse_any rs[i].bx rs[i].dx A (fun k => own0 k = 4 + 3 * i) w0.drew (HD.out.x.drew)
 go_still_tail 6, mixedT
 go_wp2_with (go_at_call 15; refine hxw.mono ?_; rintro e w1 ⟨rfl, hX1, kp1⟩; have kp1 := kp1.undrew; have hy1 := HD.out.y.recolor kp1 (by omega); have hdb := kp1.at HD.out.blk (fun e => by have := HD.out.ck; omega); have hob := kp1.at hOb (fun e => by omega); unfold ptrB at hdb; obtain ⟨j0, j1, j2, jz0, jz1, jz2⟩ := cells3 hdb; obtain ⟨p0, p2, p4, p5, p7⟩ := cells9 hob)
 have hyw := yFuse_any rs[i].bY rs[i].dy A (fun k => recolor own0 w0 (4 + 3 * i) k = 5 + 3 * i) w1.drew hy1
 clear hxw
 go_still_tail 6, mixedT
 go_wp2_with (go_at_call 92; refine hyw.mono ?_; rintro e w2 ⟨rfl, hY2, kp2⟩)
 go_ret
 have hwo := fuse_ok HD.out.oky A hA
 subst ho0
 rw [hxy] at hX1
 refine ⟨rfl, xy_close HH.out hsy hbw i hi hkn kp1 hX1 kp2.undrew hY2 hwo.1 (fits_next HD.out hxy (fuse_turn _ A) (Nat.le_trans hwo.2 (by have := HD.out.ly; omega)))⟩
theorem xy_close2 {w w1 w2 w3 w4 : World} {own : Nat -> Nat} {bW N : Nat} {rs : List DR} {ts : List TX} {nxt : Nat} {vd vt vm : Value} {zz : PX} (h : Inv w own bW N rs ts nxt vd vt vm zz) (hs : ∀ r ∈ rs, r.dx = r.dy) (k0 : Below w.heap.size w w1) (i : Nat) (hi : i < rs.length) (hkn : rs[i].kn = none)
   (k1 : Kp (fun k => recolor own w 0 k = 4 + 3 * i) w1 w2) {d' : Dk} (hX : XAt w2 (Nw (fun k => recolor own w 0 k = 4 + 3 * i) w1) rs[i].bx d') (g : Nat) (hg : w.heap.size <= g) (hg1 : g < w1.heap.size) (km : Kp (fun k => k = g) w2 w3)
   (k2 : Kp (fun k => recolor (recolor (recolor own w 0) w1 (4 + 3 * i)) w2 0 k = 5 + 3 * i) w3 w4)
   (hY : RefAt w4 (Nw (fun k => recolor (recolor (recolor own w 0) w1 (4 + 3 * i)) w2 0 k = 5 + 3 * i) w3) rs[i].bY d') (hok : d'.Ok) (hl : Fits d' (N + 1)) : Step w own bW N rs ts nxt zz w4 := by
 have s0 := k0.size
 have s1 := k1.size
 have s2 := km.size
 have h0 := h.quiet (Kp.of_below k0)
 have h1 := h0.stepX i hi hkn k1 d' hX hok hl (Nat.le_succ _)
 have hi1 : i < (rs.set i { rs[i] with dx := d' }).length := by simpa using hi
 have e1 : (rs.set i { rs[i] with dx := d' })[i] = { rs[i] with dx := d' } := List.getElem_set_self _
 have hm := h1.quiet (km.mono (T := fun k => recolor (recolor own w 0) w1 (4 + 3 * i) k = 0) (fun k e => by subst e; rw [recolor_old hg1, recolor_new hg]))
 have h2 := hm.stepY i hi1 (by rw [e1]; exact hkn) k2 d' (by rw [e1]; exact hY) hok hl.1 (Nat.le_refl _)
 rw [e1, List.set_set] at h2
 refine ⟨?_, _, _, _, _, _, _, _, _, h2, fun k hk => ?_, ?_, ?_, by omega, by omega, by omega⟩
 . refine (((Kp.of_below (S := fun k => own k ≠ 0) k0).trans k1 (fun k hk e => ?_)).trans km (fun k hk e => ?_)).trans k2 (fun k hk e => ?_)
   . rw [recolor_old hk] at e; omega
   . omega
   . rw [recolor_old (by omega), recolor_old (by omega), recolor_old hk] at e; omega
 . rw [recolor_old (by omega), recolor_old (by omega), recolor_old (by omega), recolor_old hk]
 . simp
 . intro r hr
   rcases List.mem_or_eq_of_mem_set hr with hr | rfl
   . exact hs r hr
   . rfl
theorem fits_crash {w : World} {own : Nat -> Nat} {N i : Nat} {r : DR} (h : PlainAt w own N i r) (hxy : r.dx = r.dy) (hN : N <= 4194300) (ks : List Int) (hl : (r.dy.crash ks).files.length <= N + 1) : Fits (r.dy.crash ks) (N + 1) := by
 have h1 := h.fx.2
 rw [hxy] at h1
 have e : (r.dy.crash ks).turn = r.dy.turn + 1 := by
   show Go.RowKit.wrap64 (r.dy.turn + 1) = r.dy.turn + 1
   unfold wrap64; omega
 exact ⟨hl, by rw [e]; omega, by rw [e]; omega⟩
theorem power_crash {w : World} {own : Nat -> Nat} {bW N : Nat} {rs : List DR} {ts : List TX} {nxt : Nat} {vd vt vm : Value} {zz : PX} (h : Inv w own bW N rs ts nxt vd vt vm zz) (i : Nat) (hi : i < rs.length) (hkn : rs[i].kn = none) (hsy : ∀ r ∈ rs, r.dx = r.dy) (hN : N <= 4194300)
   (S T : List UInt8) (q : Option Addr) (qc : Nat) (ks : List Int) (hkl : ks.length <= 4194304) (hks : Intp w q ks) (hq0 : q = none -> ks = [] /\ qc = 0) (hq1 : ∀ a, q = some a -> 0 < ks.length -> own a.block = 0 /\ a.block < w.heap.size) (D A B ops old : Value) :
   Calls Tryz.prog 62 #[ptrB rs[i].bk, .agg #[.int .i64 10, D, A, B, .string ⟨S.toArray⟩, .string ⟨T.toArray⟩, ops, .slice q ks.length qc, old]] w fun e w' => e = .returned (.bool true) /\ Step w own bW N rs ts nxt zz w' := by
 have hxy := hsy _ (List.getElem_mem hi)
 obtain ⟨w0, hw0⟩ : ∃ w0, w0 = w.alloc (Obj.cells #[.int .i64 10, D, A, B, .string ⟨S.toArray⟩, .string ⟨T.toArray⟩, ops, .slice q ks.length qc, old] 67) := ⟨_, rfl⟩
 have hbw : Below w.heap.size w w0 := by rw [hw0]; exact (Below.refl _ _).alloc (Nat.le_refl _) _
 have hOb : w0.heap[w.heap.size]? = _ := (congrArg (fun x : World => x.heap[w.heap.size]?) hw0).trans (block_new w (Obj.cells #[.int .i64 10, D, A, B, .string ⟨S.toArray⟩, .string ⟨T.toArray⟩, ops, .slice q ks.length qc, old] 67))
 have hks0 : Intp w0 q ks := hks.kept (Kp.of_below (S := fun _ => False) hbw) (fun _ _ _ f => f)
 obtain ⟨o0, -, -, -, o7⟩ := cells9 hOb
 have h0 := h.quiet (Kp.of_below (S := fun k => own k = 0) hbw)
 obtain ⟨k0, k1, k2, -, -, -⟩ := cells3 ((h0.disk i hi).1 hkn).blk
 rw [hw0] at k0 k1 k2 o0 o7
 have HW : Hid (w0 = w.alloc (Obj.cells #[.int .i64 10, D, A, B, .string ⟨S.toArray⟩, .string ⟨T.toArray⟩, ops, .slice q ks.length qc, old] 67)) := hw0
 have HOb : Hid (w0.heap[w.heap.size]? = some (Obj.cells #[.int .i64 10, D, A, B, .string ⟨S.toArray⟩, .string ⟨T.toArray⟩, ops, .slice q ks.length qc, old] 67)) := hOb
 have HH : Hid (Inv w own bW N rs ts nxt vd vt vm zz) := h
 have hgv := givenInts_any q qc ks w0 hkl hks0 hq0
 have hs0 := hbw.size
 have hsz : w0.heap.size = w.heap.size + 1 := by rw [hw0]; simp
 have HK : Hid (Intp w0 q ks) := hks0
 clear h h0 hOb hks hks0 hq0
 rw [hw0] at hgv
 clear hw0
 unfold ptrB at *
 go_enter Tryz.func62, Tryz.ntmps62
 go_wp2_with (first
   | (go_at_call 93; refine hgv.mono ?_; rintro e w1 ⟨g, cap, rfl, hb1, hg1, hr1⟩; clear hgv k0 k1 k2 o0 o7; rw [<- HW.out] at hb1 hg1; have hbw1 : Below w.heap.size w w1 := hbw.trans (hb1.mono hs0); have HD1 : Hid (PlainAt w1 (recolor own w 0) N i rs[i]) := ((HH.out.quiet (Kp.of_below hbw1)).disk i hi).1 hkn; obtain ⟨k0, k1, k2, -, -, -⟩ := cells3 HD1.out.blk; obtain ⟨o0, -, -, -, o7⟩ := cells9 (block_at2 HOb.out hb1); have HOb1 : Hid (w1.heap[w.heap.size]? = some (Obj.cells #[.int .i64 10, D, A, B, .string ⟨S.toArray⟩, .string ⟨T.toArray⟩, ops, .slice q ks.length qc, old] 67)) := block_at2 HOb.out hb1; have HK1 : Hid (Intp w1 q ks) := HK.out.kept (Kp.of_below (S := fun _ => False) hb1) (fun _ _ _ f => f); have HR1 : Hid (w1.ownsRow 0 3 1 (.slice (some ⟨g, 0, none⟩) (ks.length + 3) cap) (ks.length + 3) ((ks ++ marks3).map encI)) := hr1; have hg0 : recolor own w 0 g = 0 := recolor_new (by omega); have hgl : g < w1.heap.size := (World.ownsRow.lt hr1 g rfl).2; have HB1 : Hid (Below w.heap.size w w1) := hbw1; clear hb1 hbw1 hr1; unfold ptrB at *)
   | (go_at_call 17; refine (xCrash_any rs[i].bx rs[i].dx (some ⟨g, 0, none⟩) cap ks (fun k => recolor own w 0 k = 4 + 3 * i) w1 HD1.out.x HD1.out.okx (Nat.le_trans HD1.out.lx (by omega)) (by omega) (intp_row HR1.out) (fun a ha _ e => by cases ha; have e' : recolor own w 0 g = 4 + 3 * i := e; omega)).mono ?_; rintro e w2 ⟨rfl, hX2, kp2⟩; clear k0 k1 k2 o0 o7; have HX2 : Hid (XAt w2 (Nw (fun k => recolor own w 0 k = 4 + 3 * i) w1) rs[i].bx (rs[i].dx.crash ks)) := hX2; have HP2 : Hid (Kp (fun k => recolor own w 0 k = 4 + 3 * i) w1 w2) := kp2; have HR2 : Hid (w2.ownsRow 0 3 1 (.slice (some ⟨g, 0, none⟩) (ks.length + 3) cap) (ks.length + 3) ((ks ++ marks3).map encI)) := kp2.row HR1.out (fun g' hg' e => by cases hg'; have e' : recolor own w 0 g = 4 + 3 * i := e; omega); have HK2 : Hid (Intp w2 q ks) := HK1.out.kept kp2 (fun a ha h0 e => by have e1 := hq1 a ha h0; have e' : recolor own w 0 a.block = 4 + 3 * i := e; rw [recolor_old e1.2] at e'; omega); have HDB2 := kp2.at HD1.out.blk (fun e => by have := HD1.out.ck; omega); have HOB2 := kp2.at HOb1.out (fun e => by have e' : recolor own w 0 w.heap.size = 4 + 3 * i := e; rw [recolor_new (Nat.le_refl _)] at e'; omega); obtain ⟨k0, k1, k2, -, -, -⟩ := cells3 HDB2; obtain ⟨o0, -, -, -, o7⟩ := cells9 HOB2; have HY2 : Hid (RefAt w2 (fun k => recolor (recolor own w 0) w1 (4 + 3 * i) k = 5 + 3 * i) rs[i].bY rs[i].dy) := HD1.out.y.recolor kp2 (by omega); have hs2 := kp2.size; clear hX2 kp2; unfold ptrB at *)
   | (go_at_call 94; refine (stillInts_any g cap q qc ks w2 hkl HK2.out (fun a ha h0 e => by have e1 := (hq1 a ha h0).2; omega) HR2.out).mono ?_; rintro e w3 ⟨rfl, kp3⟩; clear k0 k1 k2 o0 o7; have HP3 : Hid (Kp (fun k => k = g) w2 w3) := kp3; have HK3 : Hid (Intp w3 q ks) := HK2.out.kept kp3 (fun a ha h0 e => by have e1 := (hq1 a ha h0).2; have e' : a.block = g := e; omega); obtain ⟨k0, k1, k2, -, -, -⟩ := cells3 (kp3.at HDB2 (fun e => by have e1 := HD1.out.ck; rw [e] at e1; omega)); obtain ⟨o0, -, -, -, o7⟩ := cells9 (kp3.at HOB2 (fun e => by omega)); have HY3 : Hid (RefAt w3 (fun k => recolor (recolor (recolor own w 0) w1 (4 + 3 * i)) w2 0 k = 5 + 3 * i) rs[i].bY rs[i].dy) := HY2.out.recolor (kp3.mono (T := fun k => recolor (recolor own w 0) w1 (4 + 3 * i) k = 0) (fun k e => by subst e; rw [recolor_old hgl, hg0])) (by omega); have hs3 := kp3.size; clear kp3 HDB2 HOB2))
 have hyw := yCrash_any rs[i].bY rs[i].dy q qc ks (fun k => recolor (recolor (recolor own w 0) w1 (4 + 3 * i)) w2 0 k = 5 + 3 * i) w3.drew HY3.out HD1.out.oky (Nat.le_trans HD1.out.ly (by omega)) (by omega) (HK3.out) (fun a ha h0 e => by have e1 := hq1 a ha h0; have e2 := HB1.out.size; have e' : recolor (recolor (recolor own w 0) w1 (4 + 3 * i)) w2 0 a.block = 5 + 3 * i := e; rw [recolor_old (by omega), recolor_old (by omega), recolor_old e1.2] at e'; omega)
 go_still_tail 6, mixedT
 go_wp2_with (go_at_call 95; refine hyw.mono ?_; rintro e w4 ⟨rfl, hY4, kp4⟩)
 go_ret
 have hwo := crash_ok HD1.out.oky ks
 have hX := HX2.out
 rw [hxy] at hX
 exact ⟨rfl, xy_close2 HH.out hsy HB1.out i hi hkn HP2.out hX g (by omega) hgl HP3.out kp4.undrew hY4 hwo.1 (fits_crash HD1.out hxy hN ks (Nat.le_trans hwo.2 (by have := HD1.out.ly; omega)))⟩
end Go.Proofs.YtfghgmojnffgnaaGreat.M
namespace Go.Proofs.YtfghgmojnffgnaaGreat
open Go.RowKit Go.Maps Go.Sort
def spareN : Nm := [115, 112, 97, 114, 101]
def roomN : Nm := [114, 111, 111, 109]
def markO : Ox := ⟨spareN, roomN, true⟩
theorem ret_mark {R : Ending -> World -> Prop} {tm : Array Value} {W : World} {bb : Nat} {a b c : Value} (h2 : tm[0]? = some (.pointer (some ⟨bb, 0, none⟩))) (hb : W.heap[bb]? = some (.cells #[a, b, c] 121))
   (hR : R (.returned (.agg #[a, b, c])) W) : bodyPost Tryz.prog Tryz.f173 R Exit.ret { tmps := tm, defers := [] } W := by
 obtain ⟨c0, c1, c2, _⟩ := cells3 hb
 refine bodyPost_ret (v := .agg #[a, b, c]) ?_ rfl hR
 have hf : Tryz.f173.results = #[.cell 0 121] := rfl
 simp only [results, hf]
 simp [Sem.run_bind, Result.andThen, h2, asAddr, loadVar, go_sem, c0, c1, c2]
theorem marked_any (w : World) : Calls Tryz.prog 173 #[] w fun e w' => e = .returned (aggOp markO) /\ Below w.heap.size w w' := by
 go_enter Tryz.func173, Tryz.ntmps173
 go_wp2
 refine ret_mark (a := str spareN) (b := str roomN) (c := .bool true) rfl ?_ ⟨rfl, ?_⟩
 . exact block_new w _
 . exact (Below.refl _ _).alloc (Nat.le_refl _) _
theorem flatO_append (a b : List Ox) : flatO (a ++ b) = flatO a ++ flatO b := by simp [flatO]
theorem Opp.at {w : World} {a : Addr} {l : List Ox} (h : Opp w (some a) l) : ∀ j u, (flatO l)[j]? = some u -> w.cell? (a.add j) = some u := by
 intro j u hu
 have hlt : j < (flatO l).length := (List.getElem?_eq_some_iff.1 hu).1
 rw [flatO_len] at hlt
 have hi : j / 3 < l.length := by omega
 obtain ⟨g, off, e, c0, c1, c2⟩ := h (j / 3) hi
 obtain ⟨k0, k1, k2⟩ := flatO_at l (j / 3) hi
 cases e
 rw [Addr.add_lit]
 rcases (by omega : j % 3 = 0 \/ j % 3 = 1 \/ j % 3 = 2) with hr | hr | hr
 . have e : j = j / 3 * 3 := by omega
   rw [<- e] at k0 c0
   rw [k0] at hu
   rw [<- hu]; exact c0
 . have e : j = j / 3 * 3 + 1 := by omega
   rw [<- e] at k1
   rw [Nat.add_assoc, <- e] at c1
   rw [k1] at hu
   rw [<- hu]; exact c1
 . have e : j = j / 3 * 3 + 2 := by omega
   rw [<- e] at k2
   rw [Nat.add_assoc, <- e] at c2
   rw [k2] at hu
   rw [<- hu]; exact c2
theorem flatO_one (l : List Ox) : ∀ u ∈ flatO l, u.oneCell' = true := by
 intro u hu
 obtain ⟨o, _, ho⟩ := List.mem_flatMap.1 hu
 simp only [List.mem_cons, List.not_mem_nil, or_false] at ho
 rcases ho with rfl | rfl | rfl <;> rfl
def marksO : List Ox := [markO, markO, markO]
theorem nine_at (w : World) (a b c : Value) (t : TypeId) (n : Nat) (hn : n = w.heap.size) : ∀ i u, [a, b, c, a, b, c, a, b, c][i]? = some u -> (w.alloc (.cells #[a, b, c, a, b, c, a, b, c] t)).cell? ((⟨n, 0, none⟩ : Addr).add i) = some u := by
 subst hn
 intro i u hu
 rw [Addr.add_lit, Nat.zero_add, cell_block (block_new w _)]
 simpa using hu
theorem given_any (q : Option Addr) (qc : Nat) (l : List Ox) (w : World) (hl : l.length <= 4194304) (hp : Opp w q l) (hq0 : q = none -> l = [] /\ qc = 0) :
   Calls Tryz.prog 138 #[.slice q l.length qc] w fun e w' => ∃ g cap, e = .returned (.slice (some ⟨g, 0, none⟩) l.length cap) /\ Below w.heap.size w w' /\ w.heap.size <= g /\ OwnO w' 0 (.slice (some ⟨g, 0, none⟩) (l.length + 3) cap) (l ++ marksO) := by
 obtain ⟨i0, hi0, hz0, hz1, hz2⟩ := info_parts Tryz.info121
 have hma := marked_any
 cases q with
 | none =>
   obtain ⟨rfl, rfl⟩ := hq0 rfl
   clear hp hq0
   go_enter Tryz.func138, Tryz.ntmps138
   go_wp2_with (first
     | (go_at_call 173; refine (hma _).mono ?_; rintro e w0 ⟨rfl, hb0⟩; have hs0 := hb0.size; unfold aggOp markO)
     | (at_builtin; refine wpList_append_own _ rfl (.tmp 9) (.tmp 13) 65 rfl w.heap.size 121 i0 _ 3 40 Tryz.underlying65 hi0 hz0 hz1 hz2 rfl (by decide) _ _ _ rfl (World.ownsRow_nil _ _ _ _) ⟨w0.heap.size + 1, 0, none⟩ 3 3 [str spareN, str roomN, .bool true, str spareN, str roomN, .bool true, str spareN, str roomN, .bool true] rfl rfl (by exact nine_at _ _ _ _ _ _ (by simp)) (fun u hu => flatO_one marksO u hu) (by unfold maxLen; omega) (by omega) (by simp; try omega) ?_; intro v1 w1 hown1 hgrow1 _; obtain ⟨g1, cap1, rfl, hg1, hc1, hc2⟩ := row_pos hown1 (by omega); unfold maxLen at hc2)
     | go_in)
   go_ret
   refine ⟨g1, cap1, rfl, ((hb0.alloc hs0 _).alloc (by simp; omega) _).grown hgrow1 (by simp; omega) (fun k hk => by cases hk), hg1, ?_⟩
   exact ownsRow_base hown1 (Nat.zero_le _)
 | some a =>
   clear hq0
   have hks : (flatO l).length = l.length * 3 := flatO_len l
   go_enter Tryz.func138, Tryz.ntmps138
   go_wp2_with (first
     | (at_builtin; (refine wpList_append_own _ rfl (.tmp 5) (.tmp 6) 65 rfl w.heap.size 121 i0 _ 3 40 Tryz.underlying65 hi0 hz0 hz1 hz2 rfl (by decide) _ _ _ rfl (World.ownsRow_nil _ _ _ _) a l.length qc (flatO l) rfl hks hp.at (flatO_one l) (by unfold maxLen; omega) (by omega) (Nat.le_refl _) ?_); intro v0 w8 hown0 hgrow0 _; simp only [Nat.zero_add, List.nil_append] at hown0; have hbl0 : Below w.heap.size w w8 := (Below.refl _ _).grown hgrow0 (Nat.le_refl _) (fun k hk => by cases hk); have hs8 := hbl0.size; obtain ⟨q8, c8, rfl, hp8, -⟩ := OwnO.opp (w := w8) (base := w.heap.size) (v := v0) (l := l) hown0)
     | (go_at_call 173; refine (hma _).mono ?_; rintro e w0 ⟨rfl, hb0⟩; have hs0 := hb0.size; unfold aggOp markO; have hown9 : OwnO w0 w.heap.size (.slice q8 l.length c8) l := (Kp.of_below (S := fun _ => False) hb0).row hown0 (fun _ _ f => f))
     | (at_builtin; refine wpList_append_own _ rfl (.tmp 9) (.tmp 13) 65 rfl w.heap.size 121 i0 _ 3 40 Tryz.underlying65 hi0 hz0 hz1 hz2 rfl (by decide) _ _ _ rfl (World.ownsRow.alloc (World.ownsRow.alloc hown9 _) _) ⟨w0.heap.size + 1, 0, none⟩ 3 3 [str spareN, str roomN, .bool true, str spareN, str roomN, .bool true, str spareN, str roomN, .bool true] rfl rfl (by exact nine_at _ _ _ _ _ _ (by simp)) (fun u hu => flatO_one marksO u hu) (by unfold maxLen; omega) (by omega) (by simp; try omega) ?_; intro v1 w1 hown1 hgrow1 _; obtain ⟨g1, cap1, rfl, hg1, hc1, hc2⟩ := row_pos hown1 (by omega); unfold maxLen at hc2)
     | go_in)
   go_ret
   refine ⟨g1, cap1, rfl, (((hbl0.trans (hb0.mono hs8)).alloc (by omega) _).alloc (by simp; omega) _).grown hgrow1 (by simp; omega) (fun k hk => (World.ownsRow.lt hown0 k hk).1), hg1, ?_⟩
   show World.ownsRow _ _ _ _ _ (l ++ marksO).length _
   rw [flatO_append, List.length_append]
   exact ownsRow_base hown1 (Nat.zero_le _)
end Go.Proofs.YtfghgmojnffgnaaGreat
