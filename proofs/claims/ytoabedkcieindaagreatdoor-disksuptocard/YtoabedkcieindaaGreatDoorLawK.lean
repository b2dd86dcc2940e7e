/- The statement: plain: Names. -/
import Derived.Test.YtoabedkcieindaaGreatDoorLawJ
namespace Go.Proofs.YtoabedkcieindaaGreatDoor
open Go.RowKit Go.Maps Go.Sort
attribute [local go_sem ↓] Go.wp_at_zero Go.wp_at_succ

theorem Sm.refl (w : World) : Sm w w := Sm.rfl' w
theorem Sm.drewN (w : World) (n : Nat) : Sm w (w.drewN n) := ⟨⟨rfl, rfl, rfl, Nat.le_refl _, fun _ _ _ => rfl⟩, rfl⟩
theorem Sm.belowB {w w' : World} {B : Nat} (h : Sm w w') : Below B w w' := ⟨h.1.os, h.1.tape, h.1.output, h.1.size, fun k _ => by
  rcases Nat.lt_or_ge k w.heap.size with hk | hk
  · exact h.1.block k hk (fun f => f)
  · rw [Array.getElem?_eq_none hk, Array.getElem?_eq_none (by rw [h.2]; exact hk)]⟩
theorem OwnS.below {w w' : World} {base : Nat} {v : Value} {l : List (List UInt8)} (h : OwnS w base v l) (hb : Below w.heap.size w w') : OwnS w' base v l := ownsRow_of_block h (fun g hg => hb.block g (World.ownsRow.lt h g hg).2)
theorem OwnS.strp {w : World} {base : Nat} {a : Option Addr} {n cap : Nat} {l : List (List UInt8)} (h : OwnS w base (.slice a n cap) l) : Strp w a l := by
  obtain ⟨a', cap', e, hc⟩ := ownS_shape h
  cases e
  exact fun i hi => let ⟨g, h1, _, h3⟩ := hc i hi; ⟨g, h1, h3⟩

/-- A list of names has come out, and is its owner's. -/
theorem names_close {w w3 : World} {own : Nat → Nat} {bW N : Nat} {rs : List DR} {ts : List TX} {nxt : Nat} {vd vt vm : Value} (h : Inv w own bW N rs ts nxt vd vt vm) (hs : ∀ r ∈ rs, r.dx = r.dy) (hts : ts.length ≤ 16777216) (hnx : nxt ≤ 1099511627770)
    (k0 : Below w.heap.size w w3) (vl : Value) (L : List (List UInt8)) (hL : OwnS w3 w.heap.size vl L) (hLl : L.length ≤ 4194310) :
    Calls Tryz.prog 90 #[ptrB bW, vl] w3 fun e w' => e = .returned (.tuple #[]) ∧ Step w own bW N rs ts nxt w' := by
  have h3 := h.quiet (Kp.of_below k0)
  have hge : ∀ g, vl.ownBlock = some g → w.heap.size ≤ g := fun g hg => (World.ownsRow.lt hL g hg).1
  refine (ownTexts_any h3 hts hnx vl L (fun g hg => recolor_new (hge g hg)) (ownsRow_base hL (Nat.zero_le _)) hLl).mono ?_
  rintro e w' ⟨rfl, kp, us, vt', vm', hu, hI⟩
  refine ⟨rfl, ?_, _, _, _, _, _, _, _, hI.more (Nat.le_succ _), fun k hk => ?_, ⟨Nat.le_refl _, Nat.le_succ _⟩, hs, by simp [hu], Nat.le_refl _⟩
  · refine (Kp.of_below k0).trans kp (fun k hk e => ?_)
    rcases e with e | e
    · rw [recolor_old hk] at e; omega
    · have := hge k e; omega
  · have hlt := Nat.lt_of_lt_of_le hk k0.size
    unfold ownT
    rw [if_pos hlt, if_neg (fun e => by have := hge k e; omega), recolor_old hk]

set_option maxHeartbeats 1000000 in
set_option maxRecDepth 20000 in
theorem plain_names_dead {w : World} {own : Nat → Nat} {bW N : Nat} {rs : List DR} {ts : List TX} {nxt : Nat} {vd vt vm : Value} (h : Inv w own bW N rs ts nxt vd vt vm) (i : Nat) (hi : i < rs.length) (hdead : rs[i].dx.dead = true) (hsy : ∀ r ∈ rs, r.dx = r.dy) (hts : ts.length ≤ 16777216) (hnx : nxt ≤ 1099511627770)
    (S T : List UInt8) (D A B ops L old : Value) :
    Calls Tryz.prog 50 #[ptrB bW, ptrB rs[i].bk, .agg #[.int .i64 8, D, A, B, .string ⟨S.toArray⟩, .string ⟨T.toArray⟩, ops, L, old]] w fun e w' => e = .returned (.bool true) ∧ Step w own bW N rs ts nxt w' := by
  have hxy := hsy _ (List.getElem_mem hi)
  obtain ⟨w0, hw0⟩ : ∃ w0, w0 = w.alloc (Obj.cells #[.int .i64 8, D, A, B, .string ⟨S.toArray⟩, .string ⟨T.toArray⟩, ops, L, old] 107) := ⟨_, rfl⟩
  have h0 := h.quiet ((Kp.refl (fun k => own k = 0) w).alloc (Obj.cells #[.int .i64 8, D, A, B, .string ⟨S.toArray⟩, .string ⟨T.toArray⟩, ops, L, old] 107))
  have hbw : Below w.heap.size w w0 := by rw [hw0]; exact (Below.refl _ _).alloc (Nat.le_refl _) _
  rw [← hw0] at h0
  obtain ⟨own0, ho0⟩ : ∃ own0, own0 = recolor own w 0 := ⟨_, rfl⟩
  rw [← ho0] at h0
  have d0 := h0.disk i hi
  have q := d0.blk
  rw [hw0] at q
  obtain ⟨k0, k1, k2, -, -, -⟩ := cells3 q
  clear q
  have HW : Hid (w0 = w.alloc (Obj.cells #[.int .i64 8, D, A, B, .string ⟨S.toArray⟩, .string ⟨T.toArray⟩, ops, L, old] 107)) := hw0
  have HD : Hid (DiskAt w0 own0 N i rs[i]) := d0
  have HH : Hid (Inv w own bW N rs ts nxt vd vt vm) := h
  clear d0 h0 h hw0
  have hxw : ∀ w', Sm w0 w' → _ := fun w' e => (xNames_dead rs[i].bx rs[i].dx (fun k => own0 k = 4 + 3 * i) w' (HD.out.x.sm e) hdead)
  have hyw : ∀ w', Sm w0 w' → _ := fun w' e => (yNames_dead rs[i].bY rs[i].dy (fun k => own0 k = 5 + 3 * i) w' (HD.out.y.sm e) (hxy ▸ hdead))
  have hst : ∀ w', _ := fun w' => sameTexts_any none none 0 0 [] w' (Nat.zero_le _) (fun i hi => absurd hi (Nat.not_lt_zero _)) (fun i hi => absurd hi (Nat.not_lt_zero _))
  have hot : ∀ w', Sm w0 w' → _ := fun w' e => names_close HH.out hsy hts hnx (hbw.trans e.belowB) (.slice none 0 0) [] (World.ownsRow_nil _ _ _ _) (Nat.zero_le _)
  unfold ptrB at *
  go_enter Tryz.func50, Tryz.ntmps50
  go_wp2_with (first
    | (go_at_call 45; refine (hxw _ (by rw [HW.out]; simp)).mono ?_; rintro e w1 ⟨rfl, rfl⟩; clear hxw)
    | (go_at_call 88; refine (hyw _ (by rw [HW.out]; simp)).mono ?_; rintro e w1 ⟨rfl, rfl⟩; clear hyw)
    | (go_at_call 89; refine (hst _).mono ?_; rintro e w1 ⟨rfl, n, hw1⟩; clear hst; replace hot := hot w1 (by rw [hw1, HW.out]; exact Sm.drewN _ _); replace hw1 : Hid (w1 = w1) := rfl)
    | (go_at_call 90; refine hot.mono ?_; rintro e w2 ⟨rfl, hstep⟩; clear hot)
    | (go_at_call 78; refine (num_eq _ _).mono ?_; rintro e w9 ⟨rfl, rfl⟩))
  go_ret
  exact ⟨by first | rfl | simp | exact ret_bool (by simp), hstep⟩

end Go.Proofs.YtoabedkcieindaaGreatDoor
