/- The statement: plain: Names of a disk that lives. -/
import Derived.Test.YtoabedkcieindaaGreatDoorLawK
namespace Go.Proofs.YtoabedkcieindaaGreatDoor
open Go.RowKit Go.Maps Go.Sort

set_option maxHeartbeats 1000000 in
set_option maxRecDepth 20000 in
theorem plain_names_alive {w : World} {own : Nat → Nat} {bW N : Nat} {rs : List DR} {ts : List TX} {nxt : Nat} {vd vt vm : Value} (h : Inv w own bW N rs ts nxt vd vt vm) (i : Nat) (hi : i < rs.length) (hdead : rs[i].dx.dead = false) (hsy : ∀ r ∈ rs, r.dx = r.dy) (hN : N ≤ 4194300) (hts : ts.length ≤ 16777216) (hnx : nxt ≤ 1099511627770)
    (S T : List UInt8) (D A B ops L old : Value) :
    Calls Tryz.prog 50 #[ptrB bW, ptrB rs[i].bk, .agg #[.int .i64 8, D, A, B, .string ⟨S.toArray⟩, .string ⟨T.toArray⟩, ops, L, old]] w fun e w' => e = .returned (.bool true) ∧ Step w own bW N rs ts nxt w' := by
  have hxy := hsy _ (List.getElem_mem hi)
  obtain ⟨w0, hw0⟩ : ∃ w0, w0 = w.alloc (Obj.cells #[.int .i64 8, D, A, B, .string ⟨S.toArray⟩, .string ⟨T.toArray⟩, ops, L, old] 107) := ⟨_, rfl⟩
  have h0 := h.quiet ((Kp.refl (fun k => own k = 0) w).alloc (Obj.cells #[.int .i64 8, D, A, B, .string ⟨S.toArray⟩, .string ⟨T.toArray⟩, ops, L, old] 107))
  have hbw : Below w.heap.size w w0 := by rw [hw0]; exact (Below.refl _ _).alloc (Nat.le_refl _) _
  rw [← hw0] at h0
  obtain ⟨own0, ho0⟩ : ∃ own0, own0 = recolor own w 0 := ⟨_, rfl⟩
  rw [← ho0] at h0
  have d0 := h0.disk i hi
  have q := d0.blk
  rw [hw0] at q
  obtain ⟨k0, k1, k2, -, -, -⟩ := cells3 q
  clear q
  have HW : Hid (w0 = w.alloc (Obj.cells #[.int .i64 8, D, A, B, .string ⟨S.toArray⟩, .string ⟨T.toArray⟩, ops, L, old] 107)) := hw0
  have HD : Hid (DiskAt w0 own0 N i rs[i]) := d0
  have HH : Hid (Inv w own bW N rs ts nxt vd vt vm) := h
  clear d0 h0 h hw0
  have hxw : ∀ w', Sm w0 w' → _ := fun w' e => (xNames_any rs[i].bx rs[i].dx (fun k => own0 k = 4 + 3 * i) w' (HD.out.x.sm e) HD.out.okx (Nat.le_trans HD.out.lx (by omega)) hdead)
  have hyw : ∀ w', Below w0.heap.size w0 w' → _ := fun w' e => (yNames_any rs[i].bY rs[i].dy (fun k => own0 k = 5 + 3 * i) w' (HD.out.y.kept (Kp.of_below (S := fun _ => False) e) (fun _ _ f => f)) (Nat.le_trans HD.out.ly (by omega)) (hxy ▸ hdead))
  have hnl : (nmsOf rs[i].dy.files).length ≤ 4194304 := by have := HD.out.ly; simp only [nmsOf, List.length_map]; omega
  rw [hxy] at hxw
  generalize hNL : nmsOf rs[i].dy.files = NL at *
  have hdl := lt_of_block HD.out.blk
  have hdb := HD.out.blk
  have hot : ∀ w' v, Below w.heap.size w w' → OwnS w' w.heap.size v NL → _ := fun w' v e hv => names_close HH.out hsy hts hnx e v NL hv (Nat.le_trans hnl (by decide))
  have hs0 := hbw.size
  clear hNL
  unfold ptrB at *
  go_enter Tryz.func50, Tryz.ntmps50
  go_wp2_with (first
    | (go_at_call 45; refine (hxw _ (by rw [HW.out]; simp)).mono ?_; rintro e w1 ⟨v1, rfl, hb1, hv1⟩; rw [← HW.out] at hb1 hv1; clear hxw k0 k1 k2; obtain ⟨k0, k1, k2, -, -, -⟩ := cells3 (block_at2 hdb hb1); replace hyw := hyw w1 hb1; have HV1 : Hid (OwnS w1 w0.heap.size v1 NL) := hv1; have HB1 : Hid (Below w0.heap.size w0 w1) := hb1; clear hb1 hv1; obtain ⟨a1, c1, rfl, -⟩ := ownS_shape HV1.out)
    | (go_at_call 88; refine hyw.mono ?_; rintro e w2 ⟨v2, rfl, hb2, hv2⟩; clear hyw; have HB2 : Hid (Below w1.heap.size w1 w2) := hb2; have HV2 : Hid (OwnS w2 w1.heap.size v2 NL) := hv2; have HV3 : Hid (OwnS w2 w0.heap.size (.slice a1 NL.length c1) NL) := HV1.out.below hb2; clear hb2 hv2; obtain ⟨a2, c2, rfl, -⟩ := ownS_shape HV2.out)
    | (go_at_call 89; refine (sameTexts_any a1 a2 c1 c2 NL w2 hnl HV3.out.strp HV2.out.strp).mono ?_; rintro e w3 ⟨rfl, n, hw3⟩; replace hot := hot w3 (.slice a1 NL.length c1) (by rw [hw3]; exact (hbw.trans ((HB1.out.mono hs0).trans (HB2.out.mono (Nat.le_trans hs0 HB1.out.size)))).trans (Sm.drewN _ _).belowB) (by rw [hw3]; exact ownsRow_base (HV3.out.below (Sm.drewN _ _).belowB) hs0); clear hw3)
    | (go_at_call 90; refine hot.mono ?_; rintro e w4 ⟨rfl, hstep⟩; clear hot)
    | (go_at_call 78; refine (num_eq _ _).mono ?_; rintro e w9 ⟨rfl, rfl⟩))
  go_ret
  exact ⟨by first | rfl | simp | exact ret_bool (by simp), hstep⟩

end Go.Proofs.YtoabedkcieindaaGreatDoor
