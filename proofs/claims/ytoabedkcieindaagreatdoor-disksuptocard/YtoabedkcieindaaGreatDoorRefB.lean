/- The document's own disk (strataref): put. -/
import Derived.Test.YtoabedkcieindaaGreatDoorRefA
namespace Go.Proofs.YtoabedkcieindaaGreatDoor
open Go.RowKit

/-- put's own memory: the file that is put lies in the first block. -/
def PutW (w : World) (x : Nm × Fl) (wr : World) : Prop := Below (w.heap.size + 1) (w.alloc (.cells #[.string ⟨x.1.toArray⟩, .string ⟨x.2.bytes.toArray⟩, .int .i64 x.2.safe] 172)) wr
theorem PutW.below {w wr : World} {x : Nm × Fl} (h : PutW w x wr) : Below w.heap.size w wr := ((Below.refl _ w).alloc (Nat.le_refl _) _).trans (Below.mono h (by omega))
theorem PutW.cells {w wr : World} {x : Nm × Fl} (h : PutW w x wr) : wr.cell? ⟨w.heap.size, 0, none⟩ = some (.string ⟨x.1.toArray⟩) ∧ wr.cell? ⟨w.heap.size, 1, none⟩ = some (.string ⟨x.2.bytes.toArray⟩) ∧ wr.cell? ⟨w.heap.size, 2, none⟩ = some (.int .i64 x.2.safe) :=
  ⟨(Below.cell h (p := ⟨w.heap.size, 0, none⟩) (by simp)).trans (by simp), (Below.cell h (p := ⟨w.heap.size, 1, none⟩) (by simp)).trans (by simp), (Below.cell h (p := ⟨w.heap.size, 2, none⟩) (by simp)).trans (by simp)⟩
theorem PutW.size {w wr : World} {x : Nm × Fl} (h : PutW w x wr) : w.heap.size + 1 ≤ wr.heap.size := by have := Below.size h; simpa using this
theorem PutW.app {w wr w1 : World} {x : Nm × Fl} {o : Obj} {v : Value} {t : TypeId} {n : Nat} {xs : List Value} (h : PutW w x wr) (ho : wr.ownsRow (w.heap.size + 1) t 3 v n xs) (hg : (wr.alloc o).grownBy w1 v.ownBlock) : PutW w x w1 :=
  (Below.alloc h h.size _).grown hg (by have := h.size; simp; omega) (fun q hq => (ho.lt q hq).1)
theorem PutW.drewN {w wr : World} {x : Nm × Fl} (h : PutW w x wr) (n : Nat) : PutW w x (wr.drewN n) := Below.trans h ⟨rfl, rfl, rfl, Nat.le_refl _, fun _ _ => rfl⟩
set_option maxHeartbeats 2000000 in
set_option maxRecDepth 20000 in
theorem put_any (p : Option Addr) (cap : Nat) (fs : List (Nm × Fl)) (x : Nm × Fl) (w : World) (hn : fs.length ≤ 4194303) (hp : Rowp w p fs) :
    Calls Tryz.prog 126 #[.slice p fs.length cap, .agg #[.string ⟨x.1.toArray⟩, .string ⟨x.2.bytes.toArray⟩, .int .i64 x.2.safe]] w fun e w' => ∃ v, e = .returned v ∧ Below w.heap.size w w' ∧ w'.ownsRow w.heap.size 172 3 v (ins x fs).length ((ins x fs).flatMap fcells) := by
  obtain ⟨i0, hi, hz0, hz1, hz2⟩ := info_parts Tryz.info172
  go_enter Tryz.func126, Tryz.ntmps126
  go_wp2
  go_loopw [5, 6, 7] (fun v dn i wr => ∃ j : Nat, ∃ st : Bool × List (Nm × Fl), j ≤ fs.length ∧ i = .int .i64 j ∧ dn = .bool st.1 ∧ PutW w x wr ∧ wr.ownsRow (w.heap.size + 1) 172 3 v st.2.length (st.2.flatMap fcells) ∧ st = putK x fs j) (fun _ _ i _ => fs.length - (intOf i).toNat)
  case atStart => exact ⟨0, (false, []), Nat.zero_le _, rfl, rfl, Below.refl _ _, World.ownsRow_nil _ _ _ _, rfl⟩
  case round =>
    obtain ⟨j, ⟨dn, acc⟩, hj, rfl, rfl, hput, hown, hst⟩ := hrel
    have HST : Hid ((dn, acc) = putK x fs j) := hst
    have hll := putK_len x fs j hj
    rw [← hst] at hll
    simp only at hll hown
    clear hst
    have hsz := hput.size
    obtain ⟨x0, x1, x2⟩ := hput.cells
    have HP : Hid (Rowp w p fs) := hp
    by_cases hlt : j < fs.length
    · obtain ⟨g, rfl, e0, e1, e2⟩ := (HP.out.below hput.below) j hlt
      have HS := putK_succ x fs j hlt
      rw [← HST.out] at HS
      have HX : Hid (putK x fs (j + 1) = stepPut x (dn, acc) fs[j]) := HS
      clear HS hp
      cases dn
      · simp only [Bool.false_eq_true, if_false] at hll
        by_cases hbf : bytesBefore x.1 fs[j].1 = true
        · have hbf' : Op.bytesLess x.1 fs[j].1 = true := by rw [less_before]; exact hbf
          have HX2 : Hid (putK x fs (j + 1) = (true, acc ++ [x] ++ [fs[j]])) := by have := HX.out; rw [stepPut_hit _ hbf] at this; simpa [Hid] using this
          go_wp2
          go_quiet (fail)
          generalize hw2 : wr.drewN nq = w2
          have hown2 : w2.ownsRow (w.heap.size + 1) 172 3 u5 acc.length (acc.flatMap fcells) := by subst hw2; exact hown
          have hput2 : PutW w x w2 := by subst hw2; exact hput.drewN nq
          have hsz2 := hput2.size
          obtain ⟨y0, y1, y2⟩ := hput2.cells
          obtain ⟨g2, hg2, f0, f1, f2⟩ := (HP.out.below hput2.below) j hlt
          obtain rfl : g = g2 := by simpa using hg2
          clear x0 x1 x2 e0 e1 e2 hown hput hsz hw2 hg2
          go_wp2_with (first
            | (at_builtin; refine wpList_append_own _ rfl (.tmp 26) (.tmp 28) 166 rfl (w.heap.size + 1) 172 i0 _ 3 40 Tryz.underlying166 hi hz0 hz1 hz2 rfl (by decide) _ _ _ rfl (hown2.alloc _) ⟨w2.heap.size, 0, none⟩ 1 1 (fcells x) rfl rfl (fcells_at _ _ _) (fcells_one _) (by unfold maxLen; omega) (by omega) (by simp; omega) ?_; intro v1 w1 hown1 hgrow1 _; have hput1 : PutW w x w1 := hput2.app hown2 hgrow1; have hsz1 := hput1.size; obtain ⟨g3, hg3, k0, k1, k2⟩ := (HP.out.below hput1.below) j hlt; obtain rfl : g = g3 := (by simpa using hg3); have hown1' := own_snoc hown1; have hl2 : (acc ++ [x]).length ≤ 4194304 := (by simp only [List.length_append, List.length_singleton]; omega); clear y0 y1 y2 f0 f1 f2 hown1 hgrow1 hown2 hput2 hsz2 hg3)
            | (at_builtin; refine wpList_append_own _ rfl (.tmp 30) (.tmp 35) 166 rfl (w.heap.size + 1) 172 i0 _ 3 40 Tryz.underlying166 hi hz0 hz1 hz2 rfl (by decide) _ _ _ rfl (hown1'.alloc _) ⟨w1.heap.size, 0, none⟩ 1 1 (fcells fs[j]) rfl rfl (fcells_at _ _ _) (fcells_one _) (by unfold maxLen; omega) (by omega) (by simp; omega) ?_; intro v3 w3 hown3 hgrow3 _)
            | go_in)
          have hput3 : PutW w x w3 := hput1.app hown1' hgrow3
          have HO3 : Hid (w3.ownsRow (w.heap.size + 1) 172 3 v3 (acc ++ [x] ++ [fs[j]]).length ((acc ++ [x] ++ [fs[j]]).flatMap fcells)) := own_snoc hown3
          clear hown3 hgrow3 hown1' hput1 hsz1 k0 k1 k2
          go_wp2
          go_roundw
          case rel => exact ⟨j + 1, _, by omega, by go_num, rfl, hput3, HO3.out, HX2.out.symm⟩
          case measure => simp [intOf]; omega
        · have hbf' : Op.bytesLess x.1 fs[j].1 = false := by rw [less_before]; simpa using hbf
          have HX2 : Hid (putK x fs (j + 1) = (false, acc ++ [fs[j]])) := by have := HX.out; rw [stepPut_miss _ hbf] at this; exact this
          go_wp2
          go_quiet (fail)
          generalize hw2 : wr.drewN nq = w2
          have hown2 : w2.ownsRow (w.heap.size + 1) 172 3 u5 acc.length (acc.flatMap fcells) := by subst hw2; exact hown
          have hput2 : PutW w x w2 := by subst hw2; exact hput.drewN nq
          have hsz2 := hput2.size
          obtain ⟨y0, y1, y2⟩ := hput2.cells
          obtain ⟨g2, hg2, f0, f1, f2⟩ := (HP.out.below hput2.below) j hlt
          obtain rfl : g = g2 := by simpa using hg2
          clear x0 x1 x2 e0 e1 e2 hown hput hsz hw2 hg2
          go_wp2_with (first
            | (at_builtin; refine wpList_append_own _ rfl (.tmp 30) (.tmp 35) 166 rfl (w.heap.size + 1) 172 i0 _ 3 40 Tryz.underlying166 hi hz0 hz1 hz2 rfl (by decide) _ _ _ rfl (hown2.alloc _) ⟨w2.heap.size, 0, none⟩ 1 1 (fcells fs[j]) rfl rfl (fcells_at _ _ _) (fcells_one _) (by unfold maxLen; omega) (by omega) (by simp; omega) ?_; intro v3 w3 hown3 hgrow3 _)
            | go_in)
          have hput3 : PutW w x w3 := hput2.app hown2 hgrow3
          have HO3 : Hid (w3.ownsRow (w.heap.size + 1) 172 3 v3 (acc ++ [fs[j]]).length ((acc ++ [fs[j]]).flatMap fcells)) := own_snoc hown3
          clear hown3 hgrow3 hown2 hput2 hsz2 y0 y1 y2 f0 f1 f2
          go_wp2
          go_roundw
          case rel => exact ⟨j + 1, _, by omega, by go_num, rfl, hput3, HO3.out, HX2.out.symm⟩
          case measure => simp [intOf]; omega
      · simp only [if_true] at hll
        · have HX2 : Hid (putK x fs (j + 1) = (true, acc ++ [fs[j]])) := by have := HX.out; rw [stepPut_true] at this; exact this
          go_wp2
          go_quiet (fail)
          generalize hw2 : wr.drewN nq = w2
          have hown2 : w2.ownsRow (w.heap.size + 1) 172 3 u5 acc.length (acc.flatMap fcells) := by subst hw2; exact hown
          have hput2 : PutW w x w2 := by subst hw2; exact hput.drewN nq
          have hsz2 := hput2.size
          obtain ⟨y0, y1, y2⟩ := hput2.cells
          obtain ⟨g2, hg2, f0, f1, f2⟩ := (HP.out.below hput2.below) j hlt
          obtain rfl : g = g2 := by simpa using hg2
          clear x0 x1 x2 e0 e1 e2 hown hput hsz hw2 hg2
          go_wp2_with (first
            | (at_builtin; refine wpList_append_own _ rfl (.tmp 30) (.tmp 35) 166 rfl (w.heap.size + 1) 172 i0 _ 3 40 Tryz.underlying166 hi hz0 hz1 hz2 rfl (by decide) _ _ _ rfl (hown2.alloc _) ⟨w2.heap.size, 0, none⟩ 1 1 (fcells fs[j]) rfl rfl (fcells_at _ _ _) (fcells_one _) (by unfold maxLen; omega) (by omega) (by simp; omega) ?_; intro v3 w3 hown3 hgrow3 _)
            | go_in)
          have hput3 : PutW w x w3 := hput2.app hown2 hgrow3
          have HO3 : Hid (w3.ownsRow (w.heap.size + 1) 172 3 v3 (acc ++ [fs[j]]).length ((acc ++ [fs[j]]).flatMap fcells)) := own_snoc hown3
          clear hown3 hgrow3 hown2 hput2 hsz2 y0 y1 y2 f0 f1 f2
          go_wp2
          go_roundw
          case rel => exact ⟨j + 1, _, by omega, by go_num, rfl, hput3, HO3.out, HX2.out.symm⟩
          case measure => simp [intOf]; omega
    · have hje : j = fs.length := by omega
      have HE : Hid (finPut x (dn, acc) = ins x fs) := by have := putK_end x fs; rw [← hje, ← HST.out] at this; exact this
      clear HP hp HST
      cases dn
      · simp only [Bool.false_eq_true, if_false] at hll
        go_wp2_with (first
          | (at_builtin; refine wpList_append_own _ rfl (.tmp 39) (.tmp 41) 166 rfl (w.heap.size + 1) 172 i0 _ 3 40 Tryz.underlying166 hi hz0 hz1 hz2 rfl (by decide) _ _ _ rfl (hown.alloc _) ⟨wr.heap.size, 0, none⟩ 1 1 (fcells x) rfl rfl (fcells_at _ _ _) (fcells_one _) (by unfold maxLen; omega) (by omega) (by simp; omega) ?_; intro v3 w3 hown3 hgrow3 _)
          | go_in)
        have hput3 : PutW w x w3 := hput.app hown hgrow3
        have HO3 : Hid (w3.ownsRow (w.heap.size + 1) 172 3 v3 (acc ++ [x]).length ((acc ++ [x]).flatMap fcells)) := own_snoc hown3
        clear hown3 hgrow3 hown hput hsz x0 x1 x2
        go_wp2
        go_ret
        exact ⟨_, rfl, hput3.below, by rw [← HE.out]; exact ownsRow_base HO3.out (by omega)⟩
      · go_wp2
        go_ret
        exact ⟨_, rfl, hput.below, by rw [← HE.out]; exact ownsRow_base hown (by omega)⟩


end Go.Proofs.YtoabedkcieindaaGreatDoor
