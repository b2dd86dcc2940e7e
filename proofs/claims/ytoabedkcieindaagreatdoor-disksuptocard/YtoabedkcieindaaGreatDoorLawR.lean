/- The row: a script among the arguments, opened; the statement. -/
import Derived.Test.YtoabedkcieindaaGreatDoorLawQ
import Derived.ProofKit
import Derived.OpenShut
import Derived.JoinedCond
import Derived.Deep.Slices
namespace Go.Proofs.YtoabedkcieindaaGreatDoor
open Go.ChangeShapes Go.WideShapes Go.ChangeAt Go.RowKit

/-- What a list holds is counted: so many values, and each at least once. -/
theorem bulk_list {H : Type} : ∀ l : List (DataW H), l.length ≤ Rows.uptoBulkAll l ∧ ∀ d ∈ l, Rows.uptoBulk d ≤ Rows.uptoBulkAll l
  | [] => ⟨Nat.zero_le _, fun _ h => by cases h⟩
  | x :: r => by
    obtain ⟨h1, h2⟩ := bulk_list r
    have hx : 0 < Rows.uptoBulk x := by
      rcases x with (_ | _) | _ | _ | _ | _ | _ | _ | _ <;> simp [Rows.uptoBulk]
    refine ⟨by simp only [Rows.uptoBulkAll, List.length_cons]; omega, fun d hd => ?_⟩
    rcases List.mem_cons.1 hd with rfl | hd
    · simp only [Rows.uptoBulkAll]; omega
    · have := h2 d hd
      simp only [Rows.uptoBulkAll]; omega

theorem Tryz.cells107 : Tryz.prog.cellsOf 107 = 9 := by kernel_rfl
theorem Tryz.cells3 : Tryz.prog.cellsOf 3 = 1 := by kernel_rfl
theorem Tryz.cells9 : Tryz.prog.cellsOf 9 = 1 := by kernel_rfl
theorem Tryz.cells27 : Tryz.prog.cellsOf 27 = 1 := by kernel_rfl
theorem Tryz.laidOut : laidOutB Tryz.prog = true := by kernel_rfl
theorem Tryz.own : ownKnob Tryz.prog.godebug = none := by kernel_rfl

section
variable {H : Type} {enc : TypeId × Value → H}

theorem list_op {W : World} {n : Nat} {c : Value} {x : DataW H × List MemPlace} (h : DataW.trod enc Tryz.prog W 0 (fun _ => true) true n 27 [c] = some x) :
    ∃ q qc ks, c = .slice q (ks : List Int).length qc ∧ ks.length ≤ Rows.uptoBulk x.1 ∧ Intp W q ks ∧ (q = none → ks = [] ∧ qc = 0) ∧ ∀ a, q = some a → 0 < ks.length → a.block < W.heap.size := by
  rcases open_ints Tryz.underlying27 Tryz.underlying3 Tryz.cells3 h with ⟨hcs, hx⟩ | ⟨a, len, cap, zs, hcs, _, hl, hm, hz, hx, hcell, hwz⟩
  · simp at hcs
    subst hcs
    exact ⟨none, 0, [], rfl, Nat.zero_le _, fun i hi => absurd hi (Nat.not_lt_zero _), fun _ => ⟨rfl, rfl⟩, fun a ha => (by cases ha)⟩
  · simp at hcs
    subst hcs
    simp only [if_true] at hz
    have hlen : (zs.take len).length = len := by simp; omega
    have hsp : 0 < len → a.spot = none ∧ a.block < W.heap.size := fun h0 => by
      have hc := hcell 0 (by omega)
      have e0 : a.add 0 = a := by simp [Addr.add]
      rw [e0] at hc
      exact ⟨World.cell?_spot hc, World.block_lt_of_cell? W a hc⟩
    refine ⟨some a, cap, zs.take len, by rw [hlen], ?_, ?_, fun e => (by cases e), fun b hb h0 => ?_⟩
    · rw [hx, hlen]
      have := (bulk_list (lits (H := H) .i64 (zs.take len))).1
      simp only [Rows.uptoBulk]
      simp only [lits, List.length_map, hlen] at this
      simp only [lits] at this ⊢
      omega
    · intro i hi
      rw [hlen] at hi
      obtain ⟨g, off, sp⟩ := a
      obtain rfl : sp = none := (hsp (by omega)).1
      refine ⟨g, off, rfl, ?_⟩
      have hc := hcell i (by omega)
      rw [Addr.add_lit] at hc
      rw [hc]
      simp [List.getD, List.getElem?_eq_getElem (show i < zs.length by omega)]
    · cases hb
      rw [hlen] at h0
      exact (hsp h0).2

set_option maxRecDepth 20000 in
theorem op_open {W : World} {a' : Addr} {n : Nat} {cs : List Value} {d : DataW H} {pl : List MemPlace} (hc : W.cells? 0 a' 9 = some cs) (h : DataW.trod enc Tryz.prog W 0 (fun _ => true) true n 107 cs = some (d, pl)) :
    ∃ o : OpV, (∀ j (hj : j < o.cells.size), W.cell? (a'.add j) = some o.cells[j]) ∧ (Rows.uptoBulk d ≤ 1048576 → OpOk W (fun _ => 0) o) := by
  obtain ⟨xs, n', rfl, hx, hcl, hxl, hf⟩ := DataW.trod_struct Tryz.underlying107 h
  obtain ⟨_, _, hcell⟩ := World.cells?_some hc
  rw [Tryz.cells107] at hcl
  match cs, hcl, hcell with
  | [c0, c1, c2, c3, c4, c5, c6, c7, c8], _, hcell =>
    match xs, hxl with
    | [x0, x1, x2, x3, x4, x5, x6, x7, x8], _ =>
      have f0 : DataW.trod enc Tryz.prog W 0 (fun _ => true) true n' 3 (([c0, c1, c2, c3, c4, c5, c6, c7, c8].drop 0).take (Tryz.prog.cellsOf 3)) = some x0 := hf 0 _ rfl
      rw [Tryz.cells3] at f0
      replace f0 : DataW.trod enc Tryz.prog W 0 (fun _ => true) true n' 3 [c0] = some x0 := f0
      have f1 : DataW.trod enc Tryz.prog W 0 (fun _ => true) true n' 3 (([c0, c1, c2, c3, c4, c5, c6, c7, c8].drop 1).take (Tryz.prog.cellsOf 3)) = some x1 := hf 1 _ rfl
      rw [Tryz.cells3] at f1
      replace f1 : DataW.trod enc Tryz.prog W 0 (fun _ => true) true n' 3 [c1] = some x1 := f1
      have f2 : DataW.trod enc Tryz.prog W 0 (fun _ => true) true n' 3 (([c0, c1, c2, c3, c4, c5, c6, c7, c8].drop 2).take (Tryz.prog.cellsOf 3)) = some x2 := hf 2 _ rfl
      rw [Tryz.cells3] at f2
      replace f2 : DataW.trod enc Tryz.prog W 0 (fun _ => true) true n' 3 [c2] = some x2 := f2
      have f4 : DataW.trod enc Tryz.prog W 0 (fun _ => true) true n' 9 (([c0, c1, c2, c3, c4, c5, c6, c7, c8].drop 4).take (Tryz.prog.cellsOf 9)) = some x4 := hf 4 _ rfl
      rw [Tryz.cells9] at f4
      replace f4 : DataW.trod enc Tryz.prog W 0 (fun _ => true) true n' 9 [c4] = some x4 := f4
      have f5 : DataW.trod enc Tryz.prog W 0 (fun _ => true) true n' 9 (([c0, c1, c2, c3, c4, c5, c6, c7, c8].drop 5).take (Tryz.prog.cellsOf 9)) = some x5 := hf 5 _ rfl
      rw [Tryz.cells9] at f5
      replace f5 : DataW.trod enc Tryz.prog W 0 (fun _ => true) true n' 9 [c5] = some x5 := f5
      have f7 : DataW.trod enc Tryz.prog W 0 (fun _ => true) true n' 27 (([c0, c1, c2, c3, c4, c5, c6, c7, c8].drop 7).take (Tryz.prog.cellsOf 27)) = some x7 := hf 7 _ rfl
      rw [Tryz.cells27] at f7
      replace f7 : DataW.trod enc Tryz.prog W 0 (fun _ => true) true n' 27 [c7] = some x7 := f7
      obtain ⟨K, e0, _, _⟩ := DataW.trod_int Tryz.underlying3 f0
      obtain ⟨D, e1, _, w1⟩ := DataW.trod_int Tryz.underlying3 f1
      obtain ⟨A, e2, _, w2⟩ := DataW.trod_int Tryz.underlying3 f2
      obtain ⟨s, e4, y4, _⟩ := DataW.trod_string Tryz.underlying9 f4
      obtain ⟨t, e5, y5, _⟩ := DataW.trod_string Tryz.underlying9 f5
      obtain ⟨q, qc, ks, e7, b7, i7, z7, q7⟩ := list_op f7
      simp only [List.cons.injEq, and_true] at e0 e1 e2 e4 e5
      subst e0 e1 e2 e4 e5 e7
      have hd : d = .agg [x0.1, x1.1, x2.1, x3.1, x4.1, x5.1, x6.1, x7.1, x8.1] := (Prod.mk.inj hx).1
      refine ⟨⟨K, D, A, c3, s.data.toList, t.data.toList, c6, q, qc, ks, c8⟩, ?_, fun hb => ?_⟩
      · intro j hj
        have hj9 : j < 9 := by simpa [OpV.cells] using hj
        rw [hcell j hj9]
        rcases (by omega : j = 0 ∨ j = 1 ∨ j = 2 ∨ j = 3 ∨ j = 4 ∨ j = 5 ∨ j = 6 ∨ j = 7 ∨ j = 8) with rfl | rfl | rfl | rfl | rfl | rfl | rfl | rfl | rfl <;> simp [OpV.cells]
      · subst hd
        rw [y4, y5] at hb
        simp only [Rows.uptoBulk, Rows.uptoBulkAll] at hb
        exact ⟨(bounds_i64 w1).1, (bounds_i64 w1).2, (bounds_i64 w2).2, by simp only; omega, by simp only; omega, by simp only; omega, i7, z7, fun a ha h0 => ⟨rfl, q7 a ha h0⟩⟩

end
end Go.Proofs.YtoabedkcieindaaGreatDoor
