import Derived.Test.YtoabedkcieindabGreatDoorQkBH
import Derived.ProofKit
import Derived.OpenShut
import Derived.JoinedCond
import Derived.Deep.Slices
import Derived.Carry
import Derived.Test.YtoabedkcieindabGreatDoorRows
namespace Go.Proofs.YtoabedkcieindabGreatDoor
open Go.ChangeShapes Go.WideShapes Go.ChangeAt Go.RowKit
theorem Tryz.cellsk103 : Tryz.prog.cellsOf 103 = 3 := by kernel_rfl
theorem Tryz.cellsk31 : Tryz.prog.cellsOf 31 = 4 := by kernel_rfl
theorem Tryz.cellsk3 : Tryz.prog.cellsOf 3 = 1 := by kernel_rfl
theorem Tryz.cellsk4 : Tryz.prog.cellsOf 4 = 1 := by kernel_rfl
theorem Tryz.cellsk9 : Tryz.prog.cellsOf 9 = 1 := by kernel_rfl
theorem Tryz.cellsk29 : Tryz.prog.cellsOf 29 = 1 := by kernel_rfl
theorem Tryz.laidOutK : laidOutB Tryz.prog = true := by kernel_rfl
theorem Tryz.ownK : ownKnob Tryz.prog.godebug = none := by kernel_rfl
theorem abulk_list {H : Type} : ∀ l : List (DataW H), l.length ≤ Rows.uptoBulkAll l ∧ ∀ d ∈ l, Rows.uptoBulk d ≤ Rows.uptoBulkAll l
  | [] => ⟨Nat.zero_le _, fun _ h => by cases h⟩
  | x :: r => by
    obtain ⟨h1, h2⟩ := abulk_list r
    have hx : 0 < Rows.uptoBulk x := by
      rcases x with (_ | _) | _ | _ | _ | _ | _ | _ | _ <;> simp [Rows.uptoBulk]
    refine ⟨by simp only [Rows.uptoBulkAll, List.length_cons]; omega, fun d hd => ?_⟩
    rcases List.mem_cons.1 hd with rfl | hd
    · simp only [Rows.uptoBulkAll]; omega
    · have := h2 d hd
      simp only [Rows.uptoBulkAll]; omega
section
variable {H : Type} {enc : TypeId × Value → H}
set_option maxRecDepth 20000 in
theorem ox_open {W : World} {a' : Addr} {n : Nat} {cs : List Value} {d : DataW H} {pl : List MemPlace} (hc : W.cells? 0 a' 3 = some cs) (h : DataW.trod enc Tryz.prog W 0 (fun _ => true) true n 103 cs = some (d, pl)) :
    ∃ o : Ox, (W.cell? (a'.add 0) = some (str o.key) ∧ W.cell? (a'.add 1) = some (str o.val) ∧ W.cell? (a'.add 2) = some (.bool o.gone)) ∧ (o.key.length ≤ 9223372036854775807 ∧ o.val.length ≤ 9223372036854775807) := by
  obtain ⟨xs, n', rfl, _, hcl, hxl, hf⟩ := DataW.trod_struct Tryz.underlying103 h
  obtain ⟨_, _, hcell⟩ := World.cells?_some hc
  rw [Tryz.cellsk103] at hcl
  match cs, hcl, hcell with
  | [c0, c1, c2], _, hcell =>
    match xs, hxl with
    | [x0, x1, x2], _ =>
      have f0 : DataW.trod enc Tryz.prog W 0 (fun _ => true) true n' 9 (([c0, c1, c2].drop 0).take (Tryz.prog.cellsOf 9)) = some x0 := hf 0 _ rfl
      rw [Tryz.cellsk9] at f0
      replace f0 : DataW.trod enc Tryz.prog W 0 (fun _ => true) true n' 9 [c0] = some x0 := f0
      have f1 : DataW.trod enc Tryz.prog W 0 (fun _ => true) true n' 9 (([c0, c1, c2].drop 1).take (Tryz.prog.cellsOf 9)) = some x1 := hf 1 _ rfl
      rw [Tryz.cellsk9] at f1
      replace f1 : DataW.trod enc Tryz.prog W 0 (fun _ => true) true n' 9 [c1] = some x1 := f1
      have f2 : DataW.trod enc Tryz.prog W 0 (fun _ => true) true n' 4 (([c0, c1, c2].drop 2).take (Tryz.prog.cellsOf 4)) = some x2 := hf 2 _ rfl
      rw [Tryz.cellsk4] at f2
      replace f2 : DataW.trod enc Tryz.prog W 0 (fun _ => true) true n' 4 [c2] = some x2 := f2
      obtain ⟨s, e0, _, y0⟩ := DataW.trod_string Tryz.underlying9 f0
      obtain ⟨t, e1, _, y1⟩ := DataW.trod_string Tryz.underlying9 f1
      obtain ⟨b, e2, _⟩ := DataW.trod_bool Tryz.underlying4 f2
      simp only [List.cons.injEq, and_true] at e0 e1 e2
      subst e0 e1 e2
      refine ⟨⟨s.data.toList, t.data.toList, b⟩, ⟨?_, ?_, ?_⟩, ?_⟩
      · rw [hcell 0 (by omega)]; rfl
      · rw [hcell 1 (by omega)]; rfl
      · rw [hcell 2 (by omega)]; rfl
      · have l1 : s.data.toList.length = s.size := Array.length_toList
        have l2 : t.data.toList.length = t.size := Array.length_toList
        unfold maxLen at y0 y1
        exact ⟨by simp only [l1]; omega, by simp only [l2]; omega⟩
def Ox.nul : Ox := ⟨[], [], false⟩
def DoV.nul : DoV := ⟨0, 0, 0, none, 0, []⟩
theorem ops_open {W : World} {n : Nat} {c : Value} {x : DataW H × List MemPlace} (h : DataW.trod enc Tryz.prog W 0 (fun _ => true) true n 29 [c] = some x) :
    ∃ q qc ops, c = .slice q (ops : List Ox).length qc ∧ (ops.length ≤ 9223372036854775807 ∧ OxBig ops) ∧ Opp W q ops ∧ ∀ a, q = some a → 0 < ops.length → a.block < W.heap.size := by
  rcases Deep.open_slice Tryz.underlying29 h with ⟨hcs, hx⟩ | ⟨a, len, cap, m, n', D, Pl, hcs, _, hl, hm, hmm, hx, hel⟩
  · simp at hcs
    subst hcs
    exact ⟨none, 0, [], rfl, ⟨Nat.zero_le _, fun o ho => by cases ho⟩, fun i hi => absurd hi (Nat.not_lt_zero _), fun a ha => by cases ha⟩
  · simp at hcs
    subst hcs
    simp only [if_true] at hmm
    have hop : ∀ i, i < len → ∃ o : Ox, (W.cell? ((a.add (i * 3)).add 0) = some (str o.key) ∧ W.cell? ((a.add (i * 3)).add 1) = some (str o.val) ∧ W.cell? ((a.add (i * 3)).add 2) = some (.bool o.gone)) ∧ (o.key.length ≤ 9223372036854775807 ∧ o.val.length ≤ 9223372036854775807) := fun i hi => by
      obtain ⟨cs', hc, ht⟩ := hel i (by omega)
      rw [Tryz.cellsk103] at hc
      exact ox_open hc ht
    obtain ⟨f, hf⟩ := @Deep.choose_lt Ox ⟨Ox.nul⟩ _ _ hop
    have hsp : 0 < len → a.spot = none ∧ a.block < W.heap.size := fun h0 => by
      have hc0 := (hf 0 h0).1.1
      have e0 : (a.add (0 * 3)).add 0 = a := by simp [Addr.add]
      rw [e0] at hc0
      exact ⟨World.cell?_spot hc0, World.block_lt_of_cell? W a hc0⟩
    refine ⟨some a, cap, (List.range len).map f, by simp, ⟨?_, fun o ho => ?_⟩, fun i hi => ?_, fun b hb h0 => ?_⟩
    · unfold maxLen at hm
      simp
      omega
    · obtain ⟨i, hi, rfl⟩ := List.mem_map.1 ho
      exact (hf i (List.mem_range.1 hi)).2
    · have hi' : i < len := by simpa using hi
      obtain ⟨h1, h2⟩ := hsp (by omega)
      obtain ⟨g, off, sp⟩ := a
      simp only at h1
      subst h1
      simp only [List.getElem_map, List.getElem_range]
      obtain ⟨k0, k1, k2⟩ := (hf i hi').1
      rw [Deep.add_add, Addr.add_lit] at k0 k1 k2
      exact ⟨g, off, rfl, by simpa using k0, by rw [Nat.add_assoc]; exact k1, by rw [Nat.add_assoc]; exact k2⟩
    · cases hb
      exact (hsp (by simpa using h0)).2
set_option maxRecDepth 20000 in
theorem do_open {W : World} {a' : Addr} {n : Nat} {cs : List Value} {d : DataW H} {pl : List MemPlace} (hc : W.cells? 0 a' 4 = some cs) (h : DataW.trod enc Tryz.prog W 0 (fun _ => true) true n 31 cs = some (d, pl)) :
    ∃ o : DoV, (W.cell? (a'.add 0) = some (.int .i64 o.kind) ∧ W.cell? (a'.add 1) = some (.int .i64 o.a) ∧ W.cell? (a'.add 2) = some (.int .i64 o.b) ∧ W.cell? (a'.add 3) = some (.slice o.q o.ops.length o.qc)) ∧ DoOk W o ∧ (∀ b, o.q = some b → 0 < o.ops.length → b.block < W.heap.size) := by
  obtain ⟨xs, n', rfl, _, hcl, hxl, hf⟩ := DataW.trod_struct Tryz.underlying31 h
  obtain ⟨_, _, hcell⟩ := World.cells?_some hc
  rw [Tryz.cellsk31] at hcl
  match cs, hcl, hcell with
  | [c0, c1, c2, c3], _, hcell =>
    match xs, hxl with
    | [x0, x1, x2, x3], _ =>
      have f0 : DataW.trod enc Tryz.prog W 0 (fun _ => true) true n' 3 (([c0, c1, c2, c3].drop 0).take (Tryz.prog.cellsOf 3)) = some x0 := hf 0 _ rfl
      rw [Tryz.cellsk3] at f0
      replace f0 : DataW.trod enc Tryz.prog W 0 (fun _ => true) true n' 3 [c0] = some x0 := f0
      have f1 : DataW.trod enc Tryz.prog W 0 (fun _ => true) true n' 3 (([c0, c1, c2, c3].drop 1).take (Tryz.prog.cellsOf 3)) = some x1 := hf 1 _ rfl
      rw [Tryz.cellsk3] at f1
      replace f1 : DataW.trod enc Tryz.prog W 0 (fun _ => true) true n' 3 [c1] = some x1 := f1
      have f2 : DataW.trod enc Tryz.prog W 0 (fun _ => true) true n' 3 (([c0, c1, c2, c3].drop 2).take (Tryz.prog.cellsOf 3)) = some x2 := hf 2 _ rfl
      rw [Tryz.cellsk3] at f2
      replace f2 : DataW.trod enc Tryz.prog W 0 (fun _ => true) true n' 3 [c2] = some x2 := f2
      have f3 : DataW.trod enc Tryz.prog W 0 (fun _ => true) true n' 29 (([c0, c1, c2, c3].drop 3).take (Tryz.prog.cellsOf 29)) = some x3 := hf 3 _ rfl
      rw [Tryz.cellsk29] at f3
      replace f3 : DataW.trod enc Tryz.prog W 0 (fun _ => true) true n' 29 [c3] = some x3 := f3
      obtain ⟨K, e0, _, _⟩ := DataW.trod_int Tryz.underlying3 f0
      obtain ⟨A, e1, _, _⟩ := DataW.trod_int Tryz.underlying3 f1
      obtain ⟨B, e2, _, _⟩ := DataW.trod_int Tryz.underlying3 f2
      obtain ⟨q, qc, ops, e3, b3, o3, l3⟩ := ops_open f3
      simp only [List.cons.injEq, and_true] at e0 e1 e2
      subst e0 e1 e2 e3
      refine ⟨⟨K, A, B, q, qc, ops⟩, ⟨?_, ?_, ?_, ?_⟩, ⟨b3.1, o3, b3.2⟩, l3⟩
      · rw [hcell 0 (by omega)]; rfl
      · rw [hcell 1 (by omega)]; rfl
      · rw [hcell 2 (by omega)]; rfl
      · rw [hcell 3 (by omega)]; rfl
theorem dos_open {W : World} {a0 : Option Addr} {len cap : Nat} {d : DataW H} {ps : List MemPlace} (h : DataW.Trod enc Tryz.prog W 0 (fun _ => true) true 22 (.slice a0 len cap) d ps) :
    ∃ os : List DoV, os.length = len ∧ (os.length ≤ cap ∧ cap ≤ 9223372036854775807) ∧ Dop W a0 os ∧ (∀ a, a0 = some a → 0 < os.length → a.block < W.heap.size) ∧ ∀ o ∈ os, DoOk W o ∧ (∀ b, o.q = some b → 0 < o.ops.length → b.block < W.heap.size) := by
  obtain ⟨fuel, hf⟩ := h
  rcases Deep.open_slice Tryz.underlying22 hf with ⟨hcs, _⟩ | ⟨a, len', cap', m, n, D, Pl, hcs, _, hl, hm, hmm, hx, hel⟩
  · simp [Value.cells] at hcs
    obtain ⟨rfl, rfl, rfl⟩ := hcs
    exact ⟨[], rfl, ⟨Nat.zero_le _, Nat.zero_le _⟩, fun i hi => absurd hi (Nat.not_lt_zero _), (fun a ha => by cases ha), (fun o ho => by cases ho)⟩
  · simp [Value.cells] at hcs
    obtain ⟨rfl, rfl, rfl⟩ := hcs
    simp only [if_true] at hmm
    have hop : ∀ i, i < len → ∃ o : DoV, (W.cell? ((a.add (i * 4)).add 0) = some (.int .i64 o.kind) ∧ W.cell? ((a.add (i * 4)).add 1) = some (.int .i64 o.a) ∧ W.cell? ((a.add (i * 4)).add 2) = some (.int .i64 o.b) ∧ W.cell? ((a.add (i * 4)).add 3) = some (.slice o.q o.ops.length o.qc)) ∧ DoOk W o ∧ (∀ b, o.q = some b → 0 < o.ops.length → b.block < W.heap.size) := fun i hi => by
      obtain ⟨cs', hc, ht⟩ := hel i (by omega)
      rw [Tryz.cellsk31] at hc
      obtain ⟨o, h1, h2, h3⟩ := do_open hc ht
      exact ⟨o, h1, h2, h3⟩
    obtain ⟨f, hf⟩ := @Deep.choose_lt DoV ⟨DoV.nul⟩ _ _ hop
    have hsp : 0 < len → a.spot = none ∧ a.block < W.heap.size := fun h0 => by
      have hc0 := (hf 0 h0).1.1
      have e0 : (a.add (0 * 4)).add 0 = a := by simp [Addr.add]
      rw [e0] at hc0
      exact ⟨World.cell?_spot hc0, World.block_lt_of_cell? W a hc0⟩
    refine ⟨(List.range len).map f, by simp, ⟨by simpa using hl, by unfold maxLen at hm; omega⟩, fun i hi => ?_, fun b hb h0 => ?_, fun o ho => ?_⟩
    · have hi' : i < len := by simpa using hi
      obtain ⟨h1, h2⟩ := hsp (by omega)
      obtain ⟨g, off, sp⟩ := a
      simp only at h1
      subst h1
      simp only [List.getElem_map, List.getElem_range]
      obtain ⟨k0, k1, k2, k3⟩ := (hf i hi').1
      rw [Deep.add_add, Addr.add_lit] at k0 k1 k2 k3
      exact ⟨g, off, rfl, by simpa using k0, by rw [Nat.add_assoc]; exact k1, by rw [Nat.add_assoc]; exact k2, by rw [Nat.add_assoc]; exact k3⟩
    · cases hb
      exact (hsp (by simpa using h0)).2
    · obtain ⟨i, hi, rfl⟩ := List.mem_map.1 ho
      exact (hf i (List.mem_range.1 hi)).2
theorem int_open {W : World} {k : Int} {d : DataW H} {ps : List MemPlace} (h : DataW.Trod enc Tryz.prog W 0 (fun _ => true) true 3 (.int .i64 k) d ps) : -9223372036854775808 ≤ k ∧ k ≤ 9223372036854775807 := by
  obtain ⟨fuel, hf⟩ := h
  obtain ⟨n, e, _, hw⟩ := DataW.trod_int Tryz.underlying3 hf
  simp [Value.cells] at e
  subst e
  exact bounds_i64 hw
theorem dos_len {W : World} {a0 : Option Addr} {len cap : Nat} {d : DataW H} {ps : List MemPlace} (h : DataW.Trod enc Tryz.prog W 0 (fun _ => true) true 22 (.slice a0 len cap) d ps) (hb : Rows.uptoBulk d ≤ 1048576) : len ≤ 1048576 := by
  obtain ⟨fuel, hf⟩ := h
  rcases Deep.open_slice Tryz.underlying22 hf with ⟨hcs, _⟩ | ⟨a, len', cap', m, n, D, Pl, hcs, _, hl, hm, hmm, hx, hel⟩
  · simp [Value.cells] at hcs
    obtain ⟨rfl, rfl, rfl⟩ := hcs
    exact Nat.zero_le _
  · simp [Value.cells] at hcs
    obtain ⟨rfl, rfl, rfl⟩ := hcs
    have h1 := (abulk_list ((List.range len).map D)).1
    have hd : d = .slice ((List.range len).map D) ((List.range (m - len)).map fun j => D (len + j)) := (Prod.mk.inj hx).1
    rw [hd] at hb
    simp only [Rows.uptoBulk] at hb
    simp only [List.length_map, List.length_range] at h1
    omega
theorem trodAll_five {P : Program} {w : World} {base : Nat} {spare : Nat → Bool} {held : Bool} {t t' t'' t3 t4 : TypeId} {args : Array Value} {ds : List (DataW H)} {ps : List MemPlace} (h : DataW.TrodAll enc P w base spare held [t, t', t'', t3, t4] args.toList ds ps) :
    ∃ v v' v'' v3 v4 d d' d'' d3 d4 p p' p'' p3 p4, args = #[v, v', v'', v3, v4] ∧ ds = [d, d', d'', d3, d4] ∧ ps = p ++ p' ++ p'' ++ p3 ++ p4 ∧ DataW.Trod enc P w base spare held t v d p ∧ DataW.Trod enc P w base spare held t' v' d' p' ∧ DataW.Trod enc P w base spare held t'' v'' d'' p'' ∧ DataW.Trod enc P w base spare held t3 v3 d3 p3 ∧ DataW.Trod enc P w base spare held t4 v4 d4 p4 := by
  obtain ⟨v, vs, d, e1, p, q, hargs, rfl, rfl, hd, hrest⟩ := trodAll_cons h
  obtain ⟨v', vs', d', e2, p', q', rfl, rfl, rfl, hd', hrest'⟩ := trodAll_cons hrest
  obtain ⟨v'', vs'', d'', e3, p'', q'', rfl, rfl, rfl, hd'', hrest''⟩ := trodAll_cons hrest'
  obtain ⟨v3, vs3, d3, e4, p3, q3, rfl, rfl, rfl, hd3, hrest3⟩ := trodAll_cons hrest''
  obtain ⟨v4, vs4, d4, e5, p4, q4, rfl, rfl, rfl, hd4, hrest4⟩ := trodAll_cons hrest3
  obtain ⟨rfl, rfl, rfl⟩ := trodAll_nil hrest4
  exact ⟨v, v', v'', v3, v4, d, d', d'', d3, d4, p, p', p'', p3, p4, by cases args; simp_all, rfl, by simp, hd, hd', hd'', hd3, hd4⟩
theorem trodAll_mk5 {P : Program} {w : World} {base : Nat} {spare : Nat → Bool} {held : Bool} {t t' t'' t3 t4 : TypeId} {v v' v'' v3 v4 : Value} {d d' d'' d3 d4 : DataW H} {p p' p'' p3 p4 : List MemPlace} (h : DataW.Trod enc P w base spare held t v d p) (h' : DataW.Trod enc P w base spare held t' v' d' p')
    (h'' : DataW.Trod enc P w base spare held t'' v'' d'' p'') (h3 : DataW.Trod enc P w base spare held t3 v3 d3 p3) (h4 : DataW.Trod enc P w base spare held t4 v4 d4 p4) : DataW.TrodAll enc P w base spare held [t, t', t'', t3, t4] [v, v', v'', v3, v4] [d, d', d'', d3, d4] (p ++ (p' ++ (p'' ++ (p3 ++ p4)))) := ⟨p, p' ++ (p'' ++ (p3 ++ p4)), h, trodAll_mk4 h' h'' h3 h4, rfl⟩
end
end Go.Proofs.YtoabedkcieindabGreatDoor

namespace Go.Proofs.YtoabedkcieindabGreatDoor
open Go.ChangeShapes Go.WideShapes Go.ChangeAt Go.RowKit
section
variable {H : Type} {enc : TypeId × Value → H}
set_option maxRecDepth 100000 in
theorem proposed_contract (W : World) (base : Nat) (args : Array Value) (ds gs : List (DataW H)) (before : List MemPlace)
    (hval : ∀ (j : Nat) t v, Tryz.f4.params[j]? = some t → args[j]? = some v → Value.okWide Tryz.prog W .any base t v)
    (hW : DataW.Whole enc Tryz.prog Tryz.f4.params.toList Rows.proposedSpec.vars false W args.toList ds gs before) (hk : Rows.uptoSmall H (ds ++ gs) = true) :
    Calls Tryz.prog 4 args W fun e W' => ∃ v, e = .returned v ∧ Rows.proposedSpec.post enc Tryz.prog Tryz.f4 false true false false W args v W' := by
  have hW' := hW
  obtain ⟨p, q, hA0, hV, rfl, hfz, hnd⟩ := hW
  have hA : DataW.TrodAll enc Tryz.prog W 0 (fun _ => true) true Tryz.f4.params.toList args.toList ds p := hA0
  rw [Tryz.params4] at hA hval
  obtain ⟨v0, v1, v2, v3, v4, d0, d1, d2, d3, d4, p0, p1, p2, p3, p4, rfl, rfl, rfl, h0, h1, h2, h3, h4⟩ := trodAll_five hA
  obtain ⟨rfl, rfl⟩ := trodVars_none hV
  obtain ⟨n0, rfl⟩ := okWide_int Tryz.underlying3 (hval 0 3 v0 rfl rfl)
  obtain ⟨a1, len1, cap1, rfl⟩ := okWide_slice Tryz.underlying22 (hval 1 22 v1 rfl rfl)
  obtain ⟨a2, len2, cap2, rfl⟩ := okWide_slice Tryz.underlying22 (hval 2 22 v2 rfl rfl)
  obtain ⟨n3, rfl⟩ := okWide_int Tryz.underlying3 (hval 3 3 v3 rfl rfl)
  obtain ⟨n4, rfl⟩ := okWide_int Tryz.underlying3 (hval 4 3 v4 rfl rfl)
  clear hA0
  simp only [List.append_nil] at hW' hk
  have hb : Rows.uptoBulkAll [d0, d1, d2, d3, d4] ≤ 1048576 := of_decide_eq_true hk
  simp only [Rows.uptoBulkAll, Nat.add_zero] at hb
  have hl2 := dos_len h2 (by omega)
  obtain ⟨os1, rfl, hc1, hops1, _, hok1⟩ := dos_open h1
  obtain ⟨os2, rfl, _, hops2, _, hok2⟩ := dos_open h2
  obtain ⟨b0, b0'⟩ := int_open h0
  obtain ⟨b3, b3'⟩ := int_open h3
  obtain ⟨b4, b4'⟩ := int_open h4
  have hlt : ∀ x ∈ p0 ++ p1 ++ p2 ++ p3 ++ p4, x.block < W.heap.size := fun x hx => by simpa using hW'.lt x (by simpa using hx)
  have hH := Proposed_any n0 a1 cap1 os1 a2 cap2 os2 n3 n4 W b0 b0' hl2 hc1.1 hc1.2 hops1 hok1 hops2 hok2 b3 b3' b4 b4'
  refine hH.mono fun e W' ⟨he, hbl⟩ => ?_
  subst he
  exact ⟨_, rfl, ⟨_, _, _, [], _, [], hW', trodAll_mk1 (shut_bool Tryz.underlying4 _), trodAll_mk5 (Below.trod Tryz.laidOutK (by kernel_rfl) (of_decide_eq_true (by kernel_rfl)) h0 hbl (fun x hx => hlt x (by simp [hx]))) (Below.trod Tryz.laidOutK (by kernel_rfl) (of_decide_eq_true (by kernel_rfl)) h1 hbl (fun x hx => hlt x (by simp [hx]))) (Below.trod Tryz.laidOutK (by kernel_rfl) (of_decide_eq_true (by kernel_rfl)) h2 hbl (fun x hx => hlt x (by simp [hx]))) (Below.trod Tryz.laidOutK (by kernel_rfl) (of_decide_eq_true (by kernel_rfl)) h3 hbl (fun x hx => hlt x (by simp [hx]))) (Below.trod Tryz.laidOutK (by kernel_rfl) (of_decide_eq_true (by kernel_rfl)) h4 hbl (fun x hx => hlt x (by simp [hx]))), rfl, hbl.frame _, fun h => by cases h⟩⟩
end
end Go.Proofs.YtoabedkcieindabGreatDoor
