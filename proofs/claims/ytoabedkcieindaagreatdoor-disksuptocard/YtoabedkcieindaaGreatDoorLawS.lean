/- The contract of Disks, for what is of bulk at most the given number. -/
import Derived.Test.YtoabedkcieindaaGreatDoorLawR
namespace Go.Proofs.YtoabedkcieindaaGreatDoor
open Go.ChangeShapes Go.WideShapes Go.ChangeAt Go.RowKit

def OpV.nul : OpV := ⟨0, 0, 0, .bool false, [], [], .bool false, none, 0, [], .bool false⟩

section
variable {H : Type} {enc : TypeId × Value → H}

/-- The argument is a script. -/
theorem script_open {W : World} {a0 : Option Addr} {len cap : Nat} {d : DataW H} {ps : List MemPlace} (h : DataW.Trod enc Tryz.prog W 0 (fun _ => true) true 22 (.slice a0 len cap) d ps) (hb : Rows.uptoBulk d ≤ 1048576) :
    ∃ os : List OpV, os.length = len ∧ os.length ≤ 1048576 ∧ Opsp W a0 os ∧ ∀ o ∈ os, OpOk W (fun _ => 0) o := by
  obtain ⟨fuel, hf⟩ := h
  rcases Deep.open_slice Tryz.underlying22 hf with ⟨hcs, _⟩ | ⟨a, len', cap', m, n, D, Pl, hcs, _, hl, hm, hmm, hx, hel⟩
  · simp [Value.cells] at hcs
    obtain ⟨rfl, rfl, rfl⟩ := hcs
    exact ⟨[], rfl, Nat.zero_le _, fun i hi => absurd hi (Nat.not_lt_zero _), fun o ho => by cases ho⟩
  · simp [Value.cells] at hcs
    obtain ⟨rfl, rfl, rfl⟩ := hcs
    simp only [if_true] at hmm
    have hd : d = .slice ((List.range len).map D) ((List.range (m - len)).map fun j => D (len + j)) := (Prod.mk.inj hx).1
    have hle : ∀ i, i < len → Rows.uptoBulk (D i) ≤ 1048576 := fun i hi => by
      have h1 := (bulk_list ((List.range len).map D)).2 (D i) (List.mem_map.2 ⟨i, List.mem_range.2 hi, rfl⟩)
      rw [hd] at hb
      simp only [Rows.uptoBulk] at hb
      omega
    have hlen : len ≤ 1048576 := by
      have h1 := (bulk_list ((List.range len).map D)).1
      rw [hd] at hb
      simp only [Rows.uptoBulk] at hb
      simp only [List.length_map, List.length_range] at h1
      omega
    have hop : ∀ i, i < len → ∃ o : OpV, (∀ j (hj : j < o.cells.size), W.cell? ((a.add (i * 9)).add j) = some o.cells[j]) ∧ OpOk W (fun _ => 0) o := fun i hi => by
      obtain ⟨cs', hc, ht⟩ := hel i (by omega)
      rw [Tryz.cells107] at hc
      obtain ⟨o, h1, h2⟩ := op_open hc ht
      exact ⟨o, h1, h2 (hle i hi)⟩
    obtain ⟨f, hf⟩ := @Deep.choose_lt OpV ⟨OpV.nul⟩ _ _ hop
    refine ⟨(List.range len).map f, by simp, by simpa using hlen, fun i hi => ?_, fun o ho => ?_⟩
    · have hi' : i < len := by simpa using hi
      have h9 : ∀ o : OpV, o.cells.size = 9 := fun o => by simp [OpV.cells]
      have hc0 := (hf 0 (by omega)).1 0 (by rw [h9]; omega)
      have e0 : (a.add (0 * 9)).add 0 = a := by simp [Addr.add]
      rw [e0] at hc0
      have hsp := World.cell?_spot hc0
      obtain ⟨g, off, sp⟩ := a
      simp only at hsp
      subst hsp
      refine ⟨g, off, rfl, World.block_lt_of_cell? W ⟨g, off, none⟩ hc0, fun j hj => ?_⟩
      simp only [List.getElem_map, List.getElem_range] at hj ⊢
      have hcj := (hf i hi').1 j hj
      rw [Deep.add_add, Addr.add_lit] at hcj
      rw [Nat.add_assoc]
      exact hcj
    · obtain ⟨i, hi, rfl⟩ := List.mem_map.1 ho
      exact (hf i (List.mem_range.1 hi)).2

set_option maxRecDepth 100000 in
theorem contract (W : World) (base : Nat) (args : Array Value) (ds gs : List (DataW H)) (before : List MemPlace)
    (hval : ∀ (j : Nat) t v, Tryz.f3.params[j]? = some t → args[j]? = some v → Value.okWide Tryz.prog W .any base t v)
    (hW : DataW.Whole enc Tryz.prog Tryz.f3.params.toList Rows.disksSpec.vars false W args.toList ds gs before) (hk : Rows.uptoSmall H (ds ++ gs) = true) :
    Calls Tryz.prog 3 args W fun e W' => ∃ v, e = .returned v ∧ Rows.disksSpec.post enc Tryz.prog Tryz.f3 false true false false W args v W' := by
  have hW' := hW
  obtain ⟨p, q, hA0, hV, rfl, hfz, hnd⟩ := hW
  have hA : DataW.TrodAll enc Tryz.prog W 0 (fun _ => true) true Tryz.f3.params.toList args.toList ds p := hA0
  rw [Tryz.params3] at hA hval
  obtain ⟨v0, d0, rfl, rfl, h0⟩ := trodAll_one hA
  obtain ⟨rfl, rfl⟩ := trodVars_none hV
  have h0k := h0
  obtain ⟨a0, len, cap, rfl⟩ := okWide_slice Tryz.underlying22 (hval 0 22 v0 rfl rfl)
  clear hA0
  simp only [List.append_nil] at hW' hk
  have hb : Rows.uptoBulkAll [d0] ≤ 1048576 := of_decide_eq_true hk
  simp only [Rows.uptoBulkAll, Nat.add_zero] at hb
  obtain ⟨os, rfl, hl, hops, hok⟩ := script_open h0 hb
  have hlt : ∀ x ∈ p, x.block < W.heap.size := fun x hx => by simpa using hW'.lt x hx
  refine (disks_any W a0 cap os hl hops hok).mono fun e W' ⟨he, hbl⟩ => ?_
  subst he
  exact ⟨_, rfl, ⟨_, _, _, [], _, [], hW', trodAll_mk1 (shut_bool Tryz.underlying4 _), trodAll_mk1 (Below.trod Tryz.laidOut (by kernel_rfl) (of_decide_eq_true (by kernel_rfl)) h0k hbl hlt), rfl, hbl.frame _, fun h => by cases h⟩⟩
end
end Go.Proofs.YtoabedkcieindaaGreatDoor
