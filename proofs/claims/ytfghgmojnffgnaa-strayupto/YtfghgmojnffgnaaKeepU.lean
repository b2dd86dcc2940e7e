/- The statement of Stray, for what is of bulk at most the given number. -/
import Derived.Test.YtfghgmojnffgnaaKeepM
import Derived.Test.YtfghgmojnffgnaaKeepR
namespace Go.Proofs.Ytfghgmojnffgnaa
open Go.ChangeShapes Go.WideShapes Go.ChangeAt Go.RowKit

section
variable {H : Type} {enc : TypeId × Value → H}

/-- The argument is a list of texts. -/
theorem strs_open {W : World} {a0 : Option Addr} {len cap : Nat} {d : DataW H} {ps : List MemPlace} (h : DataW.Trod enc Try.prog W 0 (fun _ => true) true 48 (.slice a0 len cap) d ps) (hb : Rows.uptoBulk d ≤ 1048576) :
    ∃ os : List Nm, os.length = len ∧ os.length ≤ 1048576 ∧ Strp W a0 os := by
  obtain ⟨fuel, hf⟩ := h
  rcases Deep.open_slice1 Try.underlying48 Try.cellsk9 hf with ⟨hcs, _⟩ | ⟨a, len', cap', m, n, V, D, Pl, hcs, _, hl, hm, hmm, hx, hel⟩
  · simp [Value.cells] at hcs
    obtain ⟨rfl, rfl, rfl⟩ := hcs
    exact ⟨[], rfl, Nat.zero_le _, fun i hi => absurd hi (Nat.not_lt_zero _)⟩
  · simp [Value.cells] at hcs
    obtain ⟨rfl, rfl, rfl⟩ := hcs
    simp only [if_true] at hmm
    have hd : d = .slice ((List.range len).map D) ((List.range (m - len)).map fun j => D (len + j)) := (Prod.mk.inj hx).1
    have h1 := kbulk_list ((List.range len).map D)
    rw [hd] at hb
    simp only [Rows.uptoBulk] at hb
    have hle : ∀ i, i < len → Rows.uptoBulk (D i) ≤ 1048576 := fun i hi => by
      have h2 := h1.2 (D i) (List.mem_map.2 ⟨i, List.mem_range.2 hi, rfl⟩)
      omega
    have hlen : len ≤ 1048576 := by
      have h2 := h1.1
      simp only [List.length_map, List.length_range] at h2
      omega
    have hop : ∀ i, i < len → ∃ s : Nm, W.cell? (a.add i) = some (str s) ∧ s.length ≤ 1048576 := fun i hi => by
      obtain ⟨hc, ht⟩ := hel i (by omega)
      obtain ⟨s, e, y, _⟩ := DataW.trod_string Try.underlying9 ht
      simp only [List.cons.injEq, and_true] at e
      have hb2 := hle i hi
      have hy : D i = .lit (.string s.data.toList) := (Prod.mk.inj y).1
      rw [hy] at hb2
      simp only [Rows.uptoBulk] at hb2
      refine ⟨s.data.toList, by rw [hc, e], by omega⟩
    obtain ⟨f, hf⟩ := @Deep.choose_lt Nm ⟨[]⟩ _ _ hop
    refine ⟨(List.range len).map f, by simp, by simpa using hlen, fun i hi => ?_⟩
    have hi' : i < len := by simpa using hi
    have hc0 := (hf 0 (by omega)).1
    have e0 : a.add 0 = a := by simp [Addr.add]
    rw [e0] at hc0
    have h1 := World.cell?_spot hc0
    obtain ⟨g, off, sp⟩ := a
    simp only at h1
    subst h1
    simp only [List.getElem_map, List.getElem_range]
    obtain ⟨k0, k1⟩ := hf i hi'
    rw [Addr.add_lit] at k0
    exact ⟨g, off, rfl, k0, by omega⟩

set_option maxRecDepth 100000 in
theorem stray_contract (W : World) (base : Nat) (args : Array Value) (ds gs : List (DataW H)) (before : List MemPlace)
    (hval : ∀ (j : Nat) t v, Try.f5.params[j]? = some t → args[j]? = some v → Value.okWide Try.prog W .any base t v)
    (hW : DataW.Whole enc Try.prog Try.f5.params.toList Rows.straySpec.vars false W args.toList ds gs before) (hk : Rows.uptoSmall H (ds ++ gs) = true) :
    Calls Try.prog 5 args W fun e W' => ∃ v, e = .returned v ∧ Rows.straySpec.post enc Try.prog Try.f5 false true false false W args v W' := by
  have hW' := hW
  obtain ⟨p, q, hA0, hV, rfl, hfz, hnd⟩ := hW
  have hA : DataW.TrodAll enc Try.prog W 0 (fun _ => true) true Try.f5.params.toList args.toList ds p := hA0
  rw [Try.params5] at hA hval
  obtain ⟨v0, v1, v2, d0, d1, d2, p0, p1, p2, rfl, rfl, rfl, h0, h1, h2⟩ := trodAll_three hA
  obtain ⟨rfl, rfl⟩ := trodVars_none hV
  obtain ⟨n0, rfl⟩ := okWide_int Try.underlying3 (hval 0 3 v0 rfl rfl)
  obtain ⟨a1, len1, cap1, rfl⟩ := okWide_slice Try.underlying48 (hval 1 48 v1 rfl rfl)
  obtain ⟨a2, len, cap, rfl⟩ := okWide_slice Try.underlying48 (hval 2 48 v2 rfl rfl)
  clear hA0
  simp only [List.append_nil] at hW' hk
  have hb : Rows.uptoBulkAll [d0, d1, d2] ≤ 1048576 := of_decide_eq_true hk
  simp only [Rows.uptoBulkAll, Nat.add_zero] at hb
  obtain ⟨os, rfl, hl, hops⟩ := strs_open h2 (by omega)
  obtain ⟨b0, b0'⟩ := int_open h0
  obtain ⟨os1, rfl, hl1, hops1⟩ := strs_open h1 (by omega)
  have hlt : ∀ x ∈ p0 ++ p1 ++ p2, x.block < W.heap.size := fun x hx => by simpa using hW'.lt x hx
  refine (stray_any n0 a1 a2 cap1 cap os1 os W b0 b0' hl1 hl hops1 hops).mono fun e W' ⟨he, hbl⟩ => ?_
  subst he
  exact ⟨_, rfl, ⟨_, _, _, [], _, [], hW', trodAll_mk1 (shut_bool Try.underlying4 _), trodAll_mk3 (Below.trod Try.laidOutK (by kernel_rfl) (of_decide_eq_true (by kernel_rfl)) h0 hbl (fun x hx => hlt x (by simp [hx]))) (Below.trod Try.laidOutK (by kernel_rfl) (of_decide_eq_true (by kernel_rfl)) h1 hbl (fun x hx => hlt x (by simp [hx]))) (Below.trod Try.laidOutK (by kernel_rfl) (of_decide_eq_true (by kernel_rfl)) h2 hbl (fun x hx => hlt x (by simp [hx]))), rfl, hbl.frame _, fun h => by cases h⟩⟩

set_option maxRecDepth 100000 in
theorem stray_lifted (os : Os) (started : os.Started) (H : Type) (enc : TypeId × Value → H) (F : Stop.Interp) :
    ReturnsInHanded {} Try.checked os 5 .any ((Rows.OpenSpec.upto Rows.straySpec).pre6 enc Try.prog Try.f5 Rows.strayUptoRow.domain false) (((Rows.OpenSpec.upto Rows.straySpec).at F).post enc Try.prog Try.f5 false true false false) := by
  refine returnsInHanded_of_cond (C := Try.checked) (s := Rows.OpenSpec.upto Rows.straySpec) (k := Rows.uptoSmall) rfl Try.ownK started (by kernel_rfl) Try.func5
    (OpenSpec.witness (enc := enc) (C := Try.checked) (s := Rows.OpenSpec.upto Rows.straySpec) (k := Rows.uptoSmall) rfl false ⟨#[], #[.int .i64 0, .slice none 0 0, .slice none 0 0], []⟩ 8 (by kernel_rfl) (by kernel_rfl) (by kernel_rfl)
      (x := ([.lit (.int .i64 0), .nil, .nil], [], [])) (by kernel_rfl) rfl (by kernel_rfl)) ?_
  intro W base args ds gs before hval hW _ hk _
  exact stray_contract W base args ds gs before hval hW hk

/-- The statement. -/
theorem stray_upto_holds : Rows.StrayUptoSaid :=
  OpenClaim.holds_of_cond 5 Try.f5 rfl rfl rfl rfl rfl rfl rfl ⟨rfl, rfl, rfl, rfl, rfl⟩ rfl rfl rfl rfl rfl (by kernel_rfl) Try.func5 (by kernel_rfl)
    (of_decide_eq_true (by kernel_rfl)) (by unfold Func.isWrapper; first | (rw [if_pos (by decide +kernel)]; kernel_rfl) | (rw [if_neg (by decide +kernel)]; exact ⟨rfl, rfl⟩))
    (fun os started H enc _ F => stray_lifted os started H enc F)
end
end Go.Proofs.Ytfghgmojnffgnaa
