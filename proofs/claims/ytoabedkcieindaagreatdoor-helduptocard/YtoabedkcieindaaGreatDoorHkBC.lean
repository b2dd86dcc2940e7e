import Derived.Test.YtoabedkcieindaaGreatDoorHkAL
import Derived.Laws.ResultCell
import Derived.Test.YtoabedkcieindaaGreatDoorHkAS
import Derived.Test.YtoabedkcieindaaGreatDoorHkAX
import Derived.Laws.OwnMore
namespace Go.Proofs.YtoabedkcieindaaGreatDoor
open Go.RowKit Go.Maps Go.Sort Go.Shelf
theorem pick_find (b : Int) (key : Nm) (l : Ly) : pickE b (atK key l) = l.find? fun e => (e.op.key == key) && decide (e.batch ≤ b) := by
  unfold pickE atK
  rw [List.find?_filter]
  congr 1
  funext e
  cases decide (e.batch ≤ b) <;> by_cases h : e.op.key = key <;> simp [h]
def FoundE (b : Int) (key : Nm) (l : Ly) (r : Ending) : Prop :=
  match pickE b (atK key l) with
  | some e => r = .returned (.tuple #[aggE e, .bool true])
  | none => r = .returned (.tuple #[.agg #[.string ⟨#[]⟩, .string ⟨#[]⟩, .bool false, .int .i64 0], .bool false])
theorem startN_before {key : Nm} {l : Ly} : ∀ j (h : j < l.length), j < startN key l → bytesBefore l[j].op.key key = true := by
  induction l with
  | nil => intro j h; simp at h
  | cons e r ih =>
    intro j h hj
    unfold startN at hj
    rw [List.takeWhile_cons] at hj
    split at hj
    · rename_i he
      cases j with
      | zero => exact he
      | succ j =>
        simp only [List.length_cons] at hj
        exact ih j (by simpa using h) (by unfold startN; omega)
    · simp at hj
theorem startN_at {key : Nm} {l : Ly} (h : startN key l < l.length) : bytesBefore l[startN key l].op.key key = false := by
  induction l with
  | nil => simp at h
  | cons e r ih =>
    cases he : bytesBefore e.op.key key with
    | true =>
      have e1 : startN key (e :: r) = startN key r + 1 := by unfold startN; rw [List.takeWhile_cons, if_pos he, List.length_cons]
      simp only [e1]
      exact ih (by rw [e1] at h; simpa using h)
    | false =>
      have e1 : startN key (e :: r) = 0 := by unfold startN; rw [List.takeWhile_cons, he]; rfl
      simp only [e1]
      exact he
theorem find_hit {key : Nm} {b : Int} {l : Ly} {k : Nat} (hk : k < l.length) (h1 : ∀ j (h : j < l.length), j < k → ¬ (l[j].op.key = key ∧ l[j].batch ≤ b)) (h2 : l[k].op.key = key ∧ l[k].batch ≤ b) : pickE b (atK key l) = some l[k] := by
  rw [pick_find]
  rw [List.find?_eq_some_iff_getElem]
  refine ⟨by simp [h2], k, hk, rfl, fun j hj => ?_⟩
  have := h1 j (by omega) hj
  simp only [Bool.not_eq_true', Bool.and_eq_false_iff, beq_eq_false_iff_ne, decide_eq_false_iff_not]
  by_cases hx : l[j].op.key = key
  · exact .inr (fun hb => this ⟨hx, hb⟩)
  · exact .inl hx
theorem find_miss {key : Nm} {b : Int} {l : Ly} (h1 : ∀ j (h : j < l.length), ¬ (l[j].op.key = key ∧ l[j].batch ≤ b)) : pickE b (atK key l) = none := by
  rw [pick_find, List.find?_eq_none]
  intro e he
  obtain ⟨j, hj, rfl⟩ := List.getElem_of_mem he
  have := h1 j hj
  simp only [Bool.not_eq_true, Bool.and_eq_false_iff, beq_eq_false_iff_ne, decide_eq_false_iff_not]
  by_cases hx : l[j].op.key = key
  · exact .inr (fun hb => this ⟨hx, hb⟩)
  · exact .inl hx
abbrev set4 (W : World) (bb : Nat) (a b c d : Value) : World := (((W.setCell ⟨bb, 0, none⟩ a).setCell ⟨bb, 1, none⟩ b).setCell ⟨bb, 2, none⟩ c).setCell ⟨bb, 3, none⟩ d
theorem set4_block {W : World} {bb : Nat} {a b c d a0 b0 c0 d0 : Value} {t : TypeId} (hb : W.heap[bb]? = some (.cells #[a0, b0, c0, d0] t)) : (set4 W bb a b c d).heap[bb]? = some (.cells #[a, b, c, d] t) := by
  simpa using block_set (block_set (block_set (block_set hb a (j := 0)) b (j := 1)) c (j := 2)) d (j := 3)
theorem ret_find {R : Ending → World → Prop} {tm : Array Value} {W : World} {bb : Nat} {a b c d v : Value} (hb' : W.heap[bb]? = some (.cells #[a, b, c, d] 205)) (h6 : tm.getD 6 undef = .pointer (some ⟨bb, 0, none⟩)) (h7 : tm.getD 7 undef = v)
    (hR : R (.returned (.tuple #[.agg #[a, b, c, d], v])) W) : bodyPost Tryz.prog Tryz.f160 R Exit.ret { tmps := tm, defers := [] } W := by
  obtain ⟨c0, c1, c2, c3, _⟩ := cells4 hb'
  refine bodyPost_ret (v := .tuple #[.agg #[a, b, c, d], v]) ?_ rfl hR
  rw [results_cell_tmp rfl]
  show ((asAddr (tm.getD 6 undef)).run Tryz.prog _).andThen _ = _
  rw [h6, h7]
  simp [asAddr, loadVar, go_sem, c0, c1, c2, c3]
theorem below_set4 {B : Nat} {a w : World} (h : Below B a w) {bb : Nat} (hb : B ≤ bb) (u v x y : Value) : Below B a (set4 w bb u v x y) := (((h.setCell hb u).setCell hb v).setCell hb x).setCell hb y
def NoF (key : Nm) (b : Int) (l : Ly) (k : Nat) : Prop := ∀ j (h : j < l.length), startN key l ≤ j → j < startN key l + k → l[j].op.key = key ∧ b < l[j].batch
theorem NoF.none_end {key : Nm} {b : Int} {l : Ly} {k : Nat} (h : NoF key b l k) (he : l.length ≤ startN key l + k) : pickE b (atK key l) = none :=
  find_miss fun j hj hx => by
    by_cases h1 : j < startN key l
    · have := startN_before j hj h1
      rw [hx.1] at this
      rw [WideAt.bytes_irrefl] at this
      cases this
    · have := h j hj (by omega) (by omega)
      omega
theorem NoF.none_key {key : Nm} {b : Int} {l : Ly} {k : Nat} (h : NoF key b l k) (hs : srt l) (hk : startN key l + k < l.length) (hne : l[startN key l + k].op.key ≠ key) : pickE b (atK key l) = none := by
  have h0 : bytesBefore l[startN key l + k].op.key key = false := by
    have h1 := startN_at (key := key) (l := l) (by omega)
    have h2 := srt_at hs (i := startN key l) (j := startN key l + k) (by omega) hk
    exact le_trans' h1 h2
  refine find_miss fun j hj hx => ?_
  by_cases h1 : j < startN key l
  · have := startN_before j hj h1
    rw [hx.1, WideAt.bytes_irrefl] at this
    cases this
  · by_cases h2 : j < startN key l + k
    · have := h j hj (by omega) h2
      omega
    · have h3 := srt_at hs (i := startN key l + k) (j := j) (by omega) hj
      rw [hx.1] at h3
      rcases WideAt.bytes_total _ _ hne with h4 | h4
      · rw [h0] at h4; cases h4
      · rw [h3] at h4; cases h4
theorem NoF.hit {key : Nm} {b : Int} {l : Ly} {k : Nat} (h : NoF key b l k) (hk : startN key l + k < l.length) (h2 : l[startN key l + k].op.key = key ∧ l[startN key l + k].batch ≤ b) : pickE b (atK key l) = some l[startN key l + k] :=
  find_hit hk (fun j hj hjk hx => by
    by_cases h1 : j < startN key l
    · have := startN_before j hj h1
      rw [hx.1, WideAt.bytes_irrefl] at this
      cases this
    · have := h j hj (by omega) hjk
      omega) h2
theorem NoF.step {key : Nm} {b : Int} {l : Ly} {k : Nat} (h : NoF key b l k) (hk : startN key l + k < l.length) (h2 : l[startN key l + k].op.key = key ∧ ¬ l[startN key l + k].batch ≤ b) : NoF key b l (k + 1) := fun j hj h3 h4 => by
  by_cases h5 : j < startN key l + k
  · exact h j hj h3 h5
  · obtain rfl : j = startN key l + k := by omega
    exact ⟨h2.1, by omega⟩
theorem NoF.zero (key : Nm) (b : Int) (l : Ly) : NoF key b l 0 := fun j _ h1 h2 => by omega
theorem FoundE.no {b : Int} {key : Nm} {l : Ly} (h : pickE b (atK key l) = none) : FoundE b key l (.returned (.tuple #[.agg #[.string ⟨#[]⟩, .string ⟨#[]⟩, .bool false, .int .i64 0], .bool false])) := by unfold FoundE; rw [h]
theorem FoundE.yes {b : Int} {key : Nm} {l : Ly} {e : En} (h : pickE b (atK key l) = some e) : FoundE b key l (.returned (.tuple #[aggE e, .bool true])) := by unfold FoundE; rw [h]
set_option maxHeartbeats 400000 in
set_option maxRecDepth 20000 in
theorem layFind_any (s : Sl) (l : Ly) (key : Nm) (b : Int) (w : World) (hp : SlAt w s l) (hl : l.length ≤ 1000000) (hs : srt l) :
    Calls Tryz.prog 160 #[slV s, str key, .int .i64 b] w fun e w' => FoundE b key l e ∧ Below w.heap.size w w' := by
  obtain ⟨q, n, qc⟩ := s
  obtain rfl : n = l.length := hp.len
  have hcap := hp.cap
  simp only at hcap
  have hB0 : Below w.heap.size w (w.alloc (.cells #[.string ⟨#[]⟩, .string ⟨#[]⟩, .bool false, .int .i64 0] 205)) := (Below.refl _ w).alloc (Nat.le_refl _) _
  have h1 := start_any q qc l key _ (hp.row.below hB0) hl hs
  have n1 := startN_le key l
  rw [show slV (q, l.length, qc) = Value.slice q l.length qc from rfl]
  have hN := NoF.zero key b l
  by_cases hemp : l.length = startN key l
  · have E : Hid (pickE b (atK key l) = none) := hN.none_end (by omega)
    clear hN
    cases q with
    | none =>
      obtain ⟨hqc, rfl⟩ := hp.nil rfl
      simp only at hqc
      subst hqc
      have e1 : startN key [] = 0 := rfl
      simp only [e1] at h1
      clear e1 n1 hemp hcap
      go_enter Tryz.func160, Tryz.ntmps160
      go_wp2_with (go_at_call 209; refine h1.mono ?_; rintro e w1 ⟨rfl, hb1⟩)
      have hbk := block_at2 (block_new w _) hb1
      obtain ⟨c0, c1, c2, c3, f0, f1, f2, f3⟩ := cells4 hbk
      go_loopw [16] (fun i wr => i = .int .i64 0 ∧ wr = w1) (fun _ _ => 0)
      case atStart => exact ⟨rfl, rfl⟩
      case round =>
        obtain ⟨rfl, rfl⟩ := hrel
        go_wp2
        refine ret_find (set4_block hbk) rfl rfl ?_
        exact ⟨FoundE.no E.out, below_set4 (hB0.trans (hb1.mono (by simp))) (Nat.le_refl _) _ _ _ _⟩
    | some a =>
      obtain ⟨g, off, rfl⟩ := hp.pl a rfl
      rw [← hemp] at h1
      clear hp hemp n1
      generalize l.length = n at *
      by_cases hqf : qc = n
      · subst hqf
        go_enter Tryz.func160, Tryz.ntmps160
        go_wp2_with (go_at_call 209; refine h1.mono ?_; rintro e w1 ⟨rfl, hb1⟩)
        have hbk := block_at2 (block_new w _) hb1
        obtain ⟨c0, c1, c2, c3, f0, f1, f2, f3⟩ := cells4 hbk
        go_loopw [16] (fun i wr => i = .int .i64 0 ∧ wr = w1) (fun _ _ => 0)
        case atStart => exact ⟨rfl, rfl⟩
        case round =>
          obtain ⟨rfl, rfl⟩ := hrel
          go_wp2
          refine ret_find (set4_block hbk) rfl rfl ?_
          exact ⟨FoundE.no E.out, below_set4 (hB0.trans (hb1.mono (by simp))) (Nat.le_refl _) _ _ _ _⟩
      · skip
        go_enter Tryz.func160, Tryz.ntmps160
        go_wp2_with (go_at_call 209; refine h1.mono ?_; rintro e w1 ⟨rfl, hb1⟩)
        have hbk := block_at2 (block_new w _) hb1
        obtain ⟨c0, c1, c2, c3, f0, f1, f2, f3⟩ := cells4 hbk
        go_loopw [16] (fun i wr => i = .int .i64 0 ∧ wr = w1) (fun _ _ => 0)
        case atStart => exact ⟨rfl, rfl⟩
        case round =>
          obtain ⟨rfl, rfl⟩ := hrel
          go_wp2
          refine ret_find (set4_block hbk) rfl rfl ?_
          exact ⟨FoundE.no E.out, below_set4 (hB0.trans (hb1.mono (by simp))) (Nat.le_refl _) _ _ _ _⟩
  · cases q with
    | none =>
      obtain ⟨_, rfl⟩ := hp.nil rfl
      exact absurd rfl hemp
    | some a =>
      obtain ⟨g, off, rfl⟩ := hp.pl a rfl
      have hrow := hp.row
      have hf : startN key l < l.length := by omega
      obtain ⟨n, hn⟩ : ∃ n, l.length = n := ⟨_, rfl⟩
      obtain ⟨f, hf'⟩ : ∃ f, startN key l = f := ⟨_, rfl⟩
      rw [hf'] at h1 hf
      rw [hn] at h1 hf hcap hl ⊢
      have hqf : ¬ qc = f := by omega
      go_enter Tryz.func160, Tryz.ntmps160
      go_wp2_with (go_at_call 209; refine h1.mono ?_; rintro e w1 ⟨rfl, hb1⟩)
      have hbk := block_at2 (block_new w _) hb1
      go_loopw [16] (fun i wr => ∃ k : Nat, i = .int .i64 k ∧ k ≤ n - f ∧ NoF key b l k ∧ Below w1.heap.size w1 wr) (fun i _ => n - (intOf i).toNat)
      case atStart => exact ⟨0, rfl, Nat.zero_le _, hN, Below.refl _ _⟩
      case round =>
        obtain ⟨k, rfl, hk, hNk, hbr⟩ := hrel
        have hbkr := block_at2 hbk hbr
        have hBr : Below w.heap.size w wr := (hB0.trans (hb1.mono (by simp))).trans (hbr.mono (by have := hb1.size; simp at this; omega))
        obtain ⟨c0, c1, c2, c3, f0, f1, f2, f3⟩ := cells4 hbkr
        by_cases hkn : k < n - f
        · have hfk : startN key l + k < l.length := by omega
          obtain ⟨g', off', e0, d0, d1, d2, d3⟩ := (hrow.below hBr) (f + k) (by omega)
          cases e0
          have ea : off + (f + k) * 4 = off + f * 4 + k * 4 := by rw [Nat.add_mul]; omega
          rw [ea] at d0 d1 d2 d3
          have hx1 := fun h => hNk.none_key hs hfk h
          have hx2 := fun h => hNk.hit hfk h
          have hx3 := fun h => hNk.step hfk h
          have ei : (l[startN key l + k]'hfk) = l[f + k]'(by omega) := by congr 1; omega
          rw [ei] at hx1 hx2 hx3
          generalize l[f + k]'(by omega) = x at *
          have bB : w.heap.size < wr.heap.size := by have := hBr.size; have := hb1.size; have := hbr.size; simp at *; omega
          by_cases hkey : x.op.key = key
          · by_cases hbat : x.batch ≤ b
            · have E : Hid (pickE b (atK key l) = some x) := hx2 ⟨hkey, hbat⟩
              clear hx1 hx2 hx3
              go_wp2
              refine ret_find (block_alloc (set4_block hbkr)) rfl rfl ?_
              refine ⟨?_, (below_set4 hBr (Nat.le_refl _) _ _ _ _).alloc (by simp; omega) _⟩
              have := FoundE.yes E.out
              rw [aggE, hkey] at this
              exact this
            · have E : Hid (NoF key b l (k + 1)) := hx3 ⟨hkey, hbat⟩
              clear hx1 hx2 hx3
              go_wp2
              go_roundw
              case rel => exact ⟨k + 1, by go_num, by omega, E.out, hbr.alloc hbr.size _⟩
              case measure => simp [intOf]; omega
          · have E : Hid (pickE b (atK key l) = none) := hx1 hkey
            clear hx1 hx2 hx3
            have hkey' : (x.op.key == key) = false := by simpa using hkey
            go_wp2
            refine ret_find (block_alloc (set4_block hbkr)) rfl rfl ?_
            exact ⟨FoundE.no E.out, (below_set4 hBr (Nat.le_refl _) _ _ _ _).alloc (by simp; omega) _⟩
        · have E : Hid (pickE b (atK key l) = none) := hNk.none_end (by omega)
          go_wp2
          refine ret_find (set4_block hbkr) rfl rfl ?_
          exact ⟨FoundE.no E.out, below_set4 hBr (Nat.le_refl _) _ _ _ _⟩
end Go.Proofs.YtoabedkcieindaaGreatDoor

namespace Go.Proofs.YtoabedkcieindaaGreatDoor
open Go.RowKit Go.Maps Go.Sort Go.Shelf
section fork
variable {P : Program} {ops : Array Oper} {Q : Exit → Act → World → Prop} {md : Region.Mode} {S : World → Prop}
theorem wpAnyE_fork {i j : Nat} {oi oj : Oper} {fuel : Nat} {listed : Array Bool} {a : Act} {w : World} (hr : Region.ready md ops listed = [i, j]) (hi : ops[i]? = some oi) (hj : ops[j]? = some oj) (wi : Region.wanted oi (yielded ops a.tmps) = true) (wj : Region.wanted oj (yielded ops a.tmps) = true)
    (h1 : ∀ K : Act → World → Prop, Shut (∀ a' w', S w' → wpAnyE P md ops Q S fuel (listed.setIfInBounds i true) a' w' → K a' w') → oi.wp P a w K Q)
    (h2 : ∀ K : Act → World → Prop, Shut (∀ a' w', S w' → wpAnyE P md ops Q S fuel (listed.setIfInBounds j true) a' w' → K a' w') → oj.wp P a w K Q) : wpAnyE P md ops Q S (fuel + 1) listed a w := by
  refine ⟨fun h0 => (by rw [hr] at h0; cases h0), fun k hk => ?_⟩
  rw [hr] at hk
  have hk' : k = i ∨ k = j := by simpa using hk
  rcases hk' with rfl | rfl
  · unfold wpOp
    rw [hi]
    simp only [wi, if_true]
    exact .inl (h1 _ (fun a' w' hS hW => ⟨fun _ => hS, hW⟩))
  · unfold wpOp
    rw [hj]
    simp only [wj, if_true]
    exact .inl (h2 _ (fun a' w' hS hW => ⟨fun _ => hS, hW⟩))
end fork
theorem lof_app {w W : World} {s0 : Sl} {l0 : Ly} {Y : List Tr} {b : Nat} {v2 : Value} (hb : Below w.heap.size w W) (h1 : OwnL W w.heap.size (.slice (some ⟨b, 0, none⟩) 1 1) [s0]) (hbb : w.heap.size ≤ b) (h2 : OwnL W w.heap.size v2 (Y.map (·.2))) (hY : Y.length ≤ 1000)
    (hs0 : SlAt w s0 l0) (hYs : ∀ y ∈ Y, SlAt w y.2 y.1.es) (ty : TypeId) :
    ∃ q qc W', (Builtin.append_ #[202, 202] ty #[.slice (some ⟨b, 0, none⟩) 1 1, v2]).run Tryz.prog W = .ok (.slice q ((s0, l0) :: Y.map (fun y => (y.2, y.1.es))).length qc) W' ∧ Below w.heap.size w W' ∧ OwnL W' w.heap.size (.slice q ((s0, l0) :: Y.map (fun y => (y.2, y.1.es))).length qc) (((s0, l0) :: Y.map (fun y => (y.2, y.1.es))).map (·.1)) ∧ ∀ x ∈ ((s0, l0) :: Y.map (fun y => (y.2, y.1.es))), SlAt W' x.1 x.2 := by
  have fin : ∀ (v' : Value) (W' : World), OwnL W' w.heap.size v' ([s0] ++ Y.map (·.2)) → Below w.heap.size w W' → ∃ q qc, v' = .slice q ((s0, l0) :: Y.map (fun y => (y.2, y.1.es))).length qc ∧ OwnL W' w.heap.size (.slice q ((s0, l0) :: Y.map (fun y => (y.2, y.1.es))).length qc) (((s0, l0) :: Y.map (fun y => (y.2, y.1.es))).map (·.1)) ∧ ∀ x ∈ ((s0, l0) :: Y.map (fun y => (y.2, y.1.es))), SlAt W' x.1 x.2 := fun v' W' ho hB => by
    have e : [s0] ++ Y.map (·.2) = ((s0, l0) :: Y.map (fun y => (y.2, y.1.es))).map (·.1) := by simp [Function.comp_def]
    rw [e] at ho
    obtain ⟨q, qc, rfl, _⟩ := ho.rp slC_len
    rw [List.length_map] at ho ⊢
    refine ⟨q, qc, rfl, ho, fun x hx => ?_⟩
    rcases List.mem_cons.1 hx with rfl | hx
    · exact hs0.below hB
    · obtain ⟨y, hy, rfl⟩ := List.mem_map.1 hx
      exact (hYs y hy).below hB
  obtain ⟨q2, cap2, rfl, hc2, hr2, hn2, hf2⟩ := h2.rp slC_len
  cases q2 with
  | none =>
    obtain ⟨rfl, hY0⟩ := hn2 rfl
    rw [hY0] at fin ⊢
    obtain ⟨i0, hi, _⟩ := info_parts Tryz.info162
    have := run_append_owned_none (P := Tryz.prog) (w := W) w.heap.size 202 ty 162 i0 1 Tryz.underlying202 hi _ _ _ h1
    obtain ⟨q, qc, e, f1, f2⟩ := fin _ W (by simpa using h1) hb
    refine ⟨q, qc, W, ?_, hb, f1, f2⟩
    rw [← e]
    exact this
  | some a =>
    obtain ⟨g, off, sp⟩ := a
    obtain rfl : sp = none := by
      rcases h2.2 with ⟨hv, _⟩ | ⟨g', cap, cur, hv, _⟩
      · cases hv
      · cases hv; rfl
    obtain ⟨v', W', hr, ho, kp, _⟩ := appR_run (fl := slC) (sz := 1) (ts := 202) Tryz.info162 rfl (by decide) Tryz.underlying202 slC_len slC_one (L := Y.map (·.2)) (sc := cap2) h1 hr2 hb.size (by simp; omega) (by decide) ty
    have hB' : Below w.heap.size w W' := ⟨kp.os.trans hb.os, kp.tape.trans hb.tape, kp.output.trans hb.output, Nat.le_trans hb.size kp.size, fun i hi => (kp.block i (by have := hb.size; omega) (fun e => by have e' : b = i := Option.some.inj e; omega)).trans (hb.block i hi)⟩
    obtain ⟨q, qc, rfl, f1, f2⟩ := fin v' W' ho hB'
    exact ⟨q, qc, W', hr, hB', f1, f2⟩
theorem OwnR.base {α : Type} {fl : α → List Value} {sz : Nat} {t : TypeId} {w : World} {b b' : Nat} {v : Value} {l : List α} (h : OwnR t fl sz w b v l) (hb : b' ≤ b) : OwnR t fl sz w b' v l := by
  obtain ⟨h1, h2⟩ := h
  refine ⟨h1, ?_⟩
  rcases h2 with h2 | ⟨g, cap, cur, a1, a2, a3⟩
  · exact .inl h2
  · exact .inr ⟨g, cap, cur, a1, Nat.le_trans hb a2, a3⟩
theorem MemAt.lookB {w : World} {E : Nat → Prop} {bm : Nat} {m : Mm} (h : MemAt w E bm m) (n : Nm) (hn : n.length ≤ maxLen) :
    ∃ s : Sl, (∀ w', Below w.heap.size w w' → (Instr.lookup 141 (.map (some bm)) (str n) false).run Tryz.prog w' = .ok (slV s) w') ∧ SlAt w s ((getF n m).getD []) := by
  obtain ⟨xs, rfl, hm, hx⟩ := h
  have hrun : ∀ w', Below w.heap.size w w' → ∃ v z, (Instr.lookup 141 (.map (some bm)) (str n) false).run Tryz.prog w' = .ok v w' ∧ Rs v = some (match getF n xs with | none => .held (none, 0, 0) | some p => .held p.1, z) := fun w' hb => by
    obtain ⟨v, z, hrun, hv⟩ := (ownsMap_of_block hm (hb.block bm hm.lt)).lookup keyedS Tryz.underlying141 (Tryz.zeroValue162 w') (zd := .held (none, 0, 0)) (zp := []) rfl (keyS hn)
    rw [at_datX] at hv
    exact ⟨v, z, hrun, hv⟩
  rw [mm_get]
  cases hg : getF n xs with
  | none =>
    rw [hg] at hrun
    exact ⟨(none, 0, 0), fun w' hb => by obtain ⟨v, z, hr, hv⟩ := hrun w' hb; rw [hr, Rs_held hv], ⟨rfl, Nat.le_refl _, fun _ => ⟨rfl, rfl⟩, fun a ha => (by cases ha), Enp.nil _ _⟩⟩
  | some p =>
    rw [hg] at hrun
    have hmem := getF_mem hg
    exact ⟨p.1, fun w' hb => by obtain ⟨v, z, hr, hv⟩ := hrun w' hb; rw [hr, Rs_held hv], (hx _ hmem).1⟩
set_option maxHeartbeats 400000 in
set_option maxRecDepth 20000 in
theorem layersOf_any (T bd bm bsn : Nat) (s : Sl) (l : List Tr) (st : Ls) (E : Nat → Prop) (key : Nm) (w : World) (hL : LsAt w E T bd bm bsn s l st) (hll : l.length ≤ 1000) (hkl : key.length ≤ 1048576) :
    Calls Tryz.prog 159 #[.pointer (some ⟨T, 0, none⟩), str key] w fun e w' => ∃ (q : Option Addr) (qc : Nat) (xs : List (Sl × Ly)), e = .returned (.slice q xs.length qc) ∧ Below w.heap.size w w' ∧ OwnL w' w.heap.size (.slice q xs.length qc) (xs.map (·.1)) ∧ (∀ x ∈ xs, SlAt w' x.1 x.2) ∧ xs.map (·.2) = (getF key st.mem).getD [] :: newF st.tabs := by
  obtain ⟨s0, hlk, hs0⟩ := hL.mem.lookB key (by unfold maxLen; omega)
  have hYs : ∀ y ∈ l.reverse, SlAt w y.2 y.1.es := fun y hy => hL.es y (List.mem_reverse.1 hy)
  obtain ⟨sq, sn, sc⟩ := s
  obtain rfl : sn = l.length := hL.tab.len
  have c3 : ∀ w', Below w.heap.size w w' → w'.cell? ⟨T, 3, none⟩ = some (.map (some bm)) := fun w' h => (hL.below h).cell 3
  have c4 : ∀ w', Below w.heap.size w w' → w'.cell? ⟨T, 4, none⟩ = some (.slice sq l.length sc) := fun w' h => (hL.below h).cell 4
  have hNf := fun w1 (h : Below w.heap.size w w1) => newestFirst_any sq sc l w1 (hL.tab.below h) (by omega)
  have hSd : Below w.heap.size w w.drew := (Below.refl _ w).drew
  go_enter Tryz.func159, Tryz.ntmps159
  go_wp2
  refine wp_calm ?_
  refine wp_region_E (S := fun w' => Below w.heap.size w w') (by kernel_rfl) ?_
  refine wpAnyE_take (i := 0) (L := 1) (v := .pointer (some ⟨T, 0, none⟩)) rfl rfl (by decide) (by kernel_rfl) (by kernel_rfl) (by kernel_rfl) (by kernel_rfl) (by kernel_rfl) (fun _ _ _ h => h) (Or.inl ⟨by rfl, fun w' hS => ?_⟩) hSd ?_
  · skip
    go_simp
  refine wpAnyE_take (i := 1) (L := 2) (v := .pointer (some ⟨T, 0, none⟩)) rfl rfl (by decide) (by kernel_rfl) (by kernel_rfl) (by kernel_rfl) (by kernel_rfl) (by kernel_rfl) (fun _ _ _ h => h) (Or.inl ⟨by rfl, fun w' hS => ?_⟩) hSd ?_
  · skip
    go_simp
  refine wpAnyE_take (i := 2) (L := 3) (v := .pointer (some ⟨T, 3, none⟩)) rfl rfl (by decide) (by kernel_rfl) (by kernel_rfl) (by kernel_rfl) (by kernel_rfl) (by kernel_rfl) (fun _ _ _ h => h) (Or.inl ⟨by rfl, fun w' hS => ?_⟩) hSd ?_
  · skip
    go_simp
  refine wpAnyE_take (i := 3) (L := 5) (v := .map (some bm)) rfl rfl (by decide) (by kernel_rfl) (by kernel_rfl) (by kernel_rfl) (by kernel_rfl) (by kernel_rfl) (fun _ _ _ h => h) (Or.inl ⟨by rfl, fun w' hS => ?_⟩) hSd ?_
  · have d3 := c3 w' hS
    go_simp
  refine wpAnyE_take (i := 4) (L := 5) (v := str key) rfl rfl (by decide) (by kernel_rfl) (by kernel_rfl) (by kernel_rfl) (by kernel_rfl) (by kernel_rfl) (fun _ _ _ h => h) (Or.inl ⟨by rfl, fun w' hS => ?_⟩) hSd ?_
  · skip
    go_simp
  refine wpAnyE_take (i := 5) (L := 6) (v := slV s0) rfl rfl (by decide) (by kernel_rfl) (by kernel_rfl) (by kernel_rfl) (by kernel_rfl) (by kernel_rfl) (fun _ _ _ h => h) (Or.inl ⟨by rfl, fun w' hS => ?_⟩) hSd ?_
  · have d3 := hlk w' hS
    go_simp
  refine wpAnyE_take (i := 7) (L := 8) (v := .pointer (some ⟨T, 0, none⟩)) rfl rfl (by decide) (by kernel_rfl) (by kernel_rfl) (by kernel_rfl) (by kernel_rfl) (by kernel_rfl) (fun _ _ _ h => h) (Or.inl ⟨by rfl, fun w' hS => ?_⟩) hSd ?_
  · skip
    go_simp
  refine wpAnyE_take (i := 8) (L := 9) (v := .pointer (some ⟨T, 0, none⟩)) rfl rfl (by decide) (by kernel_rfl) (by kernel_rfl) (by kernel_rfl) (by kernel_rfl) (by kernel_rfl) (fun _ _ _ h => h) (Or.inl ⟨by rfl, fun w' hS => ?_⟩) hSd ?_
  · skip
    go_simp
  refine wpAnyE_take (i := 9) (L := 10) (v := .pointer (some ⟨T, 4, none⟩)) rfl rfl (by decide) (by kernel_rfl) (by kernel_rfl) (by kernel_rfl) (by kernel_rfl) (by kernel_rfl) (fun _ _ _ h => h) (Or.inl ⟨by rfl, fun w' hS => ?_⟩) hSd ?_
  · skip
    go_simp
  refine wpAnyE_take (i := 10) (L := 11) (v := .slice sq l.length sc) rfl rfl (by decide) (by kernel_rfl) (by kernel_rfl) (by kernel_rfl) (by kernel_rfl) (by kernel_rfl) (fun _ _ _ h => h) (Or.inl ⟨by rfl, fun w' hS => ?_⟩) hSd ?_
  · have d4 := c4 w' hS
    go_simp
  refine wpAnyE_fork (i := 6) (j := 11) (by kernel_rfl) rfl rfl (by rfl) (by rfl) (fun K hK => ?_) (fun K hK => ?_)
  · go_simp
    have hB1 : Below w.heap.size w (w.alloc (Obj.cells #[slV s0] 162)).drew := ((Below.refl _ w).alloc (Nat.le_refl _) _).drew
    have hO1 : OwnL (w.alloc (Obj.cells #[slV s0] 162)).drew w.heap.size (.slice (some ⟨w.heap.size, 0, none⟩) 1 1) [s0] := (OwnL.one w w.heap.size s0 (Nat.le_refl _)).below ((Below.refl _ _).drew)
    refine hK.out _ _ hB1 ?_
    clear hK
    have hc := hNf _ hB1
    refine wpAnyE_one (i := 11) (by kernel_rfl) rfl (by rfl) (fun K hK => ?_)
    go_simp
    refine hc.mono ?_
    rintro e w2 ⟨v2, rfl, hb2, ho2⟩
    have hB2 : Below w.heap.size w w2 := hB1.trans (hb2.mono hB1.size)
    refine hK.out _ _ hB2 ?_
    clear hK
    obtain ⟨q, qc, w3, hr3, hB3, hO3, hS3⟩ := lof_app hB2 (hO1.below hb2) (Nat.le_refl _) (ho2.base (Below.size hB1)) (by rw [List.length_reverse]; exact hll) hs0 hYs 202
    refine wpAnyE_one (i := 12) (by kernel_rfl) rfl (by rfl) (fun K hK => ?_)
    refine wp_append_run rfl rfl rfl hr3 ?_
    refine hK.out _ _ hB3 ?_
    clear hK
    refine wpAnyE_last (i := 13) (by kernel_rfl) rfl (by rfl) (by kernel_rfl) (by kernel_rfl) (fun K hK => ?_)
    go_simp
    refine hK.out _ _ ?_
    clear hK hlk c3 c4 hNf hc
    go_wp2
    go_ret
    refine ⟨q, qc, _, ?_, hB3, hO3, hS3, ?_⟩
    · simp
    · rw [List.map_cons, ← hL.is]
      simp [newF, Function.comp_def]
  · go_simp
    have hc := hNf _ hSd
    refine hc.mono ?_
    rintro e w2 ⟨v2, rfl, hb2, ho2⟩
    have hB2 : Below w.heap.size w w2 := hSd.trans (hb2.mono hSd.size)
    refine hK.out _ _ hB2 ?_
    clear hK
    have hB1 : Below w.heap.size w (w2.alloc (Obj.cells #[slV s0] 162)) := hB2.alloc hB2.size _
    have hO1 : OwnL (w2.alloc (Obj.cells #[slV s0] 162)) w.heap.size (.slice (some ⟨w2.heap.size, 0, none⟩) 1 1) [s0] := OwnL.one w2 w.heap.size s0 hB2.size
    refine wpAnyE_one (i := 6) (by kernel_rfl) rfl (by rfl) (fun K hK => ?_)
    go_simp
    refine hK.out _ _ hB1 ?_
    clear hK
    obtain ⟨q, qc, w3, hr3, hB3, hO3, hS3⟩ := lof_app hB1 hO1 hB2.size ((ho2.base hSd.size).alloc _) (by rw [List.length_reverse]; exact hll) hs0 hYs 202
    refine wpAnyE_one (i := 12) (by kernel_rfl) rfl (by rfl) (fun K hK => ?_)
    refine wp_append_run rfl rfl rfl hr3 ?_
    refine hK.out _ _ hB3 ?_
    clear hK
    refine wpAnyE_last (i := 13) (by kernel_rfl) rfl (by rfl) (by kernel_rfl) (by kernel_rfl) (fun K hK => ?_)
    go_simp
    refine hK.out _ _ ?_
    clear hK hlk c3 c4 hNf hc
    go_wp2
    go_ret
    refine ⟨q, qc, _, ?_, hB3, hO3, hS3, ?_⟩
    · simp
    · rw [List.map_cons, ← hL.is]
      simp [newF, Function.comp_def]
end Go.Proofs.YtoabedkcieindaaGreatDoor

namespace Go.Proofs.YtoabedkcieindaaGreatDoor
open Go.RowKit Go.Maps Go.Sort Go.Shelf
def gotE (o : Option En) : Value × Value := match o with | some e => (str e.op.val, .bool (!e.op.gone)) | none => (str [], .bool false)
theorem pick_layers (b : Int) (key : Nm) (A B : List Ly) (h : ∀ l ∈ A, pickE b (atK key l) = none) : pickE b (atK key (A ++ B).flatten) = pickE b (atK key B.flatten) := by
  induction A with
  | nil => rfl
  | cons x r ih =>
    rw [List.cons_append, List.flatten_cons, atK_app, pick_app, h x (by simp)]
    simpa using ih (fun l hl => h l (by simp [hl]))
theorem FoundE.isNo {b : Int} {key : Nm} {l : Ly} {r : Ending} (h : pickE b (atK key l) = none) (hr : FoundE b key l r) : r = .returned (.tuple #[.agg #[.string ⟨#[]⟩, .string ⟨#[]⟩, .bool false, .int .i64 0], .bool false]) := by unfold FoundE at hr; rw [h] at hr; exact hr
theorem FoundE.isYes {b : Int} {key : Nm} {l : Ly} {e : En} {r : Ending} (h : pickE b (atK key l) = some e) (hr : FoundE b key l r) : r = .returned (.tuple #[aggE e, .bool true]) := by unfold FoundE at hr; rw [h] at hr; exact hr
set_option maxHeartbeats 400000 in
set_option maxRecDepth 20000 in
theorem getBehind_any (T bd bm bsn : Nat) (s : Sl) (l : List Tr) (st : Ls) (E : Nat → Prop) (b : Int) (key : Nm) (w : World) (hL : LsAt w E T bd bm bsn s l st) (hk : keyOk key = true) (hll : l.length ≤ 1000) (hkl : key.length ≤ 1048576) (hsr : ∀ y ∈ (getF key st.mem).getD [] :: newF st.tabs, srt y ∧ y.length ≤ 1000000 ∧ ∀ e ∈ y, e.op.val.length ≤ 1048576) :
    Calls Tryz.prog 103 #[.pointer (some ⟨T, 0, none⟩), .int .i64 b, str key] w fun e w' => e = .returned (.tuple #[(gotE (pickE b (atK key ((getF key st.mem).getD [] :: newF st.tabs).flatten))).1, (gotE (pickE b (atK key ((getF key st.mem).getD [] :: newF st.tabs).flatten))).2, .int .i64 0]) ∧ Below w.heap.size w w' := by
  have hiK := isKey_any key w (by omega)
  rw [hk] at hiK
  have hLo := layersOf_any T bd bm bsn s l st E key w hL hll hkl
  have hZl : ((getF key st.mem).getD [] :: newF st.tabs).length ≤ 1001 := by rw [← hL.is]; simp [newF]; omega
  generalize (getF key st.mem).getD [] :: newF st.tabs = Z at *
  have HZ : Hid (Z.length ≤ 1001) := hZl
  clear hZl
  go_enter Tryz.func103, Tryz.ntmps103
  go_wp2_with (first
    | (go_at_call 158; refine hiK.mono ?_; rintro e w1 ⟨rfl, hw1⟩; rw [hw1]; clear hw1)
    | (go_at_call 159; refine hLo.mono ?_; rintro e w2 ⟨q, qc, xs, rfl, hb2, ho2, hs2, hx2⟩; obtain ⟨q', cap', e', hc2, hr2, hn2, hf2⟩ := ho2.rp slC_len; clear hLo hiK))
  rw [List.length_map] at e'
  cases e'
  subst hx2
  have hx : ∀ x ∈ xs, srt x.2 ∧ x.2.length ≤ 1000000 ∧ ∀ e ∈ x.2, e.op.val.length ≤ 1048576 := fun x hx => hsr _ (List.mem_map.2 ⟨x, hx, rfl⟩)
  have hxl : xs.length ≤ 1001 := by have := HZ.out; simpa using this
  clear hsr ho2
  go_loopw [20] (fun i wr => ∃ k : Nat, i = .int .i64 k ∧ k ≤ xs.length ∧ (∀ y ∈ xs.take k, pickE b (atK key y.2) = none) ∧ Below w2.heap.size w2 wr) (fun i _ => xs.length - (intOf i).toNat)
  case atStart => exact ⟨0, rfl, Nat.zero_le _, fun y hy => (by simp at hy), Below.refl _ _⟩
  case round =>
    obtain ⟨k, rfl, hk2, hno, hbr⟩ := hrel
    have hBr : Below w.heap.size w wr := hb2.trans (hbr.mono hb2.size)
    by_cases hlt : k < xs.length
    · obtain ⟨g, off, hq, cg⟩ := hr2 k (by simpa using hlt) 0 _ rfl
      simp only [List.getElem_map, Nat.mul_one, Nat.add_zero] at cg
      subst hq
      replace cg := cell_below hbr cg
      have hxk := hx _ (List.getElem_mem hlt)
      have hsl := (hs2 _ (List.getElem_mem hlt)).below hbr
      have hF := layFind_any xs[k].1 xs[k].2 key b wr hsl hxk.2.1 hxk.1
      have HA : Hid (∀ (B : List Ly), pickE b (atK key ((xs.take k).map (·.2) ++ B).flatten) = pickE b (atK key B.flatten)) := fun B => pick_layers b key _ B (fun y hy => by obtain ⟨x, hx, rfl⟩ := List.mem_map.1 hy; exact hno x hx)
      have HT : Hid (xs = xs.take k ++ xs[k] :: xs.drop (k + 1)) := by show _ = _; rw [← List.drop_eq_getElem_cons hlt, List.take_append_drop]
      have HT2 : Hid (xs.take (k + 1) = xs.take k ++ [xs[k]]) := List.take_succ_eq_append_getElem hlt
      generalize xs[k] = x at *
      obtain ⟨⟨xa, xn, xc⟩, xl⟩ := x
      rw [show slV (xa, xn, xc) = Value.slice xa xn xc from rfl] at cg hF
      simp only at hF hxk
      cases hp : pickE b (atK key xl) with
      | none =>
        have HP : Hid (pickE b (atK key xl) = none) := hp
        clear hp
        go_wp2_with (go_at_call 160; refine hF.mono ?_; rintro e w3 ⟨hfe, hb3⟩; have := FoundE.isNo HP.out hfe; subst this; clear hfe)
        go_roundw
        case rel => exact ⟨k + 1, by go_num, by omega, fun y hy => by
            rw [HT2.out] at hy
            rcases List.mem_append.1 hy with hy | hy
            · exact hno y hy
            · rw [List.mem_singleton] at hy; subst hy; exact HP.out, (hbr.trans (hb3.mono hbr.size)).alloc (by have := hbr.size; have := hb3.size; omega) _⟩
        case measure => simp [intOf]; omega
      | some en =>
        have HP : Hid (pickE b (atK key xl) = some en) := hp
        have hen : en.op.val.length ≤ 1048576 := hxk.2.2 en (List.mem_filter.1 (List.mem_of_find?_eq_some hp)).1
        clear hp
        have hCl := fun w' => sCl (n := en.op.val) (by omega) w'
        go_wp2_with (go_at_call 160; refine hF.mono ?_; rintro e w3 ⟨hfe, hb3⟩; have := FoundE.isYes HP.out hfe; subst this; clear hfe)
        have hSd : Below (w3.heap.size + 1) (w3.alloc (.cells #[str en.op.key, str en.op.val, .bool en.op.gone, .int .i64 en.batch] 205)) (w3.alloc (.cells #[str en.op.key, str en.op.val, .bool en.op.gone, .int .i64 en.batch] 205)).drew := (Below.refl _ _).drew
        have cB := fun w' (h : Below (w3.heap.size + 1) (w3.alloc (.cells #[str en.op.key, str en.op.val, .bool en.op.gone, .int .i64 en.batch] 205)) w') => cells4 (block_at2 (block_new w3 (.cells #[str en.op.key, str en.op.val, .bool en.op.gone, .int .i64 en.batch] 205)) (h.mono (by simp)))
        refine wp_calm ?_
        refine wp_region_E (S := fun w' => Below (w3.heap.size + 1) (w3.alloc (.cells #[str en.op.key, str en.op.val, .bool en.op.gone, .int .i64 en.batch] 205)) w') (by kernel_rfl) ?_
        refine wpAnyE_take (i := 0) (L := 1) (v := .pointer (some ⟨w3.heap.size, 0, none⟩)) rfl rfl (by decide) (by kernel_rfl) (by kernel_rfl) (by kernel_rfl) (by kernel_rfl) (by kernel_rfl) (fun _ _ _ h => h) (Or.inl ⟨by rfl, fun w' hS => ?_⟩) hSd ?_
        · skip
          go_simp
        refine wpAnyE_take (i := 1) (L := 2) (v := .pointer (some ⟨w3.heap.size, 1, none⟩)) rfl rfl (by decide) (by kernel_rfl) (by kernel_rfl) (by kernel_rfl) (by kernel_rfl) (by kernel_rfl) (fun _ _ _ h => h) (Or.inl ⟨by rfl, fun w' hS => ?_⟩) hSd ?_
        · skip
          go_simp
        refine wpAnyE_take (i := 2) (L := 3) (v := str en.op.val) rfl rfl (by decide) (by kernel_rfl) (by kernel_rfl) (by kernel_rfl) (by kernel_rfl) (by kernel_rfl) (fun _ _ _ h => h) (Or.inl ⟨by rfl, fun w' hS => ?_⟩) hSd ?_
        · obtain ⟨d0, d1, d2, d3, _⟩ := cB w' hS
          go_simp
        refine wpAnyE_take (i := 4) (L := 5) (v := .pointer (some ⟨w3.heap.size, 0, none⟩)) rfl rfl (by decide) (by kernel_rfl) (by kernel_rfl) (by kernel_rfl) (by kernel_rfl) (by kernel_rfl) (fun _ _ _ h => h) (Or.inl ⟨by rfl, fun w' hS => ?_⟩) hSd ?_
        · skip
          go_simp
        refine wpAnyE_take (i := 5) (L := 6) (v := .pointer (some ⟨w3.heap.size, 2, none⟩)) rfl rfl (by decide) (by kernel_rfl) (by kernel_rfl) (by kernel_rfl) (by kernel_rfl) (by kernel_rfl) (fun _ _ _ h => h) (Or.inl ⟨by rfl, fun w' hS => ?_⟩) hSd ?_
        · skip
          go_simp
        refine wpAnyE_take (i := 6) (L := 7) (v := .bool en.op.gone) rfl rfl (by decide) (by kernel_rfl) (by kernel_rfl) (by kernel_rfl) (by kernel_rfl) (by kernel_rfl) (fun _ _ _ h => h) (Or.inl ⟨by rfl, fun w' hS => ?_⟩) hSd ?_
        · obtain ⟨d0, d1, d2, d3, _⟩ := cB w' hS
          go_simp
        refine wpAnyE_take (i := 7) (L := 9) (v := .bool (!en.op.gone)) rfl rfl (by decide) (by kernel_rfl) (by kernel_rfl) (by kernel_rfl) (by kernel_rfl) (by kernel_rfl) (fun _ _ _ h => h) (Or.inl ⟨by rfl, fun w' hS => ?_⟩) hSd ?_
        · skip
          go_simp
        refine wpAnyE_one (i := 3) (by kernel_rfl) rfl (by rfl) (fun K hK => ?_)
        go_simp
        refine (hCl _).mono ?_
        rintro e w4 ⟨rfl, hb4⟩
        have hB4 := hSd.trans (hb4.mono (by simp))
        refine hK.out _ _ hB4 ?_
        clear hK
        refine wpAnyE_one (i := 8) (by kernel_rfl) rfl (by rfl) (fun K hK => ?_)
        go_simp
        refine hK.out _ _ hB4 ?_
        clear hK
        refine wpAnyE_one (i := 9) (by kernel_rfl) rfl (by rfl) (fun K hK => ?_)
        go_simp
        refine hK.out _ _ hB4 ?_
        clear hK
        refine wpAnyE_last (i := 10) (by kernel_rfl) rfl (by rfl) (by kernel_rfl) (by kernel_rfl) (fun K hK => ?_)
        go_simp
        refine hK.out _ _ ?_
        clear hK hCl cB
        go_wp2
        go_ret3
        have E : pickE b (atK key (xs.map (·.2)).flatten) = some en := by
          rw [HT.out, List.map_append, HA.out, List.map_cons, List.flatten_cons, atK_app, pick_app]
          simp only
          rw [HP.out]
          rfl
        rw [E]
        refine ⟨rfl, ?_⟩
        have z := hBr.size
        have z3 := hb3.size
        exact ((hBr.trans (hb3.mono hBr.size)).alloc (by omega) _).trans (hB4.mono (by omega))
    · have E : Hid (pickE b (atK key (xs.map (·.2)).flatten) = none) := by
        show _ = _
        have := pick_layers b key (xs.map (·.2)) [] (fun y hy => by obtain ⟨x, hx, rfl⟩ := List.mem_map.1 hy; exact hno x (by rw [List.take_of_length_le (by omega)]; exact hx))
        rw [List.append_nil] at this
        rw [this]; rfl
      go_wp2
      go_ret3
      rw [E.out]
      exact ⟨rfl, hBr⟩
end Go.Proofs.YtoabedkcieindaaGreatDoor


