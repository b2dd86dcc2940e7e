import Derived.Test.YtoabedkcieindabGreatDoorQkBD
import Derived.Test.YtoabedkcieindabGreatDoorQkAS
import Derived.Test.YtoabedkcieindabGreatDoorQkAJ
import Derived.Test.YtoabedkcieindabGreatDoorQkAO
namespace Go.Proofs.YtoabedkcieindabGreatDoor
open Go.RowKit Go.Maps Go.Sort Go.Shelf
variable {Q : Sq}
structure Wg (w : World) (U : Nat → Prop) (bx bz : Nat) (lv : Value) (M : Mp) (left C : Nat) (Q : Sq) : Prop where
  shop : ∃ n c, Lg w U bx bz M n c Q ∧ n + left ≤ 110 ∧ c + left ≤ C
  up : ∀ k, U k → k < w.heap.size
  row : PRowS w U lv M
theorem Wg.below {w w' : World} {bx bz : Nat} {lv : Value} {U : Nat → Prop} {M : Mp} {left C : Nat} (h : Wg w U bx bz lv M left C Q) (hb : Below w.heap.size w w') : Wg w' U bx bz lv M left C Q := by
  obtain ⟨n, c, h1, h2, h3⟩ := h.shop
  exact ⟨⟨n, c, h1.below hb, h2, h3⟩, fun k s => Nat.lt_of_lt_of_le (h.up k s) hb.size, h.row.below hb⟩
theorem Lg.inv {w : World} {U : Nat → Prop} {bx bz : Nat} {M : Mp} {n c : Nat} (h : Lg w U bx bz M n c Q) : rising M ∧ M.length ≤ n := by
  obtain ⟨d, st, hx, hl⟩ := h
  exact ⟨hl.rise, hl.mlen⟩
set_option maxHeartbeats 1000000 in
set_option maxRecDepth 20000 in
theorem wrote_lg (bx bz : Nat) (lv : Value) (M : Mp) (left C : Nat) (U : Nat → Prop) (q : Option Addr) (qc : Nat) (L : List DoV) (w : World) (hCC : C ≤ 1000000000) (hW : Wg w U bx bz lv M left C Q) (hl : L.length ≤ 1048576) (hL : Dop w q L) (hq : ∀ a, q = some a → 0 < L.length → ¬ U a.block) (hok : ∀ o ∈ L, DoOk w o ∧ DoOut U o) :
    Calls Tryz.prog 9 #[.pointer (some ⟨bz, 0, none⟩), lv, .slice q L.length qc, .int .i64 left] w fun e w' => ∃ v left' U' M', e = .returned (.tuple #[v, .int .i64 ((left' : Nat) : Int), .bool true]) ∧ Wg w' U' bx bz v M' left' C Q ∧ (∀ k, U' k → Nw U w k) ∧ Kp U w w' := by
  go_enter Tryz.func9, Tryz.ntmps9
  go_wp2
  go_loopw [1, 3, 11] (fun v lf i wr => ∃ (k left' : Nat) (U' : Nat → Prop) (M' : Mp), k ≤ L.length ∧ i = .int .i64 k ∧ lf = .int .i64 left' ∧ Wg wr U' bx bz v M' left' C Q ∧ (∀ k, U' k → Nw U w k) ∧ Kp U w wr) (fun _ _ i _ => L.length - (intOf i).toNat)
  case atStart => exact ⟨0, left, U, M, Nat.zero_le _, rfl, rfl, hW, fun k s => .inl s, Kp.refl _ _⟩
  case round =>
    obtain ⟨k, left', U', M', hk, rfl, rfl, hC, hU, kp⟩ := hrel
    have hs := kp.size
    by_cases hlt : k < L.length
    · obtain ⟨g, off, rfl, c0, c1, c2, c3⟩ := (hL.kept kp hq) k hlt
      obtain ⟨hdo, hout⟩ := hok L[k] (List.getElem_mem hlt)
      have hT := tidied_any L[k].q L[k].qc L[k].ops wr (hdo.opp.kept kp hout) hdo.ox (by have := hdo.len; omega)
      have hbk := tidy_ok L[k].ops
      have hox := tidy_ox L[k].ops
      have hb8 := (batchOk_iff.1 hbk).1
      generalize tidyL L[k].ops = T at *
      obtain ⟨n', c', hLg, hcnt, hcc⟩ := hC.shop
      obtain ⟨hrise, hml⟩ := hLg.inv
      by_cases hfit : T.length ≤ left'
      · go_wp2_with (go_at_call 27; refine hT.mono ?_; rintro e w7 ⟨v7, rfl, hb7, ho7⟩; obtain ⟨q7, c7, rfl, hp7, hn7⟩ := ho7.opp; clear hT)
        have hC7 := hC.below hb7
        have hk7 := kp_below kp hb7
        have hsz := hb7.size
        have hnU : ∀ a, q7 = some a → 0 < T.length → ¬ U' a.block := fun a ha _ s => by have := (hn7 a ha).1; have := hC.up _ s; omega
        have hXB := xBatch_lg bx bz U' M' n' c' q7 c7 T w7 (hLg.below hb7) (by omega) hbk (by omega) hox hp7 hnU
        refine hXB.mono ?_
        rintro e w8 ⟨rfl, hS8, k8⟩
        clear hXB
        have hrow8 := hC7.row.step k8
        have hp8 := hp7.kept k8 hnU
        have hk8 : Kp U w w8 := hk7.trans k8 (fun i hi s => (hU i s).elim id (fun h => by omega))
        go_wp2_with (go_at_call 29; refine (behind_row (fun i => Nw U' w7 i ∧ i < w8.heap.size) _ M' q7 c7 T w8 (fun k s => s.2) hrow8 hrise hp8 (by omega)).mono ?_; rintro e w9 ⟨v9, rfl, hb9, hr9⟩)
        go_roundw
        case rel =>
          exact ⟨k + 1, left' - T.length, _, _, by omega, by go_num, by go_num, ⟨⟨_, _, (hS8.mono (V := fun i => Nw U' w7 i ∧ i < w8.heap.size) (fun i hi s => ⟨s, hi⟩)).below hb9, by omega, by omega⟩, fun i s => Nat.lt_of_lt_of_le s.2 hb9.size, hr9⟩, fun i s => s.1.elim (fun u => hU i u) (fun u => .inr (by omega)), kp_below hk8 hb9⟩
        case measure => simp [intOf]; omega
      · have hfit' : left' < T.length := by omega
        go_wp2_with (go_at_call 27; refine hT.mono ?_; rintro e w7 ⟨v7, rfl, hb7, ho7⟩; obtain ⟨q7, c7, rfl, hp7, hn7⟩ := ho7.opp; clear hT)
        go_ret3
        exact ⟨_, left', U', M', rfl, hC.below hb7, hU, kp_below kp hb7⟩
    · go_wp2
      go_ret3
      exact ⟨_, left', U', M', rfl, hC, hU, kp⟩
theorem xSnap1 (bx bz : Nat) (U : Nat → Prop) (M : Mp) (n c : Nat) (w : World) (h : Lg w U bx bz M n c ⟨0, []⟩) (hn : n ≤ 110) :
    Calls Tryz.prog 20 #[.pointer (some ⟨bz, 0, none⟩)] w fun e w' => e = .returned (.tuple #[.int .i64 1, .int .i64 0]) ∧ (∃ b, Lg w' U bx bz M n c ⟨1, [(1, b, M)]⟩) ∧ Kp U w w' := by
  refine (xSnap_lg bx bz U M n c w h hn ⟨by decide, by decide⟩).mono ?_
  rintro e w' ⟨rfl, ⟨b, hb⟩, k⟩
  exact ⟨rfl, ⟨b, hb⟩, k⟩
end Go.Proofs.YtoabedkcieindabGreatDoor



namespace Go.Proofs.YtoabedkcieindabGreatDoor
section reg
variable {P : Program} {ops : Array Oper} {Q : Exit → Act → World → Prop} {md : Region.Mode} {S : World → Prop} {c : Nat}
def wpAnyC (P : Program) (md : Region.Mode) (ops : Array Oper) (Q : Exit → Act → World → Prop) (S : World → Prop) (c : Nat) : Nat → Array Bool → Act → World → Prop
  | 0, listed, a, w => Region.ready md ops listed = [] ∧ Q .normal a w
  | fuel + 1, listed, a, w =>
    (Region.ready md ops listed = [] → Q .normal a w) ∧
    ∀ i ∈ Region.ready md ops listed, wpOp P ops Q i (fun a' w' => ((listed.setIfInBounds i true).getD c true = false → S w') ∧ wpAnyC P md ops Q S c fuel (listed.setIfInBounds i true) a' w') a w
theorem any_of_C : ∀ (fuel : Nat) (listed : Array Bool) (a : Act) (w : World), wpAnyC P md ops Q S c fuel listed a w → wpAny P md ops Q fuel listed a w
  | 0, _, _, _, h => h
  | fuel + 1, _, _, _, h => ⟨h.1, fun i hi => wpOp_mono (fun a' w' h' => any_of_C fuel _ a' w' h'.2) (h.2 i hi)⟩
def waits (md : Region.Mode) (ops : Array Oper) (i : Nat) (p : List Nat) : Bool :=
  p.all fun L => match ops[L]? with | some o => o.after.any (fun e => Region.binds md e && (e.on == i || p.contains e.on)) | none => false
theorem wpAnyC_first {i : Nat} {p : List Nat} {oi : Oper} {v : Value} (hi : ops[i]? = some oi) (hp : waits md ops i p = true) (hpi : i ∉ p) (hc : c ∈ p)
    (hsel : ∀ (j : Nat) (o : Oper) cs b, ops[j]? = some o → o.op ≠ .select cs b) (hQ : ∀ c a w, Q (.panic c) (a.put oi.dst v) w → Q (.panic c) a w) :
    ∀ (fuel : Nat) (listed : Array Bool) (a : Act) (w : World), (∀ L ∈ p, listed.getD L true = false) →
      (∀ j oj, ops[j]? = some oj → j ≠ i → listed.getD j true = false → (∀ e ∈ oj.after, Region.binds md e = true → e.on ≠ i) → oi.apart ops oj = true) →
      i ∈ Region.ready md ops listed → YieldsIf P ops S oi v a → S w →
      wpAnyC P md ops Q S c fuel (listed.setIfInBounds i true) (a.put oi.dst v) w → wpAnyC P md ops Q S c (fuel + 1) listed a w := by
  intro fuel
  induction fuel with
  | zero =>
    intro listed a w _ _ hr hy hS H
    refine ⟨fun h => (by rw [h] at hr; cases hr), fun j hj => ?_⟩
    by_cases hji : j = i
    · subst hji; exact hy.wpOp hi hS ⟨fun _ => hS, H⟩
    · have := ready_mono hj hji
      rw [H.1] at this
      cases this
  | succ fuel ih =>
    intro listed a w hLl hfree hr hy hS H
    refine ⟨fun h => (by rw [h] at hr; cases hr), fun j hj => ?_⟩
    by_cases hji : j = i
    · subst hji; exact hy.wpOp hi hS ⟨fun _ => hS, H⟩
    · have h1 := H.2 j (ready_mono hj hji)
      obtain ⟨hjun, oj, hoj, hall⟩ := mem_ready.1 hj
      have off : ∀ k, listed.getD k true = false → ∀ e ∈ oj.after, Region.binds md e = true → e.on ≠ k := fun k k0 e he hbd heq => by
        have k1 := hall e he hbd
        rw [heq] at k1
        rcases Nat.lt_or_ge k listed.size with h' | h'
        · simp [h'] at k0 k1; rw [k0] at k1; cases k1
        · simp [Array.getElem?_eq_none h'] at k1
      have hnot := off i (mem_ready.1 hr).1
      have hLj : j ∉ p := fun hjp => by
        have := List.all_eq_true.1 hp j hjp
        rw [hoj] at this
        simp only at this
        obtain ⟨k, hk, h1⟩ := Array.any_eq_true.1 this
        simp only [Bool.and_eq_true, Bool.or_eq_true, beq_iff_eq, List.contains_iff_mem] at h1
        rcases h1.2 with h2 | h2
        · exact hnot _ (Array.getElem_mem hk) h1.1 h2
        · exact off _ (hLl _ h2) _ (Array.getElem_mem hk) h1.1 rfl
      have h2 := wpOp_putIf hoj (hfree j oj hoj hji hjun hnot) (fun cs b => hsel i oi cs b hi) (fun cs b => hsel j oj cs b hoj) hQ hy h1
      have hfree' : ∀ k ok, ops[k]? = some ok → k ≠ i → (listed.setIfInBounds j true).getD k true = false →
          (∀ e ∈ ok.after, Region.binds md e = true → e.on ≠ i) → oi.apart ops ok = true := fun k ok hk hki hun hno => by
        refine hfree k ok hk hki ?_ hno
        by_cases hjk : j = k
        · subst hjk; exact hjun
        · rw [getD_set_ne true hjk] at hun; exact hun
      have hLset : ∀ L ∈ p, (listed.setIfInBounds j true).getD L true = false := fun L hL => by rw [getD_set_ne true (show j ≠ L from fun e => hLj (by rw [e]; exact hL))]; exact hLl L hL
      have hLset2 : ((listed.setIfInBounds i true).setIfInBounds j true).getD c true = false := by rw [getD_set_ne true (show j ≠ c from fun e => hLj (by rw [e]; exact hc)), getD_set_ne true (show i ≠ c from fun e => hpi (by rw [e]; exact hc))]; exact hLl c hc
      refine wpOp_mono (fun a' w' h3 => ?_) h2
      have hS' := h3.2.1 hLset2
      refine ⟨fun _ => hS', ih (listed.setIfInBounds j true) a' w' hLset hfree' (ready_mono hr (Ne.symm hji)) h3.1 hS' ?_⟩
      rw [Array.setIfInBounds_comm _ _ hji]
      exact h3.2.2
theorem wpAnyC_take {i : Nat} (p : List Nat) {oi : Oper} {v : Value} {fuel : Nat} {listed : Array Bool} {a : Act} {w : World} (hi : ops[i]? = some oi) (hp : (waits md ops i p && p.contains c && !p.contains i && p.all (fun L => listed.getD L true == false)) = true)
    (hs : Region.noSelect ops = true) (hf : Region.free md ops listed i = true) (hr : (Region.ready md ops listed).contains i = true)
    (hQ : ∀ c a w, Q (.panic c) (a.put oi.dst v) w → Q (.panic c) a w) (hy : YieldsIf P ops S oi v a) (hS : S w)
    (h : wpAnyC P md ops Q S c fuel (listed.setIfInBounds i true) (a.put oi.dst v) w) : wpAnyC P md ops Q S c (fuel + 1) listed a w := by
  simp only [Bool.and_eq_true, List.contains_iff_mem, Bool.not_eq_true', List.all_eq_true, beq_iff_eq] at hp
  refine wpAnyC_first hi hp.1.1.1 (fun hm => ?_) hp.1.1.2 (Region.noSelect_spec hs) hQ fuel listed a w hp.2 (Region.free_spec hi hf) (by simpa using hr) hy hS h
  have := hp.1.2
  rw [List.contains_iff_mem.2 hm] at this
  cases this
theorem wpAnyC_idle0 {i : Nat} {oi : Oper} {v : Value} (hi : ops[i]? = some oi) (hic : i ≠ c)
    (hsel : ∀ (j : Nat) (o : Oper) cs b, ops[j]? = some o → o.op ≠ .select cs b) (hQ : ∀ c a w, Q (.panic c) (a.put oi.dst v) w → Q (.panic c) a w) :
    ∀ (fuel : Nat) (listed : Array Bool) (a : Act) (w : World),
      (∀ j oj, ops[j]? = some oj → j ≠ i → listed.getD j true = false → (∀ e ∈ oj.after, Region.binds md e = true → e.on ≠ i) → oi.apart ops oj = true) →
      i ∈ Region.ready md ops listed → YieldsIf P ops (fun _ => True) oi v a → (listed.getD c true = false → S w) →
      wpAnyC P md ops Q S c fuel (listed.setIfInBounds i true) (a.put oi.dst v) w → wpAnyC P md ops Q S c (fuel + 1) listed a w := by
  intro fuel
  induction fuel with
  | zero =>
    intro listed a w _ hr hy hS H
    refine ⟨fun h => (by rw [h] at hr; cases hr), fun j hj => ?_⟩
    by_cases hji : j = i
    · subst hji; exact hy.wpOp hi trivial ⟨fun h => hS (by rw [getD_set_ne true hic] at h; exact h), H⟩
    · have := ready_mono hj hji
      rw [H.1] at this
      cases this
  | succ fuel ih =>
    intro listed a w hfree hr hy hS H
    refine ⟨fun h => (by rw [h] at hr; cases hr), fun j hj => ?_⟩
    by_cases hji : j = i
    · subst hji; exact hy.wpOp hi trivial ⟨fun h => hS (by rw [getD_set_ne true hic] at h; exact h), H⟩
    · have h1 := H.2 j (ready_mono hj hji)
      obtain ⟨hjun, oj, hoj, hall⟩ := mem_ready.1 hj
      have hnot : ∀ e ∈ oj.after, Region.binds md e = true → e.on ≠ i := fun e he hbd heq => by
        have k1 := hall e he hbd
        have k0 := (mem_ready.1 hr).1
        rw [heq] at k1
        rcases Nat.lt_or_ge i listed.size with h' | h'
        · simp [h'] at k0 k1; rw [k0] at k1; cases k1
        · simp [Array.getElem?_eq_none h'] at k1
      have h2 := wpOp_putIf hoj (hfree j oj hoj hji hjun hnot) (fun cs b => hsel i oi cs b hi) (fun cs b => hsel j oj cs b hoj) hQ hy h1
      have hfree' : ∀ k ok, ops[k]? = some ok → k ≠ i → (listed.setIfInBounds j true).getD k true = false →
          (∀ e ∈ ok.after, Region.binds md e = true → e.on ≠ i) → oi.apart ops ok = true := fun k ok hk hki hun hno => by
        refine hfree k ok hk hki ?_ hno
        by_cases hjk : j = k
        · subst hjk; exact hjun
        · rw [getD_set_ne true hjk] at hun; exact hun
      refine wpOp_mono (fun a' w' h3 => ?_) h2
      have hS' : (listed.setIfInBounds j true).getD c true = false → S w' := fun h => h3.2.1 (by rw [Array.setIfInBounds_comm _ _ (Ne.symm hji), getD_set_ne true hic]; exact h)
      refine ⟨hS', ih (listed.setIfInBounds j true) a' w' hfree' (ready_mono hr (Ne.symm hji)) h3.1 hS' ?_⟩
      rw [Array.setIfInBounds_comm _ _ hji]
      exact h3.2.2
theorem wpAnyC_idle {i : Nat} {oi : Oper} {v : Value} {fuel : Nat} {listed : Array Bool} {a : Act} {w : World} (hi : ops[i]? = some oi) (hic : i ≠ c)
    (hs : Region.noSelect ops = true) (hf : Region.free md ops listed i = true) (hr : (Region.ready md ops listed).contains i = true)
    (hQ : ∀ c a w, Q (.panic c) (a.put oi.dst v) w → Q (.panic c) a w) (hy : YieldsIf P ops (fun _ => True) oi v a) (hS : S w)
    (h : wpAnyC P md ops Q S c fuel (listed.setIfInBounds i true) (a.put oi.dst v) w) : wpAnyC P md ops Q S c (fuel + 1) listed a w :=
  wpAnyC_idle0 hi hic (Region.noSelect_spec hs) hQ fuel listed a w (Region.free_spec hi hf) (by simpa using hr) hy (fun _ => hS) h
theorem wpAnyC_one {i : Nat} {o : Oper} {fuel : Nat} {listed : Array Bool} {a : Act} {w : World} (hr : Region.ready md ops listed = [i]) (ho : ops[i]? = some o) (hw : Region.wanted o (yielded ops a.tmps) = true)
    (h : ∀ K : Act → World → Prop, Shut (∀ a' w', S w' → wpAnyC P md ops Q S c fuel (listed.setIfInBounds i true) a' w' → K a' w') → o.wp P a w K Q) : wpAnyC P md ops Q S c (fuel + 1) listed a w := by
  refine ⟨fun h0 => (by rw [hr] at h0; cases h0), fun j hj => ?_⟩
  rw [hr] at hj
  obtain rfl : j = i := by simpa using hj
  unfold wpOp
  rw [ho]
  simp only [hw, if_true]
  exact .inl (h _ (fun a' w' hS hW => ⟨fun _ => hS, hW⟩))
theorem wpAnyC_past {i : Nat} {o : Oper} {fuel : Nat} {listed : Array Bool} {a : Act} {w : World} (hr : Region.ready md ops listed = [i]) (ho : ops[i]? = some o) (hw : Region.wanted o (yielded ops a.tmps) = true) (hc : (listed.setIfInBounds i true).getD c true = true)
    (h : ∀ K : Act → World → Prop, Shut (∀ a' w', wpAnyC P md ops Q S c fuel (listed.setIfInBounds i true) a' w' → K a' w') → o.wp P a w K Q) : wpAnyC P md ops Q S c (fuel + 1) listed a w := by
  refine ⟨fun h0 => (by rw [hr] at h0; cases h0), fun j hj => ?_⟩
  rw [hr] at hj
  obtain rfl : j = i := by simpa using hj
  unfold wpOp
  rw [ho]
  simp only [hw, if_true]
  exact .inl (h _ (fun a' w' hW => ⟨fun hf => (by rw [hc] at hf; cases hf), hW⟩))
theorem wpAnyC_done {listed : Array Bool} {a : Act} {w : World} (hr : Region.ready md ops listed = []) (h : Q .normal a w) : ∀ fuel, wpAnyC P md ops Q S c fuel listed a w
  | 0 => ⟨hr, h⟩
  | _ + 1 => ⟨fun _ => h, by rw [hr]; simp⟩
end reg
theorem wp_region_C {P : Program} {id : Nat} {ops : Array Oper} {Q : Exit → Act → World → Prop} {a : Act} {w : World} (S : World → Prop) (c : Nat) (hm : P.follows .mixedOrders = true)
    (h : wpAnyC P .any ops Q S c ops.size (Array.replicate ops.size false) a w.drew) : (Code.region id ops true).wp P Q a w :=
  wp_region_any hm (any_of_C _ _ _ _ h)
end Go.Proofs.YtoabedkcieindabGreatDoor

namespace Go.Proofs.YtoabedkcieindabGreatDoor
open Go.RowKit Go.Maps Go.Sort Go.Shelf
def idxF : List Nat → Int → Int → Int
  | [], _, _ => -1
  | x :: r, n, k => if (x : Int) = n then k else idxF r n (k + 1)
set_option maxHeartbeats 400000 in
set_option maxRecDepth 20000 in
theorem indexOf1_any (xn xl : Nat) (xa : Option Addr) (xm xc B : Nat) (n : Int) (w : World) (hB : w.cell? ⟨B, 0, none⟩ = some (.int .i64 n)) :
    Calls Tryz.prog 191 #[.agg #[.int .i64 xn, .int .i64 xl, .slice xa xm xc], .pointer (some ⟨B, 0, none⟩)] w fun e w' => e = .returned (.bool ((xn : Int) == n)) ∧ Below w.heap.size w w' := by
  have hb := (Below.refl w.heap.size w).alloc (Nat.le_refl _) (.cells #[.int .i64 xn, .int .i64 xl, .slice xa xm xc] 114)
  have cB := cell_below hb hB
  obtain ⟨b0, _⟩ := cells3 (block_new w (.cells #[.int .i64 xn, .int .i64 xl, .slice xa xm xc] 114))
  go_enter Tryz.func191, Tryz.ntmps191
  go_wp2
  go_ret
  exact ⟨rfl, hb⟩
set_option maxHeartbeats 400000 in
set_option maxRecDepth 20000 in
theorem indexFT_any (q : Option Addr) (qc : Nat) (l : List Tr) (B : Nat) (n : Int) (w : World) (hs : TrAt w (q, l.length, qc) l) (hB : Boxed w B 3 (.int .i64 n)) (hl : l.length ≤ 1000000) :
    Calls Tryz.prog 190 #[.slice q l.length qc, .func (.func 191) #[] #[.pointer (some ⟨B, 0, none⟩)]] w fun e w' => e = .returned (.int .i64 (idxF (l.map (·.1.number)) n 0)) ∧ Below w.heap.size w w' := by
  go_enter Tryz.func190, Tryz.ntmps190
  go_wp2
  go_loopw [8] (fun i wr => ∃ k : Nat, i = .int .i64 k ∧ k ≤ l.length ∧ idxF (l.map (·.1.number)) n 0 = idxF ((l.map (·.1.number)).drop k) n k ∧ Below w.heap.size w wr) (fun i _ => l.length - (intOf i).toNat)
  case atStart => exact ⟨0, rfl, Nat.zero_le _, by simp, Below.refl _ _⟩
  case round =>
    obtain ⟨k, rfl, hk, hix, hb⟩ := hrel
    have HX : Hid _ := hix
    clear hix
    by_cases hlt : k < l.length
    · have hr := (hs.below hb).row
      obtain ⟨g, off, hq, c0⟩ := hr k hlt 0 _ rfl
      obtain ⟨_, _, e1, c1⟩ := hr k hlt 1 _ rfl
      obtain ⟨_, _, e2, c2⟩ := hr k hlt 2 _ rfl
      simp only at hq e1 e2
      subst hq
      cases e1
      cases e2
      rw [← Nat.add_assoc] at c0 c1 c2
      rw [Nat.add_zero] at c0
      have cB : wr.cell? ⟨B, 0, none⟩ = some (.int .i64 n) := cell_below hb hB.cell
      have HD : Hid ((l.map (·.1.number)).drop k = l[k].1.number :: (l.map (·.1.number)).drop (k + 1)) := by
        show _ = _
        rw [List.drop_eq_getElem_cons (by simpa using hlt)]; simp
      generalize l[k] = x at *
      obtain ⟨⟨xn, xl, xe⟩, ⟨xa, xm, xc⟩⟩ := x
      replace c2 := (show _ = some (Value.slice xa xm xc) from c2)
      simp only at c0 c1 HD
      have h1 := indexOf1_any xn xl xa xm xc B n wr cB
      clear cB
      by_cases hx : (xn : Int) = n
      · have hxb : ((xn : Int) == n) = true := by simpa using hx
        rw [hxb] at h1
        have HE : Hid (idxF (l.map (·.1.number)) n 0 = k) := by show _ = _; rw [HX.out, HD.out, idxF, if_pos hx]
        clear HX HD hx hxb
        go_wp2_with (go_at_call 191; refine h1.mono ?_; rintro e w1 ⟨rfl, hb1⟩)
        go_ret
        rw [HE.out]
        exact ⟨rfl, hb.trans (hb1.mono hb.size)⟩
      · have hxb : ((xn : Int) == n) = false := by simpa using hx
        rw [hxb] at h1
        have HE : Hid (idxF (l.map (·.1.number)) n 0 = idxF ((l.map (·.1.number)).drop (k + 1)) n ((k : Int) + 1)) := by show _ = _; rw [HX.out, HD.out, idxF, if_neg hx]
        clear HX HD hx hxb
        go_wp2_with (go_at_call 191; refine h1.mono ?_; rintro e w1 ⟨rfl, hb1⟩)
        go_roundw
        case rel => exact ⟨k + 1, by go_num, by omega, HE.out, hb.trans (hb1.mono hb.size)⟩
        case measure => simp [intOf]; omega
    · have HE : Hid (idxF (l.map (·.1.number)) n 0 = -1) := by show _ = _; rw [HX.out, List.drop_of_length_le (by simp; omega)]; rfl
      go_wp2
      go_ret
      rw [HE.out]
      exact ⟨rfl, hb⟩
set_option maxHeartbeats 400000 in
set_option maxRecDepth 20000 in
theorem indexOf_any (T bd bm bsn : Nat) (s : Sl) (l : List Tr) (st : Ls) (E : Nat → Prop) (n : Int) (w : World) (hL : LsAt w E T bd bm bsn s l st) (hll : l.length ≤ 1000) :
    Calls Tryz.prog 121 #[.pointer (some ⟨T, 0, none⟩), .int .i64 n] w fun e w' => e = .returned (.int .i64 (idxF (st.tabs.map (·.number)) n 0)) ∧ Below w.heap.size w w' := by
  obtain ⟨sq, sn, sc⟩ := s
  obtain rfl : sn = l.length := hL.tab.len
  have hb := (Below.refl w.heap.size w).alloc (Nat.le_refl _) (.cells #[.int .i64 n] 3)
  have c4 := cell_below hb (show w.cell? ⟨T, 4, none⟩ = some (.slice sq l.length sc) from hL.cell 4)
  have hF := indexFT_any sq sc l w.heap.size n _ (hL.tab.below hb) (block_new w (.cells #[.int .i64 n] 3)) (by omega)
  have e : st.tabs.map (·.number) = l.map (·.1.number) := by rw [← hL.is]; simp [Function.comp_def]
  rw [e]
  clear e
  go_enter Tryz.func121, Tryz.ntmps121
  go_wp2_with (go_at_call 190; refine hF.mono ?_; rintro e w1 ⟨rfl, hb1⟩)
  go_ret
  exact ⟨rfl, hb.trans (hb1.mono (by simp))⟩
end Go.Proofs.YtoabedkcieindabGreatDoor

namespace Go.Proofs.YtoabedkcieindabGreatDoor
open Go.RowKit Go.Maps Go.Sort Go.Shelf
def spanR (I : List Int) : Int × Int := if 0 ≤ I.getD 0 0 ∧ ∀ i, i < I.length → I.getD i 0 = I.getD 0 0 + i then (I.getD 0 0, I.getD 0 0 + I.length) else (0, 0)
theorem spanR_no {I : List Int} {k : Nat} (hk : k < I.length) (h : I.getD 0 0 < 0 ∨ I.getD k 0 ≠ I.getD 0 0 + k) : spanR I = (0, 0) := by
  unfold spanR
  rw [if_neg]
  rintro ⟨h1, h2⟩
  rcases h with h | h
  · omega
  · exact h (h2 k hk)
theorem spanR_yes {I : List Int} (h : ∀ i, i < I.length → 0 ≤ I.getD 0 0 ∧ I.getD i 0 = I.getD 0 0 + i) (h0 : 0 < I.length) : spanR I = (I.getD 0 0, I.getD 0 0 + I.length) := by
  unfold spanR
  rw [if_pos ⟨(h 0 h0).1, fun i hi => (h i hi).2⟩]
def idxs (st : Ls) (ns : List Nat) : List Int := ns.map fun n : Nat => idxF (st.tabs.map (·.number)) (n : Int) 0
theorem idxF_bnd (n : Int) : ∀ (l : List Nat) (k : Int), -1 ≤ k → -1 ≤ idxF l n k ∧ idxF l n k ≤ max (-1) (k + l.length)
  | [], k, h => by simp [idxF]; omega
  | x :: r, k, h => by
    have ih := idxF_bnd n r (k + 1) (by omega)
    rw [idxF]
    split
    · simp; omega
    · simp only [List.length_cons]; omega
set_option maxHeartbeats 1000000 in
set_option maxRecDepth 20000 in
theorem span_any (T bd bm bsn : Nat) (s : Sl) (l : List Tr) (st : Ls) (E : Nat → Prop) (q : Option Addr) (qc : Nat) (ns : List Nat) (w : World) (hL : LsAt w E T bd bm bsn s l st) (hll : l.length ≤ 1000) (hn : Inp w q ns) (h1 : 1 ≤ ns.length) (h2 : ns.length ≤ l.length) :
    Calls Tryz.prog 68 #[.pointer (some ⟨T, 0, none⟩), .slice q ns.length qc] w fun e w' => e = .returned (.tuple #[.int .i64 (spanR ((idxs st ns).mergeSort (fun x y => decide (x ≤ y)))).1, .int .i64 (spanR ((idxs st ns).mergeSort (fun x y => decide (x ≤ y)))).2]) ∧ Below w.heap.size w w' := by
  obtain ⟨i0, hi0, hz0, hz1, hz2⟩ := info_parts Tryz.infoN
  have hIx := fun (n : Int) w1 (hb : Below w.heap.size w w1) => indexOf_any T bd bm bsn s l st E n w1 (hL.below hb) hll
  obtain ⟨sq, sn, sc⟩ := s
  obtain rfl : sn = l.length := hL.tab.len
  have c4 : w.cell? ⟨T, 4, none⟩ = some (.slice sq l.length sc) := hL.cell 4
  obtain ⟨m, hm⟩ : ∃ m, ns.length = m := ⟨_, rfl⟩
  obtain ⟨M, hM⟩ : ∃ M, l.length = M := ⟨_, rfl⟩
  rw [hm] at h1 h2
  rw [hm]
  rw [hM] at c4 h2
  have hne : ¬ ((m : Int) = 0) := by omega
  have hne2 : ¬ ((M : Int) < (m : Int)) := by omega
  go_enter Tryz.func68, Tryz.ntmps68
  go_wp2
  clear c4
  go_loopw [6, 26] (fun v i wr => ∃ k : Nat, k ≤ m ∧ i = .int .i64 k ∧ OwnZ wr w.heap.size v (idxs st (ns.take k)) ∧ Below w.heap.size w wr) (fun _ i _ => m - (intOf i).toNat)
  case atStart => exact ⟨0, Nat.zero_le _, rfl, World.ownsRow_nil _ _ _ _, Below.refl _ _⟩
  case round =>
    obtain ⟨k, hk, rfl, hown, hb⟩ := hrel
    have hs := hb.size
    by_cases hlt' : k < m
    · have hlt : k < ns.length := by omega
      obtain ⟨g, off, rfl, c0⟩ := hn.below hb k hlt
      have HT : Hid (idxs st (ns.take (k + 1)) = idxs st (ns.take k) ++ [idxF (st.tabs.map (·.number)) ns[k] 0]) := by show _ = _; unfold idxs; rw [List.take_succ_eq_append_getElem hlt, List.map_append]; rfl
      have hlk : (idxs st (ns.take k)).length = k := by simp [idxs]; omega
      have hI := hIx ns[k] wr hb
      generalize idxF (st.tabs.map (·.number)) ns[k] 0 = ix at *
      generalize idxs st (ns.take k) = L at *
      subst hlk
      go_wp2_with (first
        | (go_at_call 121; refine hI.mono ?_; rintro e w1 ⟨rfl, hb1⟩; have hown1 : OwnZ w1 w.heap.size _ L := ownsRow_of_block hown (fun q hq => hb1.block q (World.ownsRow.lt hown q hq).2))
        | (at_builtin; refine wpList_append_own _ rfl (.tmp 30) (.tmp 34) 58 rfl w.heap.size 3 i0 _ 1 8 Tryz.underlying58 hi0 hz0 hz1 hz2 rfl (by decide) _ L.length (L.map eI) rfl (World.ownsRow.alloc hown1 _) ⟨w1.heap.size, 0, none⟩ 1 1 [eI ix] rfl rfl ?_ (by simp [Value.oneCell']) (by unfold maxLen; omega) (by omega) (by have := hb1.size; simp; omega) ?_; rotate_left; intro v' w2 hown' hgrow _)
        | go_in)
      · go_roundw
        case rel => exact ⟨L.length + 1, by omega, by go_num, by rw [HT.out]; unfold OwnZ; rw [List.length_append, List.map_append]; exact hown', ((hb.trans (hb1.mono hs)).alloc (by have := hb1.size; omega) _).grown hgrow (by have := hb1.size; simp; omega) (fun k hk => (World.ownsRow.lt hown k hk).1)⟩
        case measure => simp [intOf]; omega
      · intro j u hu
        rw [Addr.add_lit, Nat.zero_add]
        rw [cell_block (block_new w1 (.cells #[eI ix] 3))]
        simpa using hu
    · have E : Hid (ns.take k = ns) := List.take_of_length_le (by omega)
      rw [E.out] at hown
      have hil : (idxs st ns).length = m := by unfold idxs; rw [List.length_map]; exact hm
      have hSo := sortI_any _ w.heap.size (idxs st ns) wr hown (by omega)
      obtain ⟨q0, cap0, hv0, _⟩ := hown.at
      rw [hil] at hv0
      subst hv0
      have hJl : ((idxs st ns).mergeSort (fun x y => decide (x ≤ y))).length = m := by rw [List.length_mergeSort]; exact hil
      have hJb : ∀ x ∈ (idxs st ns).mergeSort (fun x y => decide (x ≤ y)), -1 ≤ x ∧ x ≤ 1000 := fun x hx => by
        obtain ⟨y, _, rfl⟩ := List.mem_map.1 (List.mem_mergeSort.1 hx)
        have := idxF_bnd (y : Int) (st.tabs.map (·.number)) 0 (by omega)
        rw [List.length_map, ← hL.is, List.length_map] at this
        rw [← hL.is]
        omega
      obtain ⟨J, hJJ⟩ : ∃ J, (idxs st ns).mergeSort (fun x y => decide (x ≤ y)) = J := ⟨_, rfl⟩
      rw [hJJ] at hSo hJl hJb
      have HJ : Hid ((idxs st ns).mergeSort (fun x y => decide (x ≤ y)) = J) := hJJ
      clear hJJ
      have hJ0 : 0 < J.length := by omega
      clear hown hil hIx
      go_wp2_with (go_at_call 122; refine hSo.mono ?_; rintro e w2 ⟨rfl, hoJ, kJ⟩; obtain ⟨q1, cap1, hv1, hcell⟩ := hoJ.at; obtain ⟨g, hg, d0⟩ := hcell 0 hJ0; rw [hg] at hv1; cases hv1)
      have hbJ : Below w.heap.size w w2 := ⟨kJ.os.trans hb.os, kJ.tape.trans hb.tape, kJ.output.trans hb.output, Nat.le_trans hb.size kJ.size, fun i hi => (kJ.block i (by omega) (fun e => by have := (World.ownsRow.lt hoJ i e).1; omega)).trans (hb.block i hi)⟩
      have hcel : ∀ i (hi : i < J.length), w2.cell? ⟨g, i, none⟩ = some (.int .i64 J[i]) := fun i hi => by
        obtain ⟨g', e', c'⟩ := hcell i hi
        rw [hg] at e'
        cases e'
        exact c'
      have hf0 : J.getD 0 0 = J[0] := by simp [List.getD_eq_getElem?_getD, hJ0]
      have hfb := hJb _ (List.getElem_mem hJ0)
      clear hcell d0
      generalize J[0] = f at *
      go_loopw [4, 5, 44] (fun a b i wr => ∃ k : Nat, a = .int .i64 f ∧ b = .int .i64 0 ∧ i = .int .i64 k ∧ k ≤ J.length ∧ wr = w2 ∧ ∀ j, j < k → 0 ≤ J.getD 0 0 ∧ J.getD j 0 = J.getD 0 0 + j) (fun _ _ i _ => J.length - (intOf i).toNat)
      case atStart => exact ⟨0, rfl, rfl, rfl, Nat.zero_le _, rfl, fun j hj => by omega⟩
      case round =>
        obtain ⟨k2, rfl, rfl, rfl, hk2, rfl, hpre⟩ := hrel
        have HP : Hid (∀ j, j < k2 → 0 ≤ J.getD 0 0 ∧ J.getD j 0 = J.getD 0 0 + j) := hpre
        clear hpre
        by_cases hl2 : k2 < J.length
        · have dk := hcel k2 hl2
          have hgk : J.getD k2 0 = J[k2] := by simp [List.getD_eq_getElem?_getD, hl2]
          have hkb := hJb _ (List.getElem_mem hl2)
          clear hcel
          generalize J[k2] = x at *
          by_cases hfn : f < 0
          · have HE : Hid (spanR J = (0, 0)) := spanR_no hl2 (.inl (by omega))
            go_wp2
            go_ret2
            rw [HJ.out, HE.out]
            exact ⟨rfl, hbJ⟩
          · by_cases hxf : x = f + k2
            · have HS : Hid (∀ j, j < k2 + 1 → 0 ≤ J.getD 0 0 ∧ J.getD j 0 = J.getD 0 0 + j) := fun j hj => by
                by_cases hjk : j < k2
                · exact HP.out j hjk
                · obtain rfl : j = k2 := by omega
                  exact ⟨by omega, by omega⟩
              clear HP hgk hf0
              go_wp2
              go_roundw
              case rel => exact ⟨k2 + 1, by first | rfl | trivial, by first | rfl | trivial, by go_num, by omega, by first | rfl | trivial, HS.out⟩
              case measure => simp [intOf]; omega
            · have HE : Hid (spanR J = (0, 0)) := spanR_no hl2 (.inr (by omega))
              clear HP hgk hf0
              go_wp2
              go_ret2
              rw [HJ.out, HE.out]
              exact ⟨rfl, hbJ⟩
        · have HE : Hid (spanR J = (f, f + J.length)) := by
            show _ = _
            rw [spanR_yes (fun i hi => HP.out i (by omega)) hJ0, hf0]
          clear HP hf0
          go_wp2
          go_ret2
          rw [HJ.out, HE.out]
          exact ⟨rfl, hbJ⟩
end Go.Proofs.YtoabedkcieindabGreatDoor
