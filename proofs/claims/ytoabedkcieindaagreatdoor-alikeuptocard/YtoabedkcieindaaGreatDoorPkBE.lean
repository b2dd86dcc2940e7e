import Derived.Test.YtoabedkcieindaaGreatDoorPkAJ
import Derived.Test.YtoabedkcieindaaGreatDoorPkBD
import Derived.Test.YtoabedkcieindaaGreatDoorPkAW
import Derived.Test.YtoabedkcieindaaGreatDoorPkAR
namespace Go.Proofs.YtoabedkcieindaaGreatDoor
section reg
variable {P : Program} {ops : Array Oper} {Q : Exit → Act → World → Prop} {md : Region.Mode} {S : World → Prop} {c : Nat}
def wpAnyC (P : Program) (md : Region.Mode) (ops : Array Oper) (Q : Exit → Act → World → Prop) (S : World → Prop) (c : Nat) : Nat → Array Bool → Act → World → Prop
  | 0, listed, a, w => Region.ready md ops listed = [] ∧ Q .normal a w
  | fuel + 1, listed, a, w =>
    (Region.ready md ops listed = [] → Q .normal a w) ∧
    ∀ i ∈ Region.ready md ops listed, wpOp P ops Q i (fun a' w' => ((listed.setIfInBounds i true).getD c true = false → S w') ∧ wpAnyC P md ops Q S c fuel (listed.setIfInBounds i true) a' w') a w
theorem any_of_C : ∀ (fuel : Nat) (listed : Array Bool) (a : Act) (w : World), wpAnyC P md ops Q S c fuel listed a w → wpAny P md ops Q fuel listed a w
  | 0, _, _, _, h => h
  | fuel + 1, _, _, _, h => ⟨h.1, fun i hi => wpOp_mono (fun a' w' h' => any_of_C fuel _ a' w' h'.2) (h.2 i hi)⟩
def waits (md : Region.Mode) (ops : Array Oper) (i : Nat) (p : List Nat) : Bool :=
  p.all fun L => match ops[L]? with | some o => o.after.any (fun e => Region.binds md e && (e.on == i || p.contains e.on)) | none => false
theorem wpAnyC_first {i : Nat} {p : List Nat} {oi : Oper} {v : Value} (hi : ops[i]? = some oi) (hp : waits md ops i p = true) (hpi : i ∉ p) (hc : c ∈ p)
    (hsel : ∀ (j : Nat) (o : Oper) cs b, ops[j]? = some o → o.op ≠ .select cs b) (hQ : ∀ c a w, Q (.panic c) (a.put oi.dst v) w → Q (.panic c) a w) :
    ∀ (fuel : Nat) (listed : Array Bool) (a : Act) (w : World), (∀ L ∈ p, listed.getD L true = false) →
      (∀ j oj, ops[j]? = some oj → j ≠ i → listed.getD j true = false → (∀ e ∈ oj.after, Region.binds md e = true → e.on ≠ i) → oi.apart ops oj = true) →
      i ∈ Region.ready md ops listed → YieldsIf P ops S oi v a → S w →
      wpAnyC P md ops Q S c fuel (listed.setIfInBounds i true) (a.put oi.dst v) w → wpAnyC P md ops Q S c (fuel + 1) listed a w := by
  intro fuel
  induction fuel with
  | zero =>
    intro listed a w _ _ hr hy hS H
    refine ⟨fun h => (by rw [h] at hr; cases hr), fun j hj => ?_⟩
    by_cases hji : j = i
    · subst hji; exact hy.wpOp hi hS ⟨fun _ => hS, H⟩
    · have := ready_mono hj hji
      rw [H.1] at this
      cases this
  | succ fuel ih =>
    intro listed a w hLl hfree hr hy hS H
    refine ⟨fun h => (by rw [h] at hr; cases hr), fun j hj => ?_⟩
    by_cases hji : j = i
    · subst hji; exact hy.wpOp hi hS ⟨fun _ => hS, H⟩
    · have h1 := H.2 j (ready_mono hj hji)
      obtain ⟨hjun, oj, hoj, hall⟩ := mem_ready.1 hj
      have off : ∀ k, listed.getD k true = false → ∀ e ∈ oj.after, Region.binds md e = true → e.on ≠ k := fun k k0 e he hbd heq => by
        have k1 := hall e he hbd
        rw [heq] at k1
        rcases Nat.lt_or_ge k listed.size with h' | h'
        · simp [h'] at k0 k1; rw [k0] at k1; cases k1
        · simp [Array.getElem?_eq_none h'] at k1
      have hnot := off i (mem_ready.1 hr).1
      have hLj : j ∉ p := fun hjp => by
        have := List.all_eq_true.1 hp j hjp
        rw [hoj] at this
        simp only at this
        obtain ⟨k, hk, h1⟩ := Array.any_eq_true.1 this
        simp only [Bool.and_eq_true, Bool.or_eq_true, beq_iff_eq, List.contains_iff_mem] at h1
        rcases h1.2 with h2 | h2
        · exact hnot _ (Array.getElem_mem hk) h1.1 h2
        · exact off _ (hLl _ h2) _ (Array.getElem_mem hk) h1.1 rfl
      have h2 := wpOp_putIf hoj (hfree j oj hoj hji hjun hnot) (fun cs b => hsel i oi cs b hi) (fun cs b => hsel j oj cs b hoj) hQ hy h1
      have hfree' : ∀ k ok, ops[k]? = some ok → k ≠ i → (listed.setIfInBounds j true).getD k true = false →
          (∀ e ∈ ok.after, Region.binds md e = true → e.on ≠ i) → oi.apart ops ok = true := fun k ok hk hki hun hno => by
        refine hfree k ok hk hki ?_ hno
        by_cases hjk : j = k
        · subst hjk; exact hjun
        · rw [getD_set_ne true hjk] at hun; exact hun
      have hLset : ∀ L ∈ p, (listed.setIfInBounds j true).getD L true = false := fun L hL => by rw [getD_set_ne true (show j ≠ L from fun e => hLj (by rw [e]; exact hL))]; exact hLl L hL
      have hLset2 : ((listed.setIfInBounds i true).setIfInBounds j true).getD c true = false := by rw [getD_set_ne true (show j ≠ c from fun e => hLj (by rw [e]; exact hc)), getD_set_ne true (show i ≠ c from fun e => hpi (by rw [e]; exact hc))]; exact hLl c hc
      refine wpOp_mono (fun a' w' h3 => ?_) h2
      have hS' := h3.2.1 hLset2
      refine ⟨fun _ => hS', ih (listed.setIfInBounds j true) a' w' hLset hfree' (ready_mono hr (Ne.symm hji)) h3.1 hS' ?_⟩
      rw [Array.setIfInBounds_comm _ _ hji]
      exact h3.2.2
theorem wpAnyC_take {i : Nat} (p : List Nat) {oi : Oper} {v : Value} {fuel : Nat} {listed : Array Bool} {a : Act} {w : World} (hi : ops[i]? = some oi) (hp : (waits md ops i p && p.contains c && !p.contains i && p.all (fun L => listed.getD L true == false)) = true)
    (hs : Region.noSelect ops = true) (hf : Region.free md ops listed i = true) (hr : (Region.ready md ops listed).contains i = true)
    (hQ : ∀ c a w, Q (.panic c) (a.put oi.dst v) w → Q (.panic c) a w) (hy : YieldsIf P ops S oi v a) (hS : S w)
    (h : wpAnyC P md ops Q S c fuel (listed.setIfInBounds i true) (a.put oi.dst v) w) : wpAnyC P md ops Q S c (fuel + 1) listed a w := by
  simp only [Bool.and_eq_true, List.contains_iff_mem, Bool.not_eq_true', List.all_eq_true, beq_iff_eq] at hp
  refine wpAnyC_first hi hp.1.1.1 (fun hm => ?_) hp.1.1.2 (Region.noSelect_spec hs) hQ fuel listed a w hp.2 (Region.free_spec hi hf) (by simpa using hr) hy hS h
  have := hp.1.2
  rw [List.contains_iff_mem.2 hm] at this
  cases this
theorem wpAnyC_idle0 {i : Nat} {oi : Oper} {v : Value} (hi : ops[i]? = some oi) (hic : i ≠ c)
    (hsel : ∀ (j : Nat) (o : Oper) cs b, ops[j]? = some o → o.op ≠ .select cs b) (hQ : ∀ c a w, Q (.panic c) (a.put oi.dst v) w → Q (.panic c) a w) :
    ∀ (fuel : Nat) (listed : Array Bool) (a : Act) (w : World),
      (∀ j oj, ops[j]? = some oj → j ≠ i → listed.getD j true = false → (∀ e ∈ oj.after, Region.binds md e = true → e.on ≠ i) → oi.apart ops oj = true) →
      i ∈ Region.ready md ops listed → YieldsIf P ops (fun _ => True) oi v a → (listed.getD c true = false → S w) →
      wpAnyC P md ops Q S c fuel (listed.setIfInBounds i true) (a.put oi.dst v) w → wpAnyC P md ops Q S c (fuel + 1) listed a w := by
  intro fuel
  induction fuel with
  | zero =>
    intro listed a w _ hr hy hS H
    refine ⟨fun h => (by rw [h] at hr; cases hr), fun j hj => ?_⟩
    by_cases hji : j = i
    · subst hji; exact hy.wpOp hi trivial ⟨fun h => hS (by rw [getD_set_ne true hic] at h; exact h), H⟩
    · have := ready_mono hj hji
      rw [H.1] at this
      cases this
  | succ fuel ih =>
    intro listed a w hfree hr hy hS H
    refine ⟨fun h => (by rw [h] at hr; cases hr), fun j hj => ?_⟩
    by_cases hji : j = i
    · subst hji; exact hy.wpOp hi trivial ⟨fun h => hS (by rw [getD_set_ne true hic] at h; exact h), H⟩
    · have h1 := H.2 j (ready_mono hj hji)
      obtain ⟨hjun, oj, hoj, hall⟩ := mem_ready.1 hj
      have hnot : ∀ e ∈ oj.after, Region.binds md e = true → e.on ≠ i := fun e he hbd heq => by
        have k1 := hall e he hbd
        have k0 := (mem_ready.1 hr).1
        rw [heq] at k1
        rcases Nat.lt_or_ge i listed.size with h' | h'
        · simp [h'] at k0 k1; rw [k0] at k1; cases k1
        · simp [Array.getElem?_eq_none h'] at k1
      have h2 := wpOp_putIf hoj (hfree j oj hoj hji hjun hnot) (fun cs b => hsel i oi cs b hi) (fun cs b => hsel j oj cs b hoj) hQ hy h1
      have hfree' : ∀ k ok, ops[k]? = some ok → k ≠ i → (listed.setIfInBounds j true).getD k true = false →
          (∀ e ∈ ok.after, Region.binds md e = true → e.on ≠ i) → oi.apart ops ok = true := fun k ok hk hki hun hno => by
        refine hfree k ok hk hki ?_ hno
        by_cases hjk : j = k
        · subst hjk; exact hjun
        · rw [getD_set_ne true hjk] at hun; exact hun
      refine wpOp_mono (fun a' w' h3 => ?_) h2
      have hS' : (listed.setIfInBounds j true).getD c true = false → S w' := fun h => h3.2.1 (by rw [Array.setIfInBounds_comm _ _ (Ne.symm hji), getD_set_ne true hic]; exact h)
      refine ⟨hS', ih (listed.setIfInBounds j true) a' w' hfree' (ready_mono hr (Ne.symm hji)) h3.1 hS' ?_⟩
      rw [Array.setIfInBounds_comm _ _ hji]
      exact h3.2.2
theorem wpAnyC_idle {i : Nat} {oi : Oper} {v : Value} {fuel : Nat} {listed : Array Bool} {a : Act} {w : World} (hi : ops[i]? = some oi) (hic : i ≠ c)
    (hs : Region.noSelect ops = true) (hf : Region.free md ops listed i = true) (hr : (Region.ready md ops listed).contains i = true)
    (hQ : ∀ c a w, Q (.panic c) (a.put oi.dst v) w → Q (.panic c) a w) (hy : YieldsIf P ops (fun _ => True) oi v a) (hS : S w)
    (h : wpAnyC P md ops Q S c fuel (listed.setIfInBounds i true) (a.put oi.dst v) w) : wpAnyC P md ops Q S c (fuel + 1) listed a w :=
  wpAnyC_idle0 hi hic (Region.noSelect_spec hs) hQ fuel listed a w (Region.free_spec hi hf) (by simpa using hr) hy (fun _ => hS) h
theorem wpAnyC_one {i : Nat} {o : Oper} {fuel : Nat} {listed : Array Bool} {a : Act} {w : World} (hr : Region.ready md ops listed = [i]) (ho : ops[i]? = some o) (hw : Region.wanted o (yielded ops a.tmps) = true)
    (h : ∀ K : Act → World → Prop, Shut (∀ a' w', S w' → wpAnyC P md ops Q S c fuel (listed.setIfInBounds i true) a' w' → K a' w') → o.wp P a w K Q) : wpAnyC P md ops Q S c (fuel + 1) listed a w := by
  refine ⟨fun h0 => (by rw [hr] at h0; cases h0), fun j hj => ?_⟩
  rw [hr] at hj
  obtain rfl : j = i := by simpa using hj
  unfold wpOp
  rw [ho]
  simp only [hw, if_true]
  exact .inl (h _ (fun a' w' hS hW => ⟨fun _ => hS, hW⟩))
theorem wpAnyC_past {i : Nat} {o : Oper} {fuel : Nat} {listed : Array Bool} {a : Act} {w : World} (hr : Region.ready md ops listed = [i]) (ho : ops[i]? = some o) (hw : Region.wanted o (yielded ops a.tmps) = true) (hc : (listed.setIfInBounds i true).getD c true = true)
    (h : ∀ K : Act → World → Prop, Shut (∀ a' w', wpAnyC P md ops Q S c fuel (listed.setIfInBounds i true) a' w' → K a' w') → o.wp P a w K Q) : wpAnyC P md ops Q S c (fuel + 1) listed a w := by
  refine ⟨fun h0 => (by rw [hr] at h0; cases h0), fun j hj => ?_⟩
  rw [hr] at hj
  obtain rfl : j = i := by simpa using hj
  unfold wpOp
  rw [ho]
  simp only [hw, if_true]
  exact .inl (h _ (fun a' w' hW => ⟨fun hf => (by rw [hc] at hf; cases hf), hW⟩))
theorem wpAnyC_done {listed : Array Bool} {a : Act} {w : World} (hr : Region.ready md ops listed = []) (h : Q .normal a w) : ∀ fuel, wpAnyC P md ops Q S c fuel listed a w
  | 0 => ⟨hr, h⟩
  | _ + 1 => ⟨fun _ => h, by rw [hr]; simp⟩
end reg
theorem wp_region_C {P : Program} {id : Nat} {ops : Array Oper} {Q : Exit → Act → World → Prop} {a : Act} {w : World} (S : World → Prop) (c : Nat) (hm : P.follows .mixedOrders = true)
    (h : wpAnyC P .any ops Q S c ops.size (Array.replicate ops.size false) a w.drew) : (Code.region id ops true).wp P Q a w :=
  wp_region_any hm (any_of_C _ _ _ _ h)
end Go.Proofs.YtoabedkcieindaaGreatDoor

namespace Go.Proofs.YtoabedkcieindaaGreatDoor
open Go.RowKit Go.Maps Go.Sort Go.Shelf
theorem replaced_all (sq : Option Addr) (sc : Nat) (l : List Tr) (b : Tr) (w : World) (hs : TrAt w (sq, l.length, sc) l) (hb : b.2.2.1 = b.1.es.length) (hbl : b.1.es.length ≤ 1000000) (hl : l.length ≤ 1000) :
    Calls Tryz.prog 183 #[.slice sq l.length sc, .int .i64 0, .int .i64 l.length, .agg #[.int .i64 b.1.number, .int .i64 b.1.level, slV b.2]] w fun e w' => ∃ v, e = .returned v ∧ Below w.heap.size w w' ∧ OwnT w' w.heap.size v (if b.1.es = [] then [] else [b]) := by
  cases sq with
  | none =>
    obtain ⟨hsc, rfl⟩ := hs.nil rfl
    simp only at hsc
    subst hsc
    exact replaced_nil b w hb hbl
  | some a =>
    obtain ⟨g, off, rfl⟩ := hs.pl a rfl
    have := replaced_any g off sc l 0 l.length b w hs hb hbl (Nat.zero_le _) (Nat.le_refl _) hl
    simpa using this
theorem elay (st : Ls) : betM [] [] st.mem :: (newF st.tabs).map (betL [] []) = st.layers := by
  unfold Ls.layers
  rw [betM_all, List.map_congr_left (g := id) (fun l _ => betL_all l), List.map_id]
set_option maxHeartbeats 1000000 in
set_option maxRecDepth 100000 in
theorem compact_any (T bd bm bsn : Nat) (s : Sl) (l : List Tr) (st : Ls) (E : Nat → Prop) (es : Ly) (hi : Nat) (w : World) (R : Ending → World → Prop) (hL : LsAt w E T bd bm bsn s l st) (hr : rising st.mem) (hml : st.mem.length ≤ 100000) (hfl : (flatM st.mem).length ≤ 100000) (hkn : ∀ x ∈ st.mem, x.1.length ≤ 1099511627776) (hll : l.length ≤ 999) (hel : ∀ x ∈ l, x.1.es.length ≤ 100000 ∧ srt x.1.es) (hsum : st.layers.flatten.length ≤ 100000) (hes : needL [] true (mergeL st.layers) = es) (hesl : es.length ≤ 1000000) (hhi : (l.map (·.1.level)).getD 0 0 = hi) (hlog : st.log ≤ 1000000)
    (hA : alreadyX st es.length = true → ∀ w', Below w.heap.size w w' → R (.returned (.int .i64 0)) w')
    (hC : alreadyX st es.length = false → ∀ w1 s2 l2, Below w.heap.size w w1 → TrAt w1 s2 l2 → TrEs w1 l2 → l2.map (·.1) = (if es = [] then [] else [⟨0, hi, es⟩]) → (∀ x ∈ l2, ∀ a, x.2.1 = some a → w.heap.size ≤ a.block ∧ a.block < w1.heap.size) → Calls Tryz.prog 182 #[.pointer (some ⟨T, 0, none⟩), slV s2, .int .i64 ((if st.mem.isEmpty then st.log else st.log + 1 : Nat) : Int)] w1 fun e w' => (∃ v, e = .returned v) ∧ R e w') :
    Calls Tryz.prog 179 #[.pointer (some ⟨T, 0, none⟩)] w fun e w' => R e w' := by
  have hHi := highest_any T bd bm bsn s l st E w hL (by omega)
  rw [hhi] at hHi
  have hLb := layersBetween_any T bd bm bsn s l st E [] [] w hL hr hml hfl hkn (by omega) hel
  rw [elay] at hLb
  have hNd := fun (w2 : World) (q : Option Addr) (qc : Nat) (xs : List (Sl × Ly)) (hb : Below w.heap.size w w2) (hp : Lyp w2 q xs) (h1 : q = none → qc = 0 ∧ xs = []) (h2 : ∀ a, q = some a → ∃ g off, a = ⟨g, off, none⟩) (h3 : xs.length ≤ 1000000) (h4 : sumL xs ≤ 100000) => needed_nil T bsn q qc xs true w2 (cell_below hb (hL.cell 9)) ((hL.below hb).snp) hp h1 h2 h3 h4
  obtain ⟨xm, hmx, hm, _⟩ := id hL.mem
  have hxm : st.mem.length = xm.length := by rw [← hmx]; simp [mmOf]
  have hszz : Maps.size (datX xm) = xm.length := by simp [datX, Maps.size]
  obtain ⟨sz, hsz'⟩ : ∃ sz, Maps.size (datX xm) = sz := ⟨_, rfl⟩
  have HS : Hid (Maps.size (datX xm) = sz) := hsz'
  rw [hsz'] at hszz
  clear hsz'
  have hme : st.mem.isEmpty = decide (sz = 0) := by
    cases hh : st.mem with
    | nil => rw [hh] at hxm; simp at hxm; simp; omega
    | cons a r => rw [hh] at hxm; simp at hxm; simp; omega
  rw [hme] at hC
  have hIa := fun (w3 : World) (qa : Option Addr) (qc : Nat) (hb : Below w.heap.size w w3) => isAlready_any T bd bm bsn s l st E hi es.length qa qc w3 (hL.below hb) (by omega) (fun x hx => by have := (hel x hx).1; omega)
  obtain ⟨sq, sn, sc⟩ := s
  obtain rfl : sn = l.length := hL.tab.len
  have c3' : w.cell? ⟨T, 3, none⟩ = some (.map (some bm)) := hL.cell 3
  have c4' : w.cell? ⟨T, 4, none⟩ = some (.slice sq l.length sc) := hL.cell 4
  have c6' : w.cell? ⟨T, 6, none⟩ = some (.int .i64 st.log) := hL.cell 6
  have hlay : st.layers.length ≤ 1000 := by unfold Ls.layers; rw [← hL.is]; simp [newF]; omega
  clear hme hszz hxm hmx
  cases hal : alreadyX st es.length with
  | true =>
    rw [hal] at hIa
    have HA : Hid (∀ w', Below w.heap.size w w' → R (.returned (.int .i64 0)) w') := hA hal
    clear hA hC
    go_enter Tryz.func179, Tryz.ntmps179
    go_wp2_with (first
      | (go_at_call 234; refine hHi.mono ?_; rintro e w1 ⟨rfl, hw1⟩; rw [hw1]; clear hw1 hHi)
      | (go_at_call 174; refine hLb.mono ?_; rintro e w2 ⟨q2, qc2, xs, rfl, hb2, ho2, hs2, hx2⟩; obtain ⟨q2', c2', e2, hly, hn2, ha2⟩ := OwnL.lyp ho2 hs2; cases e2; have hsu : sumL xs ≤ 100000 := (by have : sumL xs = (xs.map (·.2)).flatten.length := (by simp [sumL, List.length_flatten, Function.comp_def]); rw [this, hx2]; exact hsum); have hxl : xs.length ≤ 1000 := (by have := congrArg List.length hx2; rw [List.length_map] at this; omega); have hNd2 := hNd w2 q2 qc2 xs hb2 hly hn2 ha2 (by omega) hsu; rw [hx2, hes] at hNd2; clear hNd hLb)
      | (go_at_call 175; refine hNd2.mono ?_; rintro e w3 ⟨v3, rfl, hb3, ho3⟩; obtain ⟨⟨qe, ne, ce⟩, rfl, hse, hfe⟩ := ho3.slAt; obtain rfl : ne = es.length := hse.len; rw [show slV (qe, es.length, ce) = Value.slice qe es.length ce from rfl]; have hB3 : Below w.heap.size w w3 := hb2.trans (hb3.mono hb2.size); have hB3a := hB3.alloc hB3.size (.cells #[.int .i64 0, .int .i64 hi, .slice qe es.length ce] 164); have hIa3 := hIa _ qe ce hB3a; clear hIa hNd2)
      | (go_at_call 235; refine hIa3.mono ?_; rintro e W ⟨rfl, hbW3⟩; have hbW : Below w.heap.size w W := hB3a.trans (hbW3.mono hB3a.size); have hbx := block_at2 (block_new w3 (.cells #[.int .i64 0, .int .i64 hi, .slice qe es.length ce] 164)) hbW3; have c3 := cell_below hbW c3'; have c4 := cell_below hbW c4'; have c6 := cell_below hbW c6'; clear hIa3 c3' c4' c6'))
    exact HA.out _ hbW
  | false =>
    rw [hal] at hIa
    have hC' := hC hal
    clear hA hC
    by_cases hz : sz = 0
    · subst hz
      simp only [decide_true, if_true] at hC'
      go_enter Tryz.func179, Tryz.ntmps179
      go_wp2_with (first
        | (go_at_call 234; refine hHi.mono ?_; rintro e w1 ⟨rfl, hw1⟩; rw [hw1]; clear hw1 hHi)
        | (go_at_call 174; refine hLb.mono ?_; rintro e w2 ⟨q2, qc2, xs, rfl, hb2, ho2, hs2, hx2⟩; obtain ⟨q2', c2', e2, hly, hn2, ha2⟩ := OwnL.lyp ho2 hs2; cases e2; have hsu : sumL xs ≤ 100000 := (by have : sumL xs = (xs.map (·.2)).flatten.length := (by simp [sumL, List.length_flatten, Function.comp_def]); rw [this, hx2]; exact hsum); have hxl : xs.length ≤ 1000 := (by have := congrArg List.length hx2; rw [List.length_map] at this; omega); have hNd2 := hNd w2 q2 qc2 xs hb2 hly hn2 ha2 (by omega) hsu; rw [hx2, hes] at hNd2; clear hNd hLb)
        | (go_at_call 175; refine hNd2.mono ?_; rintro e w3 ⟨v3, rfl, hb3, ho3⟩; obtain ⟨⟨qe, ne, ce⟩, rfl, hse, hfe⟩ := ho3.slAt; obtain rfl : ne = es.length := hse.len; rw [show slV (qe, es.length, ce) = Value.slice qe es.length ce from rfl]; have hB3 : Below w.heap.size w w3 := hb2.trans (hb3.mono hb2.size); have hB3a := hB3.alloc hB3.size (.cells #[.int .i64 0, .int .i64 hi, .slice qe es.length ce] 164); have hIa3 := hIa _ qe ce hB3a; clear hIa hNd2)
        | (go_at_call 235; refine hIa3.mono ?_; rintro e W ⟨rfl, hbW3⟩; have hbW : Below w.heap.size w W := hB3a.trans (hbW3.mono hB3a.size); have hbx := block_at2 (block_new w3 (.cells #[.int .i64 0, .int .i64 hi, .slice qe es.length ce] 164)) hbW3; have c3 := cell_below hbW c3'; have c4 := cell_below hbW c4'; have c6 := cell_below hbW c6'; clear hIa3 c3' c4' c6')
        | (at_len; refine wpList_len_own _ rfl _ 141 rfl 9 162 Tryz.underlying141 _ bm xm.length (datX xm) rfl (ownsMap_of_block hm (hbW.block bm hm.lt)) ?_; rw [HS.out]))
      have hse4 : SlAt W (qe, es.length, ce) es := (hse.below ((Below.refl _ w3).alloc (Nat.le_refl _) _)).below hbW3
      have z3 := hb3.size
      have zW := hbW3.size
      rw [World.size_alloc] at zW
      have hRp := fun w4 (h : Below W.heap.size W w4) => replaced_all sq sc l (⟨0, hi, es⟩, (qe, es.length, ce)) w4 ((hL.tab.below hbW).below h) rfl hesl (by omega)
      have hC : ∀ w1 s2 (l2 : List Tr), l2 = (if es = [] then [] else [((⟨0, hi, es⟩ : Tb), ((qe, es.length, ce) : Sl))]) → Below W.heap.size W w1 → TrAt w1 s2 l2 → Calls Tryz.prog 182 #[.pointer (some ⟨T, 0, none⟩), slV s2, .int .i64 st.log] w1 fun e w' => (∃ v, e = .returned v) ∧ R e w' := fun w1 s2 l2 hl2 hb ht => by
        refine hC' w1 s2 l2 (hbW.trans (hb.mono hbW.size)) ht (fun x hx => ?_) ?_ (fun x hx a ha => ?_)
        · rw [hl2] at hx
          split at hx
          · cases hx
          · rw [List.mem_singleton] at hx; subst hx; exact hse4.below hb
        · rw [hl2]; split <;> rfl
        · rw [hl2] at hx
          split at hx
          · cases hx
          · rw [List.mem_singleton] at hx; subst hx
            have := hfe a ha
            have := hb2.size
            have := hb.size
            exact ⟨by omega, by omega⟩
      clear hC'
      have hSd : Below W.heap.size W W.drew := (Below.refl _ W).drew
      have d4 := fun w' (h : Below W.heap.size W w') => cell_below h c4
      have dB := fun w' (h : Below W.heap.size W w') => cells3 (block_at2 hbx h)
      refine wp_calm ?_
      refine wp_region_C (fun w' => Below W.heap.size W w') 13 mixedP ?_
      refine wpAnyC_take (i := 0) [13] (v := .pointer (some ⟨T, 0, none⟩)) rfl (by kernel_rfl) (by kernel_rfl) (by kernel_rfl) (by kernel_rfl) (fun _ _ _ h => h) (Or.inl ⟨by rfl, fun w' hS => ?_⟩) hSd ?_
      · skip
        go_simp
      refine wpAnyC_take (i := 1) [2, 3, 4, 11, 13] (v := .pointer (some ⟨T, 0, none⟩)) rfl (by kernel_rfl) (by kernel_rfl) (by kernel_rfl) (by kernel_rfl) (fun _ _ _ h => h) (Or.inl ⟨by rfl, fun w' hS => ?_⟩) hSd ?_
      · skip
        go_simp
      refine wpAnyC_take (i := 2) [3, 4, 11, 13] (v := .pointer (some ⟨T, 0, none⟩)) rfl (by kernel_rfl) (by kernel_rfl) (by kernel_rfl) (by kernel_rfl) (fun _ _ _ h => h) (Or.inl ⟨by rfl, fun w' hS => ?_⟩) hSd ?_
      · skip
        go_simp
      refine wpAnyC_take (i := 3) [4, 11, 13] (v := .pointer (some ⟨T, 4, none⟩)) rfl (by kernel_rfl) (by kernel_rfl) (by kernel_rfl) (by kernel_rfl) (fun _ _ _ h => h) (Or.inl ⟨by rfl, fun w' hS => ?_⟩) hSd ?_
      · skip
        go_simp
      refine wpAnyC_take (i := 4) [11, 13] (v := .slice sq l.length sc) rfl (by kernel_rfl) (by kernel_rfl) (by kernel_rfl) (by kernel_rfl) (fun _ _ _ h => h) (Or.inl ⟨by rfl, fun w' hS => ?_⟩) hSd ?_
      · have := d4 w' hS
        go_simp
      refine wpAnyC_take (i := 5) [6, 7, 8, 9, 11, 13] (v := .pointer (some ⟨T, 0, none⟩)) rfl (by kernel_rfl) (by kernel_rfl) (by kernel_rfl) (by kernel_rfl) (fun _ _ _ h => h) (Or.inl ⟨by rfl, fun w' hS => ?_⟩) hSd ?_
      · skip
        go_simp
      refine wpAnyC_take (i := 6) [7, 8, 9, 11, 13] (v := .pointer (some ⟨T, 0, none⟩)) rfl (by kernel_rfl) (by kernel_rfl) (by kernel_rfl) (by kernel_rfl) (fun _ _ _ h => h) (Or.inl ⟨by rfl, fun w' hS => ?_⟩) hSd ?_
      · skip
        go_simp
      refine wpAnyC_take (i := 7) [8, 9, 11, 13] (v := .pointer (some ⟨T, 4, none⟩)) rfl (by kernel_rfl) (by kernel_rfl) (by kernel_rfl) (by kernel_rfl) (fun _ _ _ h => h) (Or.inl ⟨by rfl, fun w' hS => ?_⟩) hSd ?_
      · skip
        go_simp
      refine wpAnyC_take (i := 8) [9, 11, 13] (v := .slice sq l.length sc) rfl (by kernel_rfl) (by kernel_rfl) (by kernel_rfl) (by kernel_rfl) (fun _ _ _ h => h) (Or.inl ⟨by rfl, fun w' hS => ?_⟩) hSd ?_
      · have := d4 w' hS
        go_simp
      refine wpAnyC_take (i := 9) [11, 13] (v := .int .i64 l.length) rfl (by kernel_rfl) (by kernel_rfl) (by kernel_rfl) (by kernel_rfl) (fun _ _ _ h => h) (Or.inl ⟨by rfl, fun w' hS => ?_⟩) hSd ?_
      · skip
        go_simp
      refine wpAnyC_take (i := 10) [11, 13] (v := .agg #[.int .i64 0, .int .i64 hi, .slice qe es.length ce]) rfl (by kernel_rfl) (by kernel_rfl) (by kernel_rfl) (by kernel_rfl) (fun _ _ _ h => h) (Or.inl ⟨by rfl, fun w' hS => ?_⟩) hSd ?_
      · obtain ⟨u0, u1, u2, _⟩ := dB w' hS
        go_simp
      refine wpAnyC_take (i := 12) [13] (v := .int .i64 st.log) rfl (by kernel_rfl) (by kernel_rfl) (by kernel_rfl) (by kernel_rfl) (fun _ _ _ h => h) (Or.inl ⟨by rfl, fun w' hS => ?_⟩) hSd ?_
      · skip
        go_simp
      refine wpAnyC_one (i := 11) (by kernel_rfl) rfl (by rfl) (fun K hK => ?_)
      go_simp
      refine (hRp _ hSd).mono ?_
      rintro e w4 ⟨v4, rfl, hb4, ho4⟩
      have hB4 := hSd.trans (hb4.mono hSd.size)
      obtain ⟨⟨q4, n4, c4'⟩, rfl, ht4, hf4⟩ := ho4.trAt
      refine hK.out _ _ hB4 ?_
      clear hK
      have hCm := hC w4 (q4, n4, c4') _ rfl hB4 ht4
      rw [show slV (q4, n4, c4') = Value.slice q4 n4 c4' from rfl] at hCm ⊢
      refine wpAnyC_past (i := 13) (by kernel_rfl) rfl (by rfl) (by kernel_rfl) (fun K hK => ?_)
      go_simp
      refine hCm.mono ?_
      rintro e w5 ⟨⟨v5, rfl⟩, hR⟩
      refine hK.out _ _ ?_
      clear hK
      refine wpAnyC_past (i := 14) (by kernel_rfl) rfl (by rfl) (by kernel_rfl) (fun K hK => ?_)
      go_simp
      refine hK.out _ _ (wpAnyC_done (by kernel_rfl) ?_ _)
      clear hK
      go_wp2
      exact hR
    · simp only [decide_eq_false hz, Bool.false_eq_true, if_false] at hC'
      have hz0 : (0 : Int) < (sz : Int) := by omega
      have hlg : ((st.log + 1 : Nat) : Int) = (st.log : Int) + 1 := by omega
      rw [hlg] at hC'
      go_enter Tryz.func179, Tryz.ntmps179
      go_wp2_with (first
        | (go_at_call 234; refine hHi.mono ?_; rintro e w1 ⟨rfl, hw1⟩; rw [hw1]; clear hw1 hHi)
        | (go_at_call 174; refine hLb.mono ?_; rintro e w2 ⟨q2, qc2, xs, rfl, hb2, ho2, hs2, hx2⟩; obtain ⟨q2', c2', e2, hly, hn2, ha2⟩ := OwnL.lyp ho2 hs2; cases e2; have hsu : sumL xs ≤ 100000 := (by have : sumL xs = (xs.map (·.2)).flatten.length := (by simp [sumL, List.length_flatten, Function.comp_def]); rw [this, hx2]; exact hsum); have hxl : xs.length ≤ 1000 := (by have := congrArg List.length hx2; rw [List.length_map] at this; omega); have hNd2 := hNd w2 q2 qc2 xs hb2 hly hn2 ha2 (by omega) hsu; rw [hx2, hes] at hNd2; clear hNd hLb)
        | (go_at_call 175; refine hNd2.mono ?_; rintro e w3 ⟨v3, rfl, hb3, ho3⟩; obtain ⟨⟨qe, ne, ce⟩, rfl, hse, hfe⟩ := ho3.slAt; obtain rfl : ne = es.length := hse.len; rw [show slV (qe, es.length, ce) = Value.slice qe es.length ce from rfl]; have hB3 : Below w.heap.size w w3 := hb2.trans (hb3.mono hb2.size); have hB3a := hB3.alloc hB3.size (.cells #[.int .i64 0, .int .i64 hi, .slice qe es.length ce] 164); have hIa3 := hIa _ qe ce hB3a; clear hIa hNd2)
        | (go_at_call 235; refine hIa3.mono ?_; rintro e W ⟨rfl, hbW3⟩; have hbW : Below w.heap.size w W := hB3a.trans (hbW3.mono hB3a.size); have hbx := block_at2 (block_new w3 (.cells #[.int .i64 0, .int .i64 hi, .slice qe es.length ce] 164)) hbW3; have c3 := cell_below hbW c3'; have c4 := cell_below hbW c4'; have c6 := cell_below hbW c6'; clear hIa3 c3' c4' c6')
        | (at_len; refine wpList_len_own _ rfl _ 141 rfl 9 162 Tryz.underlying141 _ bm xm.length (datX xm) rfl (ownsMap_of_block hm (hbW.block bm hm.lt)) ?_; rw [HS.out]))
      have hse4 : SlAt W (qe, es.length, ce) es := (hse.below ((Below.refl _ w3).alloc (Nat.le_refl _) _)).below hbW3
      have z3 := hb3.size
      have zW := hbW3.size
      rw [World.size_alloc] at zW
      have hRp := fun w4 (h : Below W.heap.size W w4) => replaced_all sq sc l (⟨0, hi, es⟩, (qe, es.length, ce)) w4 ((hL.tab.below hbW).below h) rfl hesl (by omega)
      have hC : ∀ w1 s2 (l2 : List Tr), l2 = (if es = [] then [] else [((⟨0, hi, es⟩ : Tb), ((qe, es.length, ce) : Sl))]) → Below W.heap.size W w1 → TrAt w1 s2 l2 → Calls Tryz.prog 182 #[.pointer (some ⟨T, 0, none⟩), slV s2, .int .i64 ((st.log : Int) + 1)] w1 fun e w' => (∃ v, e = .returned v) ∧ R e w' := fun w1 s2 l2 hl2 hb ht => by
        refine hC' w1 s2 l2 (hbW.trans (hb.mono hbW.size)) ht (fun x hx => ?_) ?_ (fun x hx a ha => ?_)
        · rw [hl2] at hx
          split at hx
          · cases hx
          · rw [List.mem_singleton] at hx; subst hx; exact hse4.below hb
        · rw [hl2]; split <;> rfl
        · rw [hl2] at hx
          split at hx
          · cases hx
          · rw [List.mem_singleton] at hx; subst hx
            have := hfe a ha
            have := hb2.size
            have := hb.size
            exact ⟨by omega, by omega⟩
      clear hC'
      have hSd : Below W.heap.size W W.drew := (Below.refl _ W).drew
      have d4 := fun w' (h : Below W.heap.size W w') => cell_below h c4
      have dB := fun w' (h : Below W.heap.size W w') => cells3 (block_at2 hbx h)
      refine wp_calm ?_
      refine wp_region_C (fun w' => Below W.heap.size W w') 13 mixedP ?_
      refine wpAnyC_take (i := 0) [13] (v := .pointer (some ⟨T, 0, none⟩)) rfl (by kernel_rfl) (by kernel_rfl) (by kernel_rfl) (by kernel_rfl) (fun _ _ _ h => h) (Or.inl ⟨by rfl, fun w' hS => ?_⟩) hSd ?_
      · skip
        go_simp
      refine wpAnyC_take (i := 1) [2, 3, 4, 11, 13] (v := .pointer (some ⟨T, 0, none⟩)) rfl (by kernel_rfl) (by kernel_rfl) (by kernel_rfl) (by kernel_rfl) (fun _ _ _ h => h) (Or.inl ⟨by rfl, fun w' hS => ?_⟩) hSd ?_
      · skip
        go_simp
      refine wpAnyC_take (i := 2) [3, 4, 11, 13] (v := .pointer (some ⟨T, 0, none⟩)) rfl (by kernel_rfl) (by kernel_rfl) (by kernel_rfl) (by kernel_rfl) (fun _ _ _ h => h) (Or.inl ⟨by rfl, fun w' hS => ?_⟩) hSd ?_
      · skip
        go_simp
      refine wpAnyC_take (i := 3) [4, 11, 13] (v := .pointer (some ⟨T, 4, none⟩)) rfl (by kernel_rfl) (by kernel_rfl) (by kernel_rfl) (by kernel_rfl) (fun _ _ _ h => h) (Or.inl ⟨by rfl, fun w' hS => ?_⟩) hSd ?_
      · skip
        go_simp
      refine wpAnyC_take (i := 4) [11, 13] (v := .slice sq l.length sc) rfl (by kernel_rfl) (by kernel_rfl) (by kernel_rfl) (by kernel_rfl) (fun _ _ _ h => h) (Or.inl ⟨by rfl, fun w' hS => ?_⟩) hSd ?_
      · have := d4 w' hS
        go_simp
      refine wpAnyC_take (i := 5) [6, 7, 8, 9, 11, 13] (v := .pointer (some ⟨T, 0, none⟩)) rfl (by kernel_rfl) (by kernel_rfl) (by kernel_rfl) (by kernel_rfl) (fun _ _ _ h => h) (Or.inl ⟨by rfl, fun w' hS => ?_⟩) hSd ?_
      · skip
        go_simp
      refine wpAnyC_take (i := 6) [7, 8, 9, 11, 13] (v := .pointer (some ⟨T, 0, none⟩)) rfl (by kernel_rfl) (by kernel_rfl) (by kernel_rfl) (by kernel_rfl) (fun _ _ _ h => h) (Or.inl ⟨by rfl, fun w' hS => ?_⟩) hSd ?_
      · skip
        go_simp
      refine wpAnyC_take (i := 7) [8, 9, 11, 13] (v := .pointer (some ⟨T, 4, none⟩)) rfl (by kernel_rfl) (by kernel_rfl) (by kernel_rfl) (by kernel_rfl) (fun _ _ _ h => h) (Or.inl ⟨by rfl, fun w' hS => ?_⟩) hSd ?_
      · skip
        go_simp
      refine wpAnyC_take (i := 8) [9, 11, 13] (v := .slice sq l.length sc) rfl (by kernel_rfl) (by kernel_rfl) (by kernel_rfl) (by kernel_rfl) (fun _ _ _ h => h) (Or.inl ⟨by rfl, fun w' hS => ?_⟩) hSd ?_
      · have := d4 w' hS
        go_simp
      refine wpAnyC_take (i := 9) [11, 13] (v := .int .i64 l.length) rfl (by kernel_rfl) (by kernel_rfl) (by kernel_rfl) (by kernel_rfl) (fun _ _ _ h => h) (Or.inl ⟨by rfl, fun w' hS => ?_⟩) hSd ?_
      · skip
        go_simp
      refine wpAnyC_take (i := 10) [11, 13] (v := .agg #[.int .i64 0, .int .i64 hi, .slice qe es.length ce]) rfl (by kernel_rfl) (by kernel_rfl) (by kernel_rfl) (by kernel_rfl) (fun _ _ _ h => h) (Or.inl ⟨by rfl, fun w' hS => ?_⟩) hSd ?_
      · obtain ⟨u0, u1, u2, _⟩ := dB w' hS
        go_simp
      refine wpAnyC_take (i := 12) [13] (v := .int .i64 ((st.log : Int) + 1)) rfl (by kernel_rfl) (by kernel_rfl) (by kernel_rfl) (by kernel_rfl) (fun _ _ _ h => h) (Or.inl ⟨by rfl, fun w' hS => ?_⟩) hSd ?_
      · skip
        go_simp
      refine wpAnyC_one (i := 11) (by kernel_rfl) rfl (by rfl) (fun K hK => ?_)
      go_simp
      refine (hRp _ hSd).mono ?_
      rintro e w4 ⟨v4, rfl, hb4, ho4⟩
      have hB4 := hSd.trans (hb4.mono hSd.size)
      obtain ⟨⟨q4, n4, c4'⟩, rfl, ht4, hf4⟩ := ho4.trAt
      refine hK.out _ _ hB4 ?_
      clear hK
      have hCm := hC w4 (q4, n4, c4') _ rfl hB4 ht4
      rw [show slV (q4, n4, c4') = Value.slice q4 n4 c4' from rfl] at hCm ⊢
      refine wpAnyC_past (i := 13) (by kernel_rfl) rfl (by rfl) (by kernel_rfl) (fun K hK => ?_)
      go_simp
      refine hCm.mono ?_
      rintro e w5 ⟨⟨v5, rfl⟩, hR⟩
      refine hK.out _ _ ?_
      clear hK
      refine wpAnyC_past (i := 14) (by kernel_rfl) rfl (by rfl) (by kernel_rfl) (fun K hK => ?_)
      go_simp
      refine hK.out _ _ (wpAnyC_done (by kernel_rfl) ?_ _)
      clear hK
      go_wp2
      exact hR
end Go.Proofs.YtoabedkcieindaaGreatDoor

namespace Go.Proofs.YtoabedkcieindaaGreatDoor
open Go.RowKit Go.Maps Go.Sort Go.Shelf
def idxF : List Nat → Int → Int → Int
  | [], _, _ => -1
  | x :: r, n, k => if (x : Int) = n then k else idxF r n (k + 1)
set_option maxHeartbeats 400000 in
set_option maxRecDepth 20000 in
theorem indexOf1_any (xn xl : Nat) (xa : Option Addr) (xm xc B : Nat) (n : Int) (w : World) (hB : w.cell? ⟨B, 0, none⟩ = some (.int .i64 n)) :
    Calls Tryz.prog 293 #[.agg #[.int .i64 xn, .int .i64 xl, .slice xa xm xc], .pointer (some ⟨B, 0, none⟩)] w fun e w' => e = .returned (.bool ((xn : Int) == n)) ∧ Below w.heap.size w w' := by
  have hb := (Below.refl w.heap.size w).alloc (Nat.le_refl _) (.cells #[.int .i64 xn, .int .i64 xl, .slice xa xm xc] 164)
  have cB := cell_below hb hB
  obtain ⟨b0, _⟩ := cells3 (block_new w (.cells #[.int .i64 xn, .int .i64 xl, .slice xa xm xc] 164))
  go_enter Tryz.func293, Tryz.ntmps293
  go_wp2
  go_ret
  exact ⟨rfl, hb⟩
set_option maxHeartbeats 400000 in
set_option maxRecDepth 20000 in
theorem indexFT_any (q : Option Addr) (qc : Nat) (l : List Tr) (B : Nat) (n : Int) (w : World) (hs : TrAt w (q, l.length, qc) l) (hB : Boxed w B 3 (.int .i64 n)) (hl : l.length ≤ 1000000) :
    Calls Tryz.prog 292 #[.slice q l.length qc, .func (.func 293) #[] #[.pointer (some ⟨B, 0, none⟩)]] w fun e w' => e = .returned (.int .i64 (idxF (l.map (·.1.number)) n 0)) ∧ Below w.heap.size w w' := by
  go_enter Tryz.func292, Tryz.ntmps292
  go_wp2
  go_loopw [8] (fun i wr => ∃ k : Nat, i = .int .i64 k ∧ k ≤ l.length ∧ idxF (l.map (·.1.number)) n 0 = idxF ((l.map (·.1.number)).drop k) n k ∧ Below w.heap.size w wr) (fun i _ => l.length - (intOf i).toNat)
  case atStart => exact ⟨0, rfl, Nat.zero_le _, by simp, Below.refl _ _⟩
  case round =>
    obtain ⟨k, rfl, hk, hix, hb⟩ := hrel
    have HX : Hid _ := hix
    clear hix
    by_cases hlt : k < l.length
    · have hr := (hs.below hb).row
      obtain ⟨g, off, hq, c0⟩ := hr k hlt 0 _ rfl
      obtain ⟨_, _, e1, c1⟩ := hr k hlt 1 _ rfl
      obtain ⟨_, _, e2, c2⟩ := hr k hlt 2 _ rfl
      simp only at hq e1 e2
      subst hq
      cases e1
      cases e2
      rw [← Nat.add_assoc] at c0 c1 c2
      rw [Nat.add_zero] at c0
      have cB : wr.cell? ⟨B, 0, none⟩ = some (.int .i64 n) := cell_below hb hB.cell
      have HD : Hid ((l.map (·.1.number)).drop k = l[k].1.number :: (l.map (·.1.number)).drop (k + 1)) := by
        show _ = _
        rw [List.drop_eq_getElem_cons (by simpa using hlt)]; simp
      generalize l[k] = x at *
      obtain ⟨⟨xn, xl, xe⟩, ⟨xa, xm, xc⟩⟩ := x
      replace c2 := (show _ = some (Value.slice xa xm xc) from c2)
      simp only at c0 c1 HD
      have h1 := indexOf1_any xn xl xa xm xc B n wr cB
      clear cB
      by_cases hx : (xn : Int) = n
      · have hxb : ((xn : Int) == n) = true := by simpa using hx
        rw [hxb] at h1
        have HE : Hid (idxF (l.map (·.1.number)) n 0 = k) := by show _ = _; rw [HX.out, HD.out, idxF, if_pos hx]
        clear HX HD hx hxb
        go_wp2_with (go_at_call 293; refine h1.mono ?_; rintro e w1 ⟨rfl, hb1⟩)
        go_ret
        rw [HE.out]
        exact ⟨rfl, hb.trans (hb1.mono hb.size)⟩
      · have hxb : ((xn : Int) == n) = false := by simpa using hx
        rw [hxb] at h1
        have HE : Hid (idxF (l.map (·.1.number)) n 0 = idxF ((l.map (·.1.number)).drop (k + 1)) n ((k : Int) + 1)) := by show _ = _; rw [HX.out, HD.out, idxF, if_neg hx]
        clear HX HD hx hxb
        go_wp2_with (go_at_call 293; refine h1.mono ?_; rintro e w1 ⟨rfl, hb1⟩)
        go_roundw
        case rel => exact ⟨k + 1, by go_num, by omega, HE.out, hb.trans (hb1.mono hb.size)⟩
        case measure => simp [intOf]; omega
    · have HE : Hid (idxF (l.map (·.1.number)) n 0 = -1) := by show _ = _; rw [HX.out, List.drop_of_length_le (by simp; omega)]; rfl
      go_wp2
      go_ret
      rw [HE.out]
      exact ⟨rfl, hb⟩
set_option maxHeartbeats 400000 in
set_option maxRecDepth 20000 in
theorem indexOf_any (T bd bm bsn : Nat) (s : Sl) (l : List Tr) (st : Ls) (E : Nat → Prop) (n : Int) (w : World) (hL : LsAt w E T bd bm bsn s l st) (hll : l.length ≤ 1000) :
    Calls Tryz.prog 236 #[.pointer (some ⟨T, 0, none⟩), .int .i64 n] w fun e w' => e = .returned (.int .i64 (idxF (st.tabs.map (·.number)) n 0)) ∧ Below w.heap.size w w' := by
  obtain ⟨sq, sn, sc⟩ := s
  obtain rfl : sn = l.length := hL.tab.len
  have hb := (Below.refl w.heap.size w).alloc (Nat.le_refl _) (.cells #[.int .i64 n] 3)
  have c4 := cell_below hb (show w.cell? ⟨T, 4, none⟩ = some (.slice sq l.length sc) from hL.cell 4)
  have hF := indexFT_any sq sc l w.heap.size n _ (hL.tab.below hb) (block_new w (.cells #[.int .i64 n] 3)) (by omega)
  have e : st.tabs.map (·.number) = l.map (·.1.number) := by rw [← hL.is]; simp [Function.comp_def]
  rw [e]
  clear e
  go_enter Tryz.func236, Tryz.ntmps236
  go_wp2_with (go_at_call 292; refine hF.mono ?_; rintro e w1 ⟨rfl, hb1⟩)
  go_ret
  exact ⟨rfl, hb.trans (hb1.mono (by simp))⟩
end Go.Proofs.YtoabedkcieindaaGreatDoor
