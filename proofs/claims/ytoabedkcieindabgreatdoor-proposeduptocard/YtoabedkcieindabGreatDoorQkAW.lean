import Derived.Test.YtoabedkcieindabGreatDoorQkAP
import Derived.Test.YtoabedkcieindabGreatDoorQkAV
import Derived.Test.YtoabedkcieindabGreatDoorQkAT
import Derived.Test.YtoabedkcieindabGreatDoorQkAU
import Derived.Test.YtoabedkcieindabGreatDoorQkAF
namespace Go.Proofs.YtoabedkcieindabGreatDoor
theorem view_pre {c : Int} {k : Nm} (A : Ly) {X Y : Ly} (h : viewE c X k = viewE c Y k) : viewE c (A ++ X) k = viewE c (A ++ Y) k := by
  unfold viewE at h ⊢
  rw [atK_app, atK_app, pick_app, pick_app]
  cases pickE c (atK k A) with
  | none => simpa using h
  | some e => rfl
theorem newF_app (a b : List Tb) : newF (a ++ b) = newF b ++ newF a := by simp [newF]
theorem newF_opt (x : Tb) : (newF (if x.es.isEmpty then [] else [x])).flatten = x.es := by
  cases h : x.es with
  | nil => simp [newF]
  | cons e r => simp [newF, h]
theorem newF_mem {ts : List Tb} {e : En} (h : e ∈ (newF ts).flatten) : ∃ x ∈ ts, e ∈ x.es := by
  obtain ⟨l, hl, he⟩ := List.mem_flatten.1 h
  obtain ⟨x, hx, rfl⟩ := List.mem_map.1 hl
  exact ⟨x, List.mem_reverse.1 hx, he⟩
theorem newF_srt {ts : List Tb} (h : ∀ x ∈ ts, srt x.es) : ∀ l ∈ newF ts, srt l := fun l hl => by
  obtain ⟨x, hx, rfl⟩ := List.mem_map.1 hl
  exact h x (List.mem_reverse.1 hx)
theorem split3 {α : Type} (l : List α) {f t : Nat} (h : f ≤ t) : l = l.take f ++ ((l.drop f).take (t - f) ++ l.drop t) := by
  rw [show l.drop t = (l.drop f).drop (t - f) by rw [List.drop_drop]; congr 1; omega, List.take_append_drop, List.take_append_drop]
theorem view_merge {ls : List Ly} (h : ∀ l ∈ ls, srt l) (c : Int) (t : Ly) (k : Nm) : viewE c (mergeL ls ++ t) k = viewE c (ls.flatten ++ t) k := by
  unfold viewE
  rw [atK_app, atK_app, mergeL_at h]
theorem view_repl {bs : List Int} {ts : List Tb} {f t n lv : Nat} {c : Int} (hf : f ≤ t) (hs : ∀ x ∈ ts, srt x.es) (hc : c ∈ bs ∨ ∀ x ∈ ts, ∀ e ∈ x.es, e.batch ≤ c) (k : Nm) :
    viewE c (newF (replT ts f t ⟨n, lv, mergeT bs ts f t⟩)).flatten k = viewE c (newF ts).flatten k := by
  have hmid : ∀ x ∈ (ts.drop f).take (t - f), x ∈ ts := fun x hx => List.mem_of_mem_drop (List.mem_of_mem_take hx)
  have hsm := newF_srt (ts := (ts.drop f).take (t - f)) (fun x hx => hs x (hmid x hx))
  have h1 : (newF (replT ts f t ⟨n, lv, mergeT bs ts f t⟩)).flatten = (newF (ts.drop t)).flatten ++ (mergeT bs ts f t ++ (newF (ts.take f)).flatten) := by
    unfold replT
    rw [newF_app, newF_app, List.flatten_append, List.flatten_append, List.append_assoc, newF_opt]
  have h2 : (newF ts).flatten = (newF (ts.drop t)).flatten ++ ((newF ((ts.drop f).take (t - f))).flatten ++ (newF (ts.take f)).flatten) := by
    conv => lhs; rw [split3 ts hf]
    rw [newF_app, newF_app, List.flatten_append, List.flatten_append, List.append_assoc]
  rw [h1, h2]
  refine view_pre _ ?_
  unfold mergeT
  rw [view_need (mergeL_srt hsm) (hc.imp id fun h e he => ?_) (fun h => ?_) k, view_merge hsm]
  · obtain ⟨x, hx, hxe⟩ := newF_mem (mergeL_mem hsm e he)
    exact h x (hmid x hx) e hxe
  · have : f = 0 := by simpa using h
    subst this
    simp [newF]
theorem mergeT_srt {bs : List Int} {ts : List Tb} {f t : Nat} (hs : ∀ x ∈ ts, srt x.es) : srt (mergeT bs ts f t) :=
  (needF_is bs _ _ _ (Nat.le_refl _) (mergeL_srt (newF_srt (fun x hx => hs x (List.mem_of_mem_drop (List.mem_of_mem_take hx)))))).1
theorem idxOf_before {l : List Nat} {x : Nat} : ∀ y ∈ l.take (l.idxOf x), y ≠ x := by
  induction l with
  | nil => simp
  | cons a r ih =>
    intro y hy
    rw [List.idxOf_cons] at hy
    by_cases h : a = x
    · simp [h] at hy
    · have : (a == x) = false := by simpa using h
      rw [this] at hy
      simp only [cond_false, List.take_succ_cons, List.mem_cons] at hy
      rcases hy with rfl | hy
      · exact h
      · exact ih y hy
theorem idxOf_lt' {l : List Nat} {t : Nat} (h : t < l.length) : l.idxOf (l.getD t 0) ≤ t ∧ l.getD (l.idxOf (l.getD t 0)) 0 = l.getD t 0 := by
  have e : l.getD t 0 = l[t] := by simp [List.getD_eq_getElem?_getD, h]
  rw [e]
  have hm : l[t] ∈ l := List.getElem_mem h
  have h1 := List.idxOf_lt_length_of_mem hm
  have h2 : l.idxOf l[t] ≤ t := by
    refine Nat.le_of_not_lt fun hl => ?_
    refine idxOf_before (l := l) (x := l[t]) l[t] ?_ rfl
    rw [List.mem_take_iff_getElem]
    exact ⟨t, by omega, rfl⟩
  refine ⟨h2, ?_⟩
  rw [List.getD_eq_getElem?_getD, List.getElem?_eq_getElem h1]
  simp
def nonR (l : List Nat) : Prop := l.Pairwise fun a b => b ≤ a
theorem crowdF_is (p : Int) (lv : List Nat) : ∀ (n t : Nat), t ≤ lv.length → (crowdF p lv n t).2 ≠ 0 →
    (∀ y ∈ lv.take (crowdF p lv n t).1, y ≠ lv.getD (crowdF p lv n t).1 0) ∧ lv.getD ((crowdF p lv n t).2 - 1) 0 = lv.getD (crowdF p lv n t).1 0
  | 0, t, _, h => by simp [crowdF] at h
  | n + 1, 0, _, h => by simp [crowdF] at h
  | n + 1, t + 1, ht, h => by
    obtain ⟨h1, h2⟩ := idxOf_lt' (l := lv) (t := t) (by omega)
    rw [crowdF] at h ⊢
    by_cases hc : mostT p (lv.getD t 0) (lv.getD 0 0) < t + 1 - lv.idxOf (lv.getD t 0)
    · rw [if_pos hc] at h ⊢
      simp only [Nat.add_sub_cancel]
      rw [h2]
      exact ⟨idxOf_before, rfl⟩
    · rw [if_neg hc] at h ⊢
      exact crowdF_is p lv n _ (by omega) h
theorem nonR_le {l : List Nat} (h : nonR l) {i j : Nat} (hi : i ≤ j) (hj : j < l.length) : l.getD j 0 ≤ l.getD i 0 := by
  have e1 : l.getD j 0 = l[j] := by simp [List.getD_eq_getElem?_getD, hj]
  have e2 : l.getD i 0 = l[i]'(by omega) := by simp [List.getD_eq_getElem?_getD, show i < l.length by omega]
  rw [e1, e2]
  rcases Nat.lt_or_eq_of_le hi with h1 | rfl
  · exact List.pairwise_iff_getElem.1 h i j (by omega) hj h1
  · exact Nat.le_refl _
theorem mem_take_getD {l : List Nat} {f y : Nat} (h : y ∈ l.take f) : ∃ i, i < f ∧ i < l.length ∧ l.getD i 0 = y := by
  obtain ⟨i, hi, e⟩ := List.mem_take_iff_getElem.1 h
  exact ⟨i, by omega, by omega, by simp [List.getD_eq_getElem?_getD, show i < l.length by omega, e]⟩
theorem mem_drop_getD {l : List Nat} {f y : Nat} (h : y ∈ l.drop f) : ∃ i, f ≤ i ∧ i < l.length ∧ l.getD i 0 = y := by
  obtain ⟨i, hi, e⟩ := List.mem_iff_getElem.1 h
  rw [List.length_drop] at hi
  rw [List.getElem_drop] at e
  exact ⟨f + i, by omega, by omega, by simp [List.getD_eq_getElem?_getD, show f + i < l.length by omega, e]⟩
theorem nonR_repl {l : List Nat} (h : nonR l) {f t v : Nat} (hf : f < t) (ht : t ≤ l.length) (h1 : ∀ y ∈ l.take f, y ≠ l.getD f 0) (h2 : l.getD (t - 1) 0 = l.getD f 0) (hv : v = l.getD f 0 ∨ v = l.getD f 0 + 1) (b : Bool) : nonR (l.take f ++ ((if b then [] else [v]) ++ l.drop t)) := by
  have hA : ∀ y ∈ l.take f, l.getD f 0 + 1 ≤ y := fun y hy => by
    have := h1 y hy
    obtain ⟨i, a, b, rfl⟩ := mem_take_getD hy
    have := nonR_le h (i := i) (j := f) (by omega) (by omega)
    omega
  have hB : ∀ y ∈ l.drop t, y ≤ l.getD f 0 := fun y hy => by
    obtain ⟨i, a, b, rfl⟩ := mem_drop_getD hy
    rw [← h2]
    exact nonR_le h (by omega) b
  unfold nonR
  rw [List.pairwise_append, List.pairwise_append]
  refine ⟨List.Pairwise.sublist (List.take_sublist _ _) h, ⟨?_, List.Pairwise.sublist (List.drop_sublist _ _) h, ?_⟩, ?_⟩
  · cases b <;> simp
  · intro x hx y hy
    have := hB y hy
    cases b with
    | true => simp at hx
    | false => simp only [Bool.false_eq_true, if_false, List.mem_singleton] at hx; omega
  · intro x hx y hy
    have := hA x hx
    rcases List.mem_append.1 hy with hy | hy
    · cases b with
      | true => simp at hy
      | false => simp only [Bool.false_eq_true, if_false, List.mem_singleton] at hy; omega
    · have := hB y hy; omega
structure Stp (O : List Tb) (c : Int) (L M N : Nat) (ts : List Tb) : Prop where
  srt : ∀ x ∈ ts, srt x.es
  ok : ∀ x ∈ ts, ∀ e ∈ x.es, opOk e.op = true ∧ e.batch ≤ c
  ne : ∀ x ∈ ts, x.es ≠ []
  lv : nonR (ts.map (·.level))
  old : (ts.filter fun t => decide (0 < t.number)).Sublist O
  len : ts.length ≤ L
  top : ∀ x ∈ ts, x.level + ts.length ≤ M
  ents : entsT ts ≤ N
theorem targetT_is (p : Int) (lv hi b : Nat) : targetT p lv hi b = lv ∨ targetT p lv hi b = lv + 1 := by unfold targetT; split <;> simp
theorem Stp.step {O : List Tb} {c : Int} {L M N : Nat} {ts : List Tb} (h : Stp O c L M N ts) {p : Int} {bs : List Int} (hc : (crowd p (ts.map (·.level))).2 ≠ 0) : Stp O c L M N (stepT p bs ts) := by
  obtain ⟨g1, g2⟩ := crowd_span hc
  have hcc : (crowdF p (ts.map fun x => x.level) (ts.map fun x => x.level).length (ts.map fun x => x.level).length).2 ≠ 0 := hc
  obtain ⟨k1, k2⟩ := crowdF_is p _ _ _ (Nat.le_refl _) hcc
  rw [List.length_map] at g2
  have hlen := stepT_len (bs := bs) hc
  unfold stepT at hlen ⊢
  simp only at hlen ⊢
  change ∀ y ∈ (ts.map (·.level)).take (crowd p (ts.map (·.level))).1, y ≠ (ts.map (·.level)).getD (crowd p (ts.map (·.level))).1 0 at k1
  change (ts.map (·.level)).getD ((crowd p (ts.map (·.level))).2 - 1) 0 = (ts.map (·.level)).getD (crowd p (ts.map (·.level))).1 0 at k2
  generalize (crowd p (ts.map (·.level))).1 = f at *
  generalize (crowd p (ts.map (·.level))).2 = t at *
  have hmm : ∀ e ∈ mergeT bs ts f t, opOk e.op = true ∧ e.batch ≤ c := fun e he => by
    obtain ⟨y, hy, hye⟩ := mergeT_mem he
    exact h.ok y hy e hye
  have hms : Go.Proofs.YtoabedkcieindabGreatDoor.srt (mergeT bs ts f t) := mergeT_srt h.srt
  have htg := targetT_is p ((ts.map (·.level)).getD f 0) ((ts.map (·.level)).getD 0 0) (sizeL (mergeT bs ts f t))
  generalize hV : targetT p ((ts.map (·.level)).getD f 0) ((ts.map (·.level)).getD 0 0) (sizeL (mergeT bs ts f t)) = v at *
  have hfl : ∃ y ∈ ts, y.level = (ts.map (·.level)).getD f 0 := by
    refine ⟨ts[f]'(by omega), List.getElem_mem _, ?_⟩
    simp [List.getD_eq_getElem?_getD, show f < ts.length by omega]
  have each : ∀ x ∈ replT ts f t ⟨0, v, mergeT bs ts f t⟩, x ∈ ts ∨ (x = ⟨0, v, mergeT bs ts f t⟩ ∧ mergeT bs ts f t ≠ []) := fun x hx => by
    unfold replT at hx
    rcases List.mem_append.1 hx with hx | hx
    · exact .inl (List.mem_of_mem_take hx)
    · rcases List.mem_append.1 hx with hx | hx
      · split at hx
        · cases hx
        · rename_i he
          rw [List.mem_singleton] at hx
          exact .inr ⟨hx, fun e => he (by simp [e])⟩
      · exact .inl (List.mem_of_mem_drop hx)
  refine ⟨fun x hx => ?_, fun x hx => ?_, fun x hx => ?_, ?_, ?_, ?_, fun x hx => ?_, ?_⟩
  · rcases each x hx with hx | ⟨rfl, _⟩
    · exact h.srt x hx
    · exact hms
  · rcases each x hx with hx | ⟨rfl, _⟩
    · exact h.ok x hx
    · exact hmm
  · rcases each x hx with hx | ⟨rfl, hn⟩
    · exact h.ne x hx
    · exact hn
  · have := nonR_repl h.lv (f := f) (t := t) (v := v) (by omega) (by rw [List.length_map]; exact g2) k1 k2 htg (mergeT bs ts f t).isEmpty
    unfold replT
    rw [List.map_append, List.map_append, List.map_take, List.map_drop]
    revert this
    cases (mergeT bs ts f t).isEmpty <;> exact fun h => h
  · refine List.Sublist.trans ?_ h.old
    have hs : (ts.take f ++ ts.drop t).Sublist ts := by
      conv => rhs; rw [split3 ts (show f ≤ t by omega)]
      exact List.Sublist.append (List.Sublist.refl _) (List.sublist_append_right _ _)
    have e : (replT ts f t ⟨0, v, mergeT bs ts f t⟩).filter (fun t => decide (0 < t.number)) = (ts.take f ++ ts.drop t).filter (fun t => decide (0 < t.number)) := by
      unfold replT
      simp only [List.filter_append]
      congr 1
      split <;> simp
    rw [e]
    exact hs.filter _
  · have := h.len; omega
  · rcases each x hx with hx | ⟨rfl, _⟩
    · have := h.top x hx; omega
    · obtain ⟨y, hy, ey⟩ := hfl
      have := h.top y hy
      simp only
      omega
  · exact Nat.le_trans (replT_ents bs ts f t 0 v (by omega)) h.ents
theorem Stp.shaped {O : List Tb} {c : Int} {L M N : Nat} {p : Int} {bs : List Int} : ∀ (n : Nat) {ts : List Tb}, ts.length ≤ n → Stp O c L M N ts →
    Stp O c L M N (shapedX p bs ts) ∧ (crowd p ((shapedX p bs ts).map (·.level))).2 = 0 ∧ ∀ k, viewE c (newF (shapedX p bs ts)).flatten k = viewE c (newF ts).flatten k := by
  intro n
  induction n with
  | zero =>
    intro ts hn h
    obtain rfl : ts = [] := by cases ts with | nil => rfl | cons a r => simp at hn
    refine ⟨h, rfl, fun k => rfl⟩
  | succ n ih =>
    intro ts hn h
    by_cases hc : (crowd p (ts.map (·.level))).2 = 0
    · rw [shapedX_end hc]
      exact ⟨h, hc, fun _ => rfl⟩
    · have hl := stepT_len (bs := bs) hc
      rw [shapedX_step hc]
      obtain ⟨a, b, e⟩ := ih (by omega) (h.step (bs := bs) hc)
      refine ⟨a, b, fun k => (e k).trans ?_⟩
      obtain ⟨g1, g2⟩ := crowd_span hc
      exact view_repl (by omega) h.srt (.inr fun x hx e he => (h.ok x hx e he).2) k
end Go.Proofs.YtoabedkcieindabGreatDoor

namespace Go.Proofs.YtoabedkcieindabGreatDoor
structure Rm (d : Dk) (b c : Nat) : Prop where
  ok : d.Ok
  stl : Stl d
  room : used d.files + b ≤ d.quota
  our : ∀ x ∈ d.files, Our x.1
  few : d.files.length + c ≤ 1000000
theorem Rm.swp {d : Dk} {b c : Nat} (h : Rm d b c) : Swp d := ⟨h.ok, by have := h.few; omega, h.stl.al, fun n hn => by
  obtain ⟨x, hx, rfl⟩ := List.mem_map.1 hn
  exact h.our x hx⟩
theorem Rm.less {d : Dk} {b c b' c' : Nat} (h : Rm d b c) (hb : b' ≤ b) (hc : c' ≤ c) : Rm d b' c' := ⟨h.ok, h.stl, by have := h.room; omega, h.our, by have := h.few; omega⟩
theorem Rm.write {d : Dk} {b c : Nat} {n : Nm} {t : List UInt8} (h : Rm d (t.length + b) (c + 1)) (hn : nameOk n = true) (ho : Our n) :
    (d.write n t).1 = 0 ∧ Rm (d.write n t).2 b c ∧ (d.write n t).2.quota = d.quota ∧ (d.write n t).2.turn = d.turn ∧ (getF n (d.write n t).2.files).isSome = true := by
  obtain ⟨s1, s2, s3⟩ := h.stl.write hn t
  have hroom := h.room
  have h0 : (d.write n t).1 = 0 := by
    rcases s3 with s3 | s3
    · exfalso
      unfold Dk.write at s3
      rw [if_neg (by rw [h.stl.al]; simp), if_neg (by rw [hn]; simp), if_neg (by omega)] at s3
      split at s3 <;> simp at s3
    · exact s3.1
  obtain ⟨_, _, e⟩ := write_zero h0
  have hs := (s3.resolve_left (by rw [h0]; decide)).2
  have hok := write_ok h.ok n t
  have hq : (d.write n t).2.quota = d.quota := by rw [e]; rfl
  have hf : (d.write n t).2.files = if (getF n d.files).isSome then upd n (addB t) d.files else ins (n, ⟨t, 0⟩) d.files := by rw [e]
  refine ⟨h0, ⟨hok.1, s1, ?_, ?_, ?_⟩, hq, s2, hs⟩
  · rw [hq, hf]
    cases hg : getF n d.files with
    | none =>
      simp only [Option.isSome_none, Bool.false_eq_true, if_false]
      rw [used_ins]
      simp only
      omega
    | some x =>
      simp only [Option.isSome_some, if_true]
      have := used_upd h.ok.rise hg (addB t)
      simp only [addB, List.length_append] at this
      omega
  · intro x hx
    rw [hf] at hx
    split at hx
    · exact mem_names (names_upd _ _ _) h.our x hx
    · rcases mem_ins.1 hx with rfl | hx
      · exact ho
      · exact h.our x hx
  · have := hok.2; have := h.few; omega
theorem Rm.sync {d : Dk} {b c : Nat} {n : Nm} (h : Rm d b c) (hs : (getF n d.files).isSome = true) :
    (d.sync n).1 = 0 ∧ Rm (d.sync n).2 b c ∧ (d.sync n).2.quota = d.quota ∧ (d.sync n).2.turn = d.turn ∧ (d.sync n).2.files = upd n allSafe d.files := by
  obtain ⟨a1, a2, a3, a4⟩ := h.stl.sync hs
  have hok := sync_ok h.ok n
  obtain ⟨_, e⟩ := sync_zero a1
  have hq : (d.sync n).2.quota = d.quota := by rw [e]; rfl
  refine ⟨a1, ⟨hok.1, a2, ?_, ?_, ?_⟩, hq, a3, a4⟩
  · rw [hq, a4]
    have hroom := h.room
    cases hg : getF n d.files with
    | none => rw [hg] at hs; cases hs
    | some x =>
      have := used_upd h.ok.rise hg allSafe
      simp only [allSafe] at this
      omega
  · rw [a4]; exact mem_names (names_upd _ _ _) h.our
  · have := hok.2; have := h.few; omega
theorem Rm.lwrite {d : Dk} {b c : Nat} {n : Nm} {t : List UInt8} (h : Rm d (t.length + b) (c + 1)) (hn : nameOk n = true) (ho : Our n) :
    (lwrite d n t).1 = 0 ∧ Rm (lwrite d n t).2 b c ∧ (lwrite d n t).2.quota = d.quota ∧ (lwrite d n t).2.turn = d.turn ∧ (getF n (lwrite d n t).2.files).isSome = true := by
  obtain ⟨a1, a2, a3, a4, a5⟩ := h.write hn ho
  obtain ⟨b1, b2, b3, b4, b5⟩ := a2.sync a5
  have e : Go.Proofs.YtoabedkcieindabGreatDoor.lwrite d n t = (d.write n t).2.sync n := by unfold Go.Proofs.YtoabedkcieindabGreatDoor.lwrite; simp only; rw [if_neg (by rw [a1]; simp)]
  rw [e]
  exact ⟨b1, b2, b3.trans a3, b4.trans a4, by rw [b5]; exact getF_upd_some allSafe a5⟩
theorem Rm.rename {d : Dk} {b c : Nat} {n m : Nm} (h : Rm d b (c + 1)) (hm : nameOk m = true) (ho : Our m) (hs : (getF n d.files).isSome = true) :
    (d.rename n m).1 = 0 ∧ Rm (d.rename n m).2 b c ∧ (d.rename n m).2.quota = d.quota ∧ (d.rename n m).2.turn = d.turn := by
  obtain ⟨a1, a2, a3⟩ := h.stl.rename hm hs
  obtain ⟨f, hf, _, e⟩ := rename_zero a1
  have hok := rename_ok h.ok n m
  have hq : (d.rename n m).2.quota = d.quota := by rw [e]; rfl
  have hfi : (d.rename n m).2.files = moved n m f d.files := by rw [e]
  refine ⟨a1, ⟨hok.1, a2, ?_, ?_, ?_⟩, hq, a3⟩
  · rw [hq, hfi]
    have hroom := h.room
    unfold moved
    split
    · exact hroom
    · rw [used_ins]
      have h1 := used_del h.ok.rise hf
      have h2 := used_del_le m (del n d.files)
      simp only
      omega
  · intro x hx
    rw [hfi] at hx
    unfold moved at hx
    split at hx
    · exact h.our x hx
    · rcases mem_ins.1 hx with rfl | hx
      · exact ho
      · exact h.our x (mem_del (mem_del hx))
  · have := hok.2; have := h.few; omega
theorem Rm.lreplace {d : Dk} {b c : Nat} {n : Nm} {t : List UInt8} (h : Rm d (t.length + b) (c + 2)) (hn : nameOk n = true) (ho : Our n) :
    (lreplace d n t).1 = 0 ∧ Rm (lreplace d n t).2 b c ∧ (lreplace d n t).2.quota = d.quota ∧ (lreplace d n t).2.turn = d.turn := by
  obtain ⟨a1, a2, a3, a4, a5⟩ := Rm.lwrite (c := c + 1) h begN_ok (.inr (.inl rfl))
  obtain ⟨b1, b2, b3, b4⟩ := a2.rename hn ho a5
  have e : Go.Proofs.YtoabedkcieindabGreatDoor.lreplace d n t = (Go.Proofs.YtoabedkcieindabGreatDoor.lwrite d begN t).2.rename begN n := by unfold Go.Proofs.YtoabedkcieindabGreatDoor.lreplace; simp only; rw [if_neg (by rw [a1]; simp)]
  rw [e]
  exact ⟨b1, b2, b3.trans a3, b4.trans a4⟩
theorem Rm.remove {d : Dk} {b c : Nat} {n : Nm} (h : Rm d b c) (hs : (getF n d.files).isSome = true) :
    (d.remove n).1 = 0 ∧ Rm (d.remove n).2 b c ∧ (d.remove n).2.quota = d.quota ∧ (d.remove n).2.turn = d.turn ∧ (d.remove n).2.files = del n d.files := by
  obtain ⟨a1, a2, a3, a4⟩ := h.stl.remove hs
  have hok := remove_ok h.ok n
  have hq : (d.remove n).2.quota = d.quota := by
    rcases remove_is h.stl.al hs with ⟨_, e⟩ | ⟨e, _⟩
    · rw [e]; rfl
    · rw [a1] at e; cases e
  refine ⟨a1, ⟨hok.1, a2, ?_, ?_, ?_⟩, hq, a3, a4⟩
  · rw [hq, a4]
    have := h.room
    have := used_del_le n d.files
    omega
  · intro x hx
    rw [a4] at hx
    exact h.our x (mem_del hx)
  · have := hok.2; have := h.few; omega
theorem Rm.sweepF {b c : Nat} (s : Ls) : ∀ (ns : List Nm) (d : Dk), Rm d b c → ns.Nodup → (∀ n ∈ ns, (getF n d.files).isSome = true) →
    (sweepF s ns d).1 = 0 ∧ Rm (sweepF s ns d).2 b c ∧ (sweepF s ns d).2.quota = d.quota ∧ (sweepF s ns d).2.turn = d.turn
  | [], d, h, _, _ => ⟨rfl, h, rfl, rfl⟩
  | n :: r, d, h, hd, hs => by
    obtain ⟨h1, h2⟩ := List.nodup_cons.1 hd
    rw [Go.Proofs.YtoabedkcieindabGreatDoor.sweepF]
    split
    · exact Rm.sweepF s r d h h2 (fun m hm => hs m (by simp [hm]))
    · obtain ⟨a, b, q, t, e⟩ := h.remove (hs n (by simp))
      simp only
      rw [if_neg (by rw [a]; simp)]
      obtain ⟨k1, k2, k3, k4⟩ := Rm.sweepF s r (d.remove n).2 b h2 (fun m hm => by
        rw [e, getF_del_ne (fun he : m = n => h1 (he ▸ hm))]
        exact hs m (by simp [hm]))
      exact ⟨k1, k2, k3.trans q, k4.trans t⟩
theorem Rm.sweep {b c : Nat} (s : Ls) {d : Dk} (h : Rm d b c) : (sweepX s d).1 = 0 ∧ Rm (sweepX s d).2 b c ∧ (sweepX s d).2.quota = d.quota ∧ (sweepX s d).2.turn = d.turn := by
  unfold sweepX
  rw [if_neg (by rw [h.stl.al]; simp)]
  exact Rm.sweepF s _ d h (rising_nodup h.ok.rise) (fun n hn => getF_name hn)
def szT (ts : List Tb) : Nat := (ts.map fun t => (tabF t).length).sum
theorem Rm.written {b c : Nat} : ∀ (ts : List Tb) (next : Nat) (d : Dk), Rm d (szT ts + b) (ts.length + c) → next + ts.length < 9223372036854775808 →
    (writtenF next ts d).1 = 0 ∧ Rm (writtenF next ts d).2.1 b c ∧ (writtenF next ts d).2.1.quota = d.quota ∧ (writtenF next ts d).2.1.turn = d.turn ∧ (writtenF next ts d).2.2.2.length = ts.length
  | [], next, d, h, _ => ⟨rfl, h.less (by omega) (by simp), rfl, rfl, rfl⟩
  | t :: r, next, d, h, hn => by
    have hz : szT (t :: r) = (tabF t).length + szT r := by simp [szT]
    rw [hz] at h
    rw [List.length_cons] at h hn
    rw [writtenF]
    split
    · obtain ⟨a1, a2, a3, a4, a5⟩ := Rm.written (b := b) (c := c) r next d (h.less (by omega) (by omega)) (by omega)
      exact ⟨a1, a2, a3, a4, by simp [a5]⟩
    · obtain ⟨a1, a2, a3, a4, _⟩ := Rm.lwrite (b := szT r + b) (c := r.length + c) (n := tbN next) (t := encLay (t.es.map (·.op))) (h.less (by unfold tabF; omega) (by omega)) (tbN_ok next) (.inr (.inr ⟨next, by omega, .inr rfl⟩))
      simp only
      rw [if_neg (by rw [a1]; simp)]
      obtain ⟨b1, b2, b3, b4, b5⟩ := Rm.written r (next + 1) _ a2 (by omega)
      exact ⟨b1, b2, b3.trans a3, b4.trans a4, by simp [b5]⟩
theorem Rm.commit {d : Dk} {s : Ls} {T : List Tb} (log : Nat) (h : Rm d (szT T + (20 + 16 * T.length)) (T.length + 2)) (hn : s.next + T.length < 9223372036854775808) :
    (commitX d s T log).1 = 0 ∧ Rm (commitX d s T log).2.1 0 0 ∧ (commitX d s T log).2.1.quota = d.quota ∧ (commitX d s T log).2.1.turn = d.turn ∧
    Swp (writtenF s.next T d).2.1 ∧ Swp (Go.Proofs.YtoabedkcieindabGreatDoor.lreplace (writtenF s.next T d).2.1 manN (encMan (manOf (writtenF s.next T d).2.2.1 log (writtenF s.next T d).2.2.2))).2 := by
  obtain ⟨a1, a2, a3, a4, a5⟩ := Rm.written (b := 20 + 16 * T.length) (c := 2) T s.next d h hn
  have hml : (encMan (manOf (writtenF s.next T d).2.2.1 log (writtenF s.next T d).2.2.2)).length ≤ 20 + 16 * T.length := by
    have := encMan_len (manOf (writtenF s.next T d).2.2.1 log (writtenF s.next T d).2.2.2)
    simp only [manOf, List.length_map] at this
    rw [a5] at this
    simp only [manOf]
    omega
  obtain ⟨b1, b2, b3, b4⟩ := Rm.lreplace (b := 0) (c := 0) (n := manN) (t := encMan (manOf (writtenF s.next T d).2.2.1 log (writtenF s.next T d).2.2.2)) (a2.less (by omega) (by omega)) manN_ok (.inl rfl)
  obtain ⟨c1, c2, c3, c4⟩ := b2.sweep (s.turned (writtenF s.next T d).2.2.2 (writtenF s.next T d).2.2.1 log)
  unfold commitX
  simp only
  rw [if_neg (by rw [a1]; simp), if_neg (by rw [b1]; simp)]
  exact ⟨rfl, c2, c3.trans (b3.trans a3), c4.trans (b4.trans a4), a2.swp, b2.swp⟩
def lenO (o : Option Fl) : Nat := match o with | some f => f.bytes.length | none => 0
theorem used_names : ∀ (N : List Nm) (fs : List (Nm × Fl)), rising fs → (∀ x ∈ fs, x.1 ∈ N) → used fs ≤ (N.map fun n => lenO (getF n fs)).sum
  | [], fs, _, h => by
    cases fs with
    | nil => simp [used]
    | cons x r => exact absurd (h x (by simp)) (by simp)
  | n :: N, fs, hr, h => by
    rw [List.map_cons, List.sum_cons]
    have ih := used_names N (del n fs) (rising_del hr) (fun x hx => by
      have h1 := h x (mem_del hx)
      have h2 : x.1 ≠ n := by
        have := (List.mem_filter.1 hx).2
        simpa using this
      exact (List.mem_cons.1 h1).resolve_left h2)
    have hle : (N.map fun m => lenO (getF m (del n fs))).sum ≤ (N.map fun m => lenO (getF m fs)).sum := by
      clear ih h
      induction N with
      | nil => simp
      | cons m N ihN =>
        rw [List.map_cons, List.map_cons, List.sum_cons, List.sum_cons]
        have : lenO (getF m (del n fs)) ≤ lenO (getF m fs) := by
          by_cases hm : m = n
          · subst hm; rw [getF_del]; simp [lenO]
          · rw [getF_del_ne hm]; exact Nat.le_refl _
        omega
    cases hg : getF n fs with
    | none =>
      have : del n fs = fs := by
        refine List.filter_eq_self.2 fun x hx => ?_
        have : x.1 ≠ n := by
          rintro rfl
          have := getF_name (l := fs) (n := x.1) (List.mem_map.2 ⟨x, hx, rfl⟩)
          rw [hg] at this
          cases this
        simpa using this
      rw [this] at ih
      have e0 : lenO (none : Option Fl) = 0 := rfl
      rw [e0]
      omega
    | some f =>
      have := used_del hr hg
      have e0 : lenO (some f) = f.bytes.length := rfl
      rw [e0]
      omega
theorem nodup_len {α : Type} [DecidableEq α] : ∀ (l N : List α), l.Nodup → (∀ x ∈ l, x ∈ N) → l.length ≤ N.length
  | [], _, _, _ => by simp
  | x :: l, N, hd, h => by
    obtain ⟨h1, h2⟩ := List.nodup_cons.1 hd
    have hx := h x (by simp)
    have ih := nodup_len l (N.erase x) h2 (fun y hy => (List.mem_erase_of_ne (fun e => h1 (by rw [← e]; exact hy))).2 (h y (by simp [hy])))
    rw [List.length_erase_of_mem hx] at ih
    have : 0 < N.length := List.length_pos_of_mem hx
    simp only [List.length_cons]
    omega
def needN (s : Ls) : List Nm := manN :: lgN s.log :: s.tabs.map fun t => tbN t.number
theorem needs_mem {s : Ls} {n : Nm} (h : s.needs n = true) : n ∈ needN s := by
  unfold Ls.needs at h
  simp only [Bool.or_eq_true, beq_iff_eq, List.any_eq_true] at h
  unfold needN
  rcases h with (rfl | rfl) | ⟨t, ht, rfl⟩
  · simp
  · simp
  · simp only [List.mem_cons, List.mem_map]
    exact .inr (.inr ⟨t, ht, rfl⟩)
theorem Lin.count {d : Dk} {s : Ls} {bs : List (List Ox)} {n : Nat} (h : Lin d s bs n) (ha : d.dead = false) : d.files.length ≤ 2 + s.tabs.length := by
  have := nodup_len (d.files.map (·.1)) (needN s) (rising_nodup h.rise) (fun x hx => by
    obtain ⟨y, hy, rfl⟩ := List.mem_map.1 hx
    exact needs_mem (h.cln ha y hy))
  simp only [needN, List.length_map, List.length_cons] at this
  omega
theorem Lin.used {d : Dk} {s : Ls} {bs : List (List Ox)} {n : Nat} (h : Lin d s bs n) (ha : d.dead = false) : used d.files ≤ (20 + 16 * s.tabs.length) + ((logOf bs).length + szT s.tabs) := by
  have h0 := used_names (needN s) d.files h.rise (fun x hx => needs_mem (h.cln ha x hx))
  have h1 : lenO (getF manN d.files) ≤ 20 + 16 * s.tabs.length := by
    rcases h.dur.says.man with ⟨e, _⟩ | ⟨f, e, hb⟩
    · rw [e]; simp [lenO]
    · rw [e]
      have := encMan_len (manOf s.next s.log s.tabs)
      simp only [manOf, List.length_map] at this
      simp only [lenO, hb, manOf]
      omega
  have h2 : lenO (getF (lgN s.log) d.files) ≤ (logOf bs).length := by
    have := h.dur.says.log
    simp only [manOf] at this
    rcases this with ⟨e, _⟩ | ⟨f, e, hb⟩
    · rw [e]; simp [lenO]
    · rw [e]; simp [lenO, hb]
  have h3 : ((s.tabs.map fun t => tbN t.number).map fun n => lenO (getF n d.files)).sum ≤ szT s.tabs := by
    rw [List.map_map]
    unfold szT
    have hall : ∀ t ∈ s.tabs, lenO (getF (tbN t.number) d.files) = (tabF t).length := fun t ht => by
      obtain ⟨i, hi, rfl⟩ := List.getElem_of_mem ht
      obtain ⟨f, e, hb, _⟩ := h.dur.says.tab i (by simpa [manOf] using hi) (by simpa [opsT] using hi)
      simp only [manOf, List.getElem_map] at e
      rw [e]
      simp only [lenO, hb, opsT, List.getElem_map, tabF]
    have : (s.tabs.map ((fun n => lenO (getF n d.files)) ∘ fun t => tbN t.number)) = s.tabs.map fun t => (tabF t).length := List.map_congr_left hall
    rw [this]
    exact Nat.le_refl _
  simp only [needN, List.map_cons, List.sum_cons] at h0
  omega
theorem tabF_len {t : Tb} (h : ∀ e ∈ t.es, opOk e.op = true) : (tabF t).length ≤ 4 + 82 * t.es.length := by
  have := (encBody_len (t.es.map (·.op)) (fun o ho => by obtain ⟨e, he, rfl⟩ := List.mem_map.1 ho; exact h e he)).2
  simp only [List.length_map] at this
  simp only [tabF, encLay, sealT, List.length_append, be4_len]
  omega
theorem szT_len : ∀ {ts : List Tb}, (∀ t ∈ ts, ∀ e ∈ t.es, opOk e.op = true) → szT ts ≤ 4 * ts.length + 82 * entsT ts
  | [], _ => by simp [szT]
  | t :: r, h => by
    have h1 := tabF_len (h t (by simp))
    have h2 := szT_len (ts := r) (fun t ht => h t (by simp [ht]))
    simp only [szT, entsT, List.map_cons, List.sum_cons, List.length_cons] at h2 ⊢
    omega
theorem logOf_len : ∀ {bs : List (List Ox)}, (∀ b ∈ bs, batchOk b = true) → (logOf bs).length ≤ 88 * bs.flatten.length
  | [], _ => by simp [logOf]
  | b :: r, h => by
    have hb := h b (by simp)
    have h1 := (encBody_len b (batchOk_iff.1 hb).2).2
    have h2 := logOf_len (bs := r) (fun t ht => h t (by simp [ht]))
    have h3 : 1 ≤ b.length := (batchOk_iff.1 hb).1.1
    have h4 := encode_len b
    rw [logOf_cons]
    simp only [List.length_append, List.flatten_cons]
    omega
end Go.Proofs.YtoabedkcieindabGreatDoor

namespace Go.Proofs.YtoabedkcieindabGreatDoor
def mz (m : Mm) : Nat := if m.isEmpty then 0 else 1
structure Lst (d : Dk) (s : Ls) (M : Mp) (n : Nat) : Prop where
  lin : ∃ bs m, Lin d s bs m ∧ s.len = (logOf bs).length ∧ bs.flatten.length ≤ n
  ok : d.Ok
  stl : Stl d
  qu : d.quota = 1048576
  turn : s.turn = d.turn
  pol : 0 ≤ s.policy ∧ s.policy ≤ 2
  sn : s.snaps = []
  stk : s.stuck = false
  mok : MmOk s.mem
  mop : ∀ e ∈ flatM s.mem, opOk e.op = true ∧ e.batch ≤ s.batch
  bat : 0 ≤ s.batch ∧ s.batch ≤ n
  rise : rising M
  view : ∀ k, viewE s.batch s.layers.flatten k = getF k M
  srt : ∀ x ∈ s.tabs, srt x.es
  tok : ∀ x ∈ s.tabs, ∀ e ∈ x.es, opOk e.op = true ∧ e.batch ≤ s.batch
  ne : ∀ x ∈ s.tabs, x.es ≠ []
  lv : nonR (s.tabs.map (·.level))
  shp : (crowd s.policy (s.tabs.map (·.level))).2 = 0
  ents : entsT s.tabs + (flatM s.mem).length ≤ n
  lev : ∀ x ∈ s.tabs, x.level + s.tabs.length + mz s.mem ≤ n
  few : s.tabs.length + mz s.mem ≤ n
  log : s.log + mz s.mem ≤ n
  next : s.next ≤ 1 + s.log * 111
theorem layOk_of : ∀ {l : Ly} {last : Nm}, srt l → (∀ e ∈ l, opOk e.op = true ∧ bytesBefore e.op.key last = false) → layOk last (l.map (·.op))
  | [], _, _, _ => trivial
  | e :: r, last, hs, h => by
    obtain ⟨h1, h2⟩ := h e (by simp)
    have hs' := List.pairwise_cons.1 hs
    exact ⟨h1, h2, layOk_of hs'.2 (fun x hx => ⟨(h x (by simp [hx])).1, hs'.1 x hx⟩)⟩
theorem before_nil (k : Nm) : bytesBefore k [] = false := by cases k <;> rfl
def esF (s : Ls) : Ly := needL s.kept s.tabs.isEmpty (mergeL [flatM s.mem])
def tabF0 (s : Ls) : List Tb := if (esF s).isEmpty then s.tabs else s.tabs ++ [⟨0, 0, esF s⟩]
theorem tabF0_is (s : Ls) : tabF0 s = s.tabs ++ (if (esF s).isEmpty then [] else [⟨0, 0, esF s⟩]) := by unfold tabF0; split <;> simp
theorem newF_by {a b : List Tb} (h : a.map (·.es) = b.map (·.es)) : newF a = newF b := by
  unfold newF
  rw [List.map_reverse, List.map_reverse, h]
theorem entsT_by {a b : List Tb} (h : a.map (·.es) = b.map (·.es)) : entsT a = entsT b := by
  unfold entsT
  have e : ∀ l : List Tb, (l.map fun t => t.es.length) = (l.map (·.es)).map List.length := fun l => by simp [Function.comp_def]
  rw [e, e, h]
def withB (s : Ls) (l : List Ox) : Ls := { s with loose := true, len := s.len + (encode l).length, batch := s.batch + 1, mem := doM (s.batch + 1) s.lastSnap s.mem l }
theorem opOk_bare {o : Ox} (h : opOk o = true) : opOk (bare o) = true := by
  unfold opOk at h ⊢
  unfold bare
  cases hg : o.gone
  · simp [hg] at h ⊢; exact h
  · simp [hg] at h ⊢; exact h
theorem doM1_mem {n last : Int} {m : Mm} {o : Ox} {e : En} (h : e ∈ flatM (doM1 n last m o)) : e = ⟨bare o, n⟩ ∨ e ∈ flatM m := by
  obtain ⟨x, hx, he⟩ := List.mem_flatMap.1 h
  unfold doM1 at hx
  rcases mem_ins.1 hx with rfl | hx
  · simp only at he
    rcases List.mem_cons.1 he with rfl | he
    · exact .inl rfl
    · have hv := vers_mem he
      refine .inr ?_
      cases hg : getF o.key m with
      | none => rw [hg] at hv; simp at hv
      | some l =>
        rw [hg] at hv
        exact List.mem_flatMap.2 ⟨_, getF_mem hg, hv⟩
  · exact .inr (List.mem_flatMap.2 ⟨x, mem_del hx, he⟩)
theorem doM_mem {n last : Int} : ∀ {l : List Ox} {m : Mm} {e : En}, e ∈ flatM (doM n last m l) → (∃ o ∈ l, e = ⟨bare o, n⟩) ∨ e ∈ flatM m
  | [], _, _, h => .inr h
  | o :: r, m, e, h => by
    rcases doM_mem (l := r) (m := doM1 n last m o) h with ⟨p, hp, he⟩ | h
    · exact .inl ⟨p, by simp [hp], he⟩
    · rcases doM1_mem h with he | h
      · exact .inl ⟨o, by simp, he⟩
      · exact .inr h
theorem doM1_ne (n last : Int) (m : Mm) (o : Ox) : doM1 n last m o ≠ [] := fun e => by
  have := congrArg List.length e
  unfold doM1 at this
  rw [ins_len] at this
  simp at this
theorem doM_ne {n last : Int} : ∀ {l : List Ox} {m : Mm}, (l ≠ [] ∨ m ≠ []) → doM n last m l ≠ []
  | [], _, h => h.resolve_left (fun f => f rfl)
  | o :: r, m, _ => doM_ne (l := r) (m := doM1 n last m o) (.inr (doM1_ne n last m o))
end Go.Proofs.YtoabedkcieindabGreatDoor

namespace Go.Proofs.YtoabedkcieindabGreatDoor
open Go.RowKit Go.Maps Go.Sort Go.Shelf
structure Lsy (w : World) (S E : Nat → Prop) (T bd bm bsn : Nat) (s : Sl) (l : List Tr) (d : Dk) (st : Ls) : Prop where
  prog : ProgAt w S bd d
  at_ : LsAt w E T bd bm bsn s l st
  dj : ∀ k, E k → ¬ S k
  nT : ¬ S T
  nm : ¬ S bm
  nn : ¬ S bsn
theorem mem_le_flat : ∀ {m : Mm}, (∀ x ∈ m, x.2 ≠ []) → m.length ≤ (flatM m).length
  | [], _ => by simp
  | x :: r, h => by
    have h1 := mem_le_flat (m := r) (fun y hy => h y (by simp [hy]))
    have h2 : 1 ≤ x.2.length := by
      have := h x (by simp)
      cases hx : x.2 with
      | nil => exact absurd hx this
      | cons a b => simp
    simp only [flatM, List.flatMap_cons, List.length_cons, List.length_append] at h1 ⊢
    omega
theorem entsT_at {ts : List Tb} {t : Tb} (h : t ∈ ts) : t.es.length ≤ entsT ts := by
  induction ts with
  | nil => cases h
  | cons x r ih =>
    simp only [entsT, List.map_cons, List.sum_cons]
    rcases List.mem_cons.1 h with rfl | h
    · omega
    · have := ih h
      unfold entsT at this
      omega
end Go.Proofs.YtoabedkcieindabGreatDoor

namespace Go.Proofs.YtoabedkcieindabGreatDoor
open Go.RowKit Go.Maps Go.Sort
def twoB (L : Nat) : Obj := .cells #[.int .u8 (IntKind.u8.wrap ((L : Int) / 256)), .int .u8 (IntKind.u8.wrap (L : Int))] 5
theorem conv_two {L : Nat} {W : World} {b : Nat} (h : W.heap[b]? = some (twoB L)) :
    (convert 123 9 (.slice (some ⟨b, 0, none⟩) 2 2)).run Tryz.prog W = .ok (str (be2 L)) W := by
  have e : [IntKind.u8.wrap ((L : Int) / 256), IntKind.u8.wrap (L : Int)] = (be2 L).map fun c => (c.toNat : Int) := by
    simp only [be2, List.map_cons, List.map_nil, byte_mod, IntKind.wrap_u8]
    congr 1
  rw [run_convert_bytes_arg W _ 5 Tryz.underlying123 Tryz.underlying5 b 0 2 2 [IntKind.u8.wrap ((L : Int) / 256), IntKind.u8.wrap (L : Int)] rfl (fun i hi => by
    rw [cell_block h]
    match i, hi with
    | 0, _ => rfl
    | 1, _ => rfl) _ Tryz.underlying9, e, nums_bytes]
set_option maxHeartbeats 2000000 in
set_option maxRecDepth 20000 in
theorem Encode_any (q : Option Addr) (qc : Nat) (l : List Ox) (w : World) (hbo : batchOk l = true) (hp : Opp w q l) :
    Calls Tryz.prog 98 #[.slice q l.length qc] w fun e w' => e = .returned (str (encode l)) ∧ Below w.heap.size w w' := by
  obtain ⟨⟨h1, h8⟩, hop⟩ := batchOk_iff.1 hbo
  obtain ⟨hb1, hb2⟩ := body_len hbo
  go_enter Tryz.func98, Tryz.ntmps98
  go_wp2
  go_loopw [3, 8] (fun v i wr => ∃ k : Nat, k ≤ l.length ∧ i = .int .i64 k ∧ OwnB wr w.heap.size v (encBody (l.take k)) ∧ Below w.heap.size w wr) (fun _ i _ => l.length - (intOf i).toNat)
  case atStart => exact ⟨0, Nat.zero_le _, rfl, World.ownsRow_nil _ _ _ _, Below.refl _ _⟩
  case round =>
    obtain ⟨k, hk, rfl, hown, hb⟩ := hrel
    by_cases hlt : k < l.length
    · obtain ⟨g, off, rfl, c0, c1, c2⟩ := hp.below hb k hlt
      have hlen := encBody_len (l.take k) (fun o ho => hop o (List.mem_of_mem_take ho))
      rw [List.length_take] at hlen
      obtain ⟨a, n, cap, rfl⟩ := ownB_some hown
      have hs := hb.size
      have hA := appendOp_any (.slice a n cap) (encBody (l.take k)) l[k] (wr.alloc (.cells #[str l[k].key, str l[k].val, .bool l[k].gone] 103)) w.heap.size (by simp; omega) (hown.alloc _) (hop _ (List.getElem_mem hlt)) (by omega)
      go_wp2_with (go_at_call 165; refine hA.mono ?_; rintro e w1 ⟨v1, rfl, hown1, hbl1⟩)
      go_roundw
      case rel => exact ⟨k + 1, by omega, by go_num, by rw [encBody_snoc hlt]; exact hown1, (hb.alloc hb.size _).trans hbl1⟩
      case measure => simp [intOf]; omega
    · rw [List.take_of_length_le (by omega)] at hown
      obtain ⟨a, cap, rfl⟩ := ownB_shape hown
      obtain ⟨g, rfl⟩ : ∃ g, a = some ⟨g, 0, none⟩ := by
        rcases hown.2 with ⟨hv, hn⟩ | ⟨g, cap', cur, hv, _⟩
        · omega
        · exact ⟨g, by simpa using (Value.slice.inj hv).1⟩
      have hs := hb.size
      have HE : Hid (encode l = be2 (encBody l).length ++ sealT (encBody l)) := by show _ = _; simp [encode, sealT]
      have hS : ∀ W : World, w.heap.size ≤ W.heap.size → OwnB W w.heap.size (.slice (some ⟨g, 0, none⟩) (encBody l).length cap) (encBody l) → Calls Tryz.prog 166 #[.slice (some ⟨g, 0, none⟩) (encBody l).length cap] W fun e w' => e = .returned (str (sealT (encBody l))) ∧ Below W.heap.size W w' := fun W hW ho => seal_any g cap w.heap.size (encBody l) W hW ho (by omega)
      have HO : Hid (OwnB wr w.heap.size (.slice (some ⟨g, 0, none⟩) (encBody l).length cap) (encBody l)) := hown
      have hsl : (sealT (encBody l)).length = 4 + (encBody l).length := by simp [sealT, be4_len]
      clear hown
      generalize sealT (encBody l) = T at *
      generalize hL : (encBody l).length = L at *
      have hcA := conv_two (L := L) (W := (wr.alloc (twoB L)).drew) (b := wr.heap.size) (block_new wr _)
      unfold twoB at hcA
      have hz2 : (⟨(be2 L).toArray⟩ : ByteArray).size = 2 := rfl
      have hzT : (⟨T.toArray⟩ : ByteArray).size = T.length := rfl
      go_wp2
      go_region_with (go_at_call 166; (first | refine (hS _ (by simp; omega) (HO.out.kept ((Kp.refl (fun _ => False) wr).drew) (fun _ _ f => f))).mono ?_ | refine (hS _ (by simp; omega) (HO.out.kept (((Kp.refl (fun _ => False) wr).alloc _).drew) (fun _ _ f => f))).mono ?_); rintro e w1 ⟨rfl, hb1⟩; (first | (have hcB := conv_two (L := L) (W := w1) (b := wr.heap.size) ((hb1.block _ (by simp)).trans (block_new wr _)); unfold twoB at hcB) | (have hcB := conv_two (L := L) (W := w1.alloc (twoB L)) (b := w1.heap.size) (block_new w1 _); unfold twoB at hcB)))
      all_goals go_wp2
      all_goals go_ret
      all_goals rw [HE.out]
      all_goals refine ⟨congrArg (fun s => Ending.returned (.string s)) (str_app (be2 L) T), ?_⟩
      · exact ((hb.alloc hs _).drew).trans (hb1.mono (by simp; omega))
      · exact ((hb.alloc hs _).drew).trans (hb1.mono (by simp; omega))
      · exact ((hb.drew).trans (hb1.mono (by simp; omega))).alloc (by have := hb1.size; simp at this; omega) _
end Go.Proofs.YtoabedkcieindabGreatDoor
