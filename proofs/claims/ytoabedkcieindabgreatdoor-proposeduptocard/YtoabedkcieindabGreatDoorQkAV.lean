import Derived.Test.YtoabedkcieindabGreatDoorQkAU
namespace Go.Proofs.YtoabedkcieindabGreatDoor
def tabF (t : Tb) : List UInt8 := encLay (t.es.map (·.op))
def wholeF (b : List UInt8) : Fl := ⟨b, b.length⟩
theorem write_zero {d : Dk} {n : Nm} {t : List UInt8} (h : (d.write n t).1 = 0) : d.dead = false ∧ nameOk n = true ∧ (d.write n t).2 = { d.burn with files := if (getF n d.files).isSome then upd n (addB t) d.files else ins (n, ⟨t, 0⟩) d.files } := by
  unfold Dk.write at h ⊢
  split at h
  · cases h
  · rename_i h1
    rw [if_neg h1]
    split at h
    · cases h
    · rename_i h2
      rw [if_neg h2]
      split at h
      · cases h
      · rename_i h3
        rw [if_neg h3]
        split at h
        · cases h
        · rename_i h4
          rw [if_neg h4]
          exact ⟨by simpa using h1, by simpa using h2, rfl⟩
theorem sync_zero {d : Dk} {n : Nm} (h : (d.sync n).1 = 0) : d.dead = false ∧ (d.sync n).2 = { d.burn with files := upd n allSafe d.files } := by
  unfold Dk.sync at h ⊢
  split at h
  · cases h
  · rename_i h1
    rw [if_neg h1]
    split at h
    · cases h
    · rename_i h2
      rw [if_neg h2]
      split at h
      · cases h
      · rename_i h3
        rw [if_neg h3]
        exact ⟨by simpa using h1, rfl⟩
theorem lwrite_zero {d : Dk} {n : Nm} {t : List UInt8} (h : (lwrite d n t).1 = 0) (hr : rising d.files) (hn : getF n d.files = none) :
    d.dead = false ∧ (lwrite d n t).2.dead = false ∧ getF n (lwrite d n t).2.files = some (wholeF t) ∧ (∀ k, k ≠ n → getF k (lwrite d n t).2.files = getF k d.files) ∧ rising (lwrite d n t).2.files := by
  unfold lwrite at h ⊢
  simp only at h ⊢
  split at h
  · rename_i h1; exact absurd h h1
  · rename_i h1
    have h1' : (d.write n t).1 = 0 := Classical.not_not.1 h1
    rw [if_neg h1]
    obtain ⟨a, -, b⟩ := write_zero h1'
    have hf : (d.write n t).2.files = ins (n, ⟨t, 0⟩) d.files := by rw [b, hn]; rfl
    have hd : (d.write n t).2.dead = false := by rw [b]; exact a
    obtain ⟨-, e⟩ := sync_zero h
    have hf2 : ((d.write n t).2.sync n).2.files = upd n allSafe (ins (n, ⟨t, 0⟩) d.files) := by rw [e]; show upd n allSafe (d.write n t).2.files = _; rw [hf]
    have hr1 : rising (ins (n, (⟨t, 0⟩ : Fl)) d.files) := rising_ins hr hn
    refine ⟨a, by rw [e]; exact hd, ?_, fun k hk => ?_, ?_⟩
    · rw [hf2, getF_updAt allSafe (getF_ins hr hn)]; rfl
    · rw [hf2, getF_updOff hk, getF_insOff hk]
    · rw [hf2]; exact rising_by (names_upd _ _ _) hr1
structure Wrt (next : Nat) (ts : List Tb) (d d1 : Dk) (n1 : Nat) (ts1 : List Tb) : Prop where
  lv : ts1.map (·.level) = ts.map (·.level)
  es : ts1.map (·.es) = ts.map (·.es)
  lo : next ≤ n1
  hi : n1 ≤ next + ts.length
  rise : rising d1.files
  off : ∀ k, (∀ j, next ≤ j → j < n1 → k ≠ tbN j) → getF k d1.files = getF k d.files
  num : ∀ t ∈ ts1, 1 ≤ t.number ∧ t.number < n1 ∧ (t ∈ ts ∨ (next ≤ t.number ∧ getF (tbN t.number) d1.files = some (wholeF (tabF t))))
  dif : (ts1.map (·.number)).Nodup
  dead : d1.dead = true → d.dead = true
theorem writtenF_ok : ∀ (ts : List Tb) (next : Nat) (d : Dk), 1 ≤ next → rising d.files → (∀ j, next ≤ j → j < 9223372036854775808 → getF (tbN j) d.files = none) → next + ts.length < 9223372036854775808 →
    (∀ t ∈ ts, t.number < next) → ((ts.filter fun t => decide (0 < t.number)).map (·.number)).Nodup → (writtenF next ts d).1 = 0 → Wrt next ts d (writtenF next ts d).2.1 (writtenF next ts d).2.2.1 (writtenF next ts d).2.2.2
  | [], next, d, _, hr, _, _, _, _, _ => ⟨rfl, rfl, Nat.le_refl _, by simp [writtenF], hr, fun _ _ => rfl, fun _ h => (by cases h), List.nodup_nil, id⟩
  | t :: r, next, d, h1, hr, hf, hl, hlt, hnd, he => by
    have hlr : next + r.length + 1 < 9223372036854775808 := by simp only [List.length_cons] at hl; omega
    rw [writtenF] at he ⊢
    by_cases ht : 0 < t.number
    · rw [if_pos ht] at he ⊢
      simp only at he ⊢
      have hnd' : t.number ∉ ((r.filter fun t => decide (0 < t.number)).map (·.number)) ∧ ((r.filter fun t => decide (0 < t.number)).map (·.number)).Nodup := by
        rw [List.filter_cons_of_pos (by simpa using ht), List.map_cons, List.nodup_cons] at hnd
        exact hnd
      have ih := writtenF_ok r next d h1 hr hf (by omega) (fun x hx => hlt x (by simp [hx])) hnd'.2 he
      have htn := hlt t (by simp)
      refine ⟨by rw [List.map_cons, List.map_cons, ih.lv], by rw [List.map_cons, List.map_cons, ih.es], ih.lo, by have := ih.hi; simp only [List.length_cons]; omega, ih.rise, ih.off, fun x hx => ?_, ?_, ih.dead⟩
      · rcases List.mem_cons.1 hx with rfl | hx
        · exact ⟨ht, by have := ih.lo; omega, .inl (by simp)⟩
        · obtain ⟨a, b, c⟩ := ih.num x hx
          exact ⟨a, b, c.imp (fun h => by simp [h]) id⟩
      · rw [List.map_cons, List.nodup_cons]
        refine ⟨fun hm => ?_, ih.dif⟩
        obtain ⟨x, hx, e⟩ := List.mem_map.1 hm
        obtain ⟨a, b, c | ⟨c, -⟩⟩ := ih.num x hx
        · exact hnd'.1 (List.mem_map.2 ⟨x, List.mem_filter.2 ⟨c, by simpa using (show 0 < x.number by omega)⟩, e⟩)
        · omega
    · rw [if_neg ht] at he ⊢
      simp only at he ⊢
      have hnd' : ((r.filter fun t => decide (0 < t.number)).map (·.number)).Nodup := by
        rw [List.filter_cons_of_neg (by simpa using ht)] at hnd
        exact hnd
      split at he
      · rename_i h9; exact absurd he h9
      · rename_i h9
        have h9' : (lwrite d (tbN next) (tabF t)).1 = 0 := Classical.not_not.1 h9
        obtain ⟨a1, a2, a3, a4, a5⟩ := lwrite_zero h9' hr (hf next (Nat.le_refl _) (by omega))
        have hne : ∀ j, next + 1 ≤ j → j < 9223372036854775808 → tbN j ≠ tbN next := fun j j1 j2 e => by
          have := tbN_inj j2 (by omega) e
          omega
        have ih := writtenF_ok r (next + 1) (lwrite d (tbN next) (tabF t)).2 (by omega) a5 (fun j j1 j2 => by rw [a4 _ (hne j j1 j2)]; exact hf j (by omega) j2) (by omega) (fun x hx => by have := hlt x (by simp [hx]); omega) hnd' he
        rw [if_neg (show ¬ (lwrite d (tbN next) (encLay (t.es.map (·.op)))).1 ≠ 0 from h9)]
        have hself : getF (tbN next) (writtenF (next + 1) r (lwrite d (tbN next) (tabF t)).2).2.1.files = some (wholeF (tabF t)) := by
          rw [ih.off _ (fun j j1 j2 e => by have := ih.hi; exact hne j j1 (by omega) e.symm), a3]
        refine ⟨by rw [List.map_cons, List.map_cons]; exact congrArg _ ih.lv, by rw [List.map_cons, List.map_cons]; exact congrArg _ ih.es, by have := ih.lo; show next ≤ _; exact Nat.le_trans (Nat.le_succ _) this, by have := ih.hi; simp only [List.length_cons]; show _ ≤ next + (r.length + 1); exact Nat.le_trans this (by omega), ih.rise, fun k hk => ?_, fun x hx => ?_, ?_, fun h => ?_⟩
        · have hk1 : k ≠ tbN next := hk next (Nat.le_refl _) (by have := ih.lo; show next < _; exact Nat.lt_of_lt_of_le (Nat.lt_succ_self _) this)
          have h7 := ih.off k (fun j j1 j2 => hk j (by omega) j2)
          exact h7.trans (a4 k hk1)
        · rcases List.mem_cons.1 hx with rfl | hx
          · exact ⟨h1, by have := ih.lo; exact Nat.lt_of_lt_of_le (Nat.lt_succ_self _) this, .inr ⟨Nat.le_refl _, hself⟩⟩
          · obtain ⟨a, b, c⟩ := ih.num x hx
            refine ⟨a, b, ?_⟩
            rcases c with c | ⟨c1, c2⟩
            · exact .inl (by simp [c])
            · exact .inr ⟨by omega, c2⟩
        · rw [List.map_cons, List.nodup_cons]
          refine ⟨fun hm => ?_, ih.dif⟩
          obtain ⟨x, hx, e⟩ := List.mem_map.1 hm
          simp only at e
          obtain ⟨a, b, c | ⟨c, -⟩⟩ := ih.num x hx
          · have := hlt x (by simp [c]); omega
          · omega
        · have := ih.dead h
          rw [a2] at this
          cases this
theorem Off.written {m : Man} (hm : manOk m) : ∀ (ts : List Tb) (next : Nat) (d : Dk), m.next ≤ next → next + (ts.filter fun t => !decide (0 < t.number)).length ≤ m.next + m.tabs.length + 1 → m.next + m.tabs.length < 9223372036854775807 → Off m d (writtenF next ts d).2.1
  | [], _, d, _, _, _ => Off.refl m d
  | t :: r, next, d, h1, h2, h3 => by
    rw [writtenF]
    by_cases ht : 0 < t.number
    · rw [if_pos ht]
      rw [List.filter_cons_of_neg (by simp; omega)] at h2
      exact Off.written hm r next d h1 h2 h3
    · rw [if_neg ht]
      rw [List.filter_cons_of_pos (by simp; omega), List.length_cons] at h2
      have o := Off.lwrite (m := m) d (tbN_free hm h1 (by omega)) (tbN_may (by omega) (by omega)) (tabF t)
      simp only
      split
      · exact o
      · exact o.trans (Off.written hm r (next + 1) _ (by omega) (by omega) h3)
end Go.Proofs.YtoabedkcieindabGreatDoor

namespace Go.Proofs.YtoabedkcieindabGreatDoor
theorem rename_zero {d : Dk} {n k : Nm} (h : (d.rename n k).1 = 0) : ∃ f, getF n d.files = some f ∧ d.dead = false ∧ (d.rename n k).2 = { d.burn with files := moved n k f d.files } := by
  unfold Dk.rename at h ⊢
  split at h
  · cases h
  · rename_i h1
    rw [if_neg h1]
    split at h
    · cases h
    · rename_i h2
      rw [if_neg h2]
      cases hg : getF n d.files with
      | none => rw [hg] at h; cases h
      | some f =>
        rw [hg] at h
        simp only at h ⊢
        split at h
        · cases h
        · rename_i h3
          rw [if_neg h3]
          exact ⟨f, rfl, by simpa using h1, rfl⟩
theorem rename_not {d : Dk} {n k : Nm} (h : (d.rename n k).1 ≠ 0) : (d.rename n k).2 = d ∨ (d.rename n k).2 = d.die := by
  unfold Dk.rename at h ⊢
  split
  · exact .inl rfl
  · rename_i h1
    rw [if_neg h1] at h
    split
    · exact .inl rfl
    · rename_i h2
      rw [if_neg h2] at h
      cases hg : getF n d.files with
      | none => exact .inl rfl
      | some f =>
        rw [hg] at h
        simp only at h ⊢
        split
        · exact .inr rfl
        · rename_i h3
          rw [if_neg h3] at h
          exact absurd rfl h
theorem Off.die (m : Man) (d : Dk) : Off m d d.die := ⟨fun _ _ => rfl, id, id, rfl, rfl, fun _ => rfl⟩
theorem lreplace_zero {d : Dk} {n : Nm} {t : List UInt8} (h : (lreplace d n t).1 = 0) (hr : rising d.files) (hb : getF begN d.files = none) (hn : n ≠ begN) :
    d.dead = false ∧ (lreplace d n t).2.dead = false ∧ getF n (lreplace d n t).2.files = some (wholeF t) ∧ (∀ k, k ≠ n → getF k (lreplace d n t).2.files = getF k d.files) ∧ rising (lreplace d n t).2.files ∧
    ∀ x ∈ (lreplace d n t).2.files, x.1 = n ∨ ∃ y ∈ d.files, y.1 = x.1 := by
  unfold lreplace at h ⊢
  simp only at h ⊢
  split at h
  · rename_i h1; exact absurd h h1
  · rename_i h1
    have h1' : (lwrite d begN t).1 = 0 := Classical.not_not.1 h1
    rw [if_neg h1]
    obtain ⟨a1, a2, a3, a4, a5⟩ := lwrite_zero h1' hr hb
    obtain ⟨f, b1, b2, b3⟩ := rename_zero h
    rw [a3] at b1
    cases b1
    have hf : ((lwrite d begN t).2.rename begN n).2.files = ins (n, wholeF t) (del n (del begN (lwrite d begN t).2.files)) := by
      rw [b3]
      simp only [moved]
      rw [if_neg (fun e => hn e.symm)]
    have hr1 : rising (del n (del begN (lwrite d begN t).2.files)) := rising_del (rising_del a5)
    refine ⟨a1, by rw [b3]; exact b2, ?_, fun k hk => ?_, ?_, fun x hx => ?_⟩
    · rw [hf]; exact getF_ins hr1 (getF_del _ _)
    · rw [hf, getF_insOff hk, getF_del_ne hk]
      by_cases hkb : k = begN
      · subst hkb; rw [getF_del, hb]
      · rw [getF_del_ne hkb, a4 k hkb]
    · rw [hf]; exact rising_ins hr1 (getF_del _ _)
    · rw [hf] at hx
      rcases mem_ins.1 hx with rfl | hx
      · exact .inl rfl
      · have h2 := (List.mem_filter.1 hx).1
        have h3 := List.mem_filter.1 h2
        have h4 : x.1 ≠ begN := by have := h3.2; simpa using this
        have h5 : (getF x.1 (lwrite d begN t).2.files).isSome = true := getF_name (List.mem_map.2 ⟨x, h3.1, rfl⟩)
        rw [a4 _ h4] at h5
        cases hg : getF x.1 d.files with
        | none => rw [hg] at h5; cases h5
        | some g => exact .inr ⟨_, getF_mem hg, rfl⟩
theorem lreplace_not {m : Man} {d : Dk} {n : Nm} {t : List UInt8} (h : (lreplace d n t).1 ≠ 0) : Off m d (lreplace d n t).2 := by
  have o := Off.lwrite (m := m) d (begN_free m) (begN_may m) t
  unfold lreplace at h ⊢
  simp only at h ⊢
  split
  · exact o
  · rename_i h1
    rw [if_neg h1] at h
    rcases rename_not h with e | e
    · rw [e]; exact o
    · rw [e]; exact o.trans (Off.die m _)
theorem remove_is {d : Dk} {n : Nm} (hd : d.dead = false) (hs : (getF n d.files).isSome = true) : ((d.remove n).1 = 0 ∧ (d.remove n).2 = { d.burn with files := del n d.files }) ∨ ((d.remove n).1 = 4 ∧ (d.remove n).2 = d.die) := by
  have hno : ¬ (getF n d.files).isNone = true := by cases hg : getF n d.files with | none => rw [hg] at hs; cases hs | some f => simp
  unfold Dk.remove
  rw [if_neg (by rw [hd]; simp), if_neg hno]
  split
  · exact .inr ⟨rfl, rfl⟩
  · exact .inl ⟨rfl, rfl⟩
theorem sweepF_clean (s : Ls) : ∀ (ns : List Nm) (d : Dk), d.dead = false → ns.Nodup → (∀ n ∈ ns, (getF n d.files).isSome = true) → (∀ x ∈ d.files, oursN x.1 = true) → (∀ x ∈ d.files, x.1 ∈ ns ∨ s.needs x.1 = true) →
    (sweepF s ns d).2.dead = false → (sweepF s ns d).1 = 0 ∧ ∀ x ∈ (sweepF s ns d).2.files, s.needs x.1 = true
  | [], d, _, _, _, _, hn, _ => ⟨rfl, fun x hx => (hn x hx).elim (fun h => by cases h) id⟩
  | n :: r, d, hd, hnd, hs, ho, hn, ha => by
    obtain ⟨h1, h2⟩ := List.nodup_cons.1 hnd
    rw [sweepF] at ha ⊢
    have hon : oursN n = true := by
      cases hg : getF n d.files with
      | none => have := hs n (by simp); rw [hg] at this; cases this
      | some f => exact ho _ (getF_mem hg)
    by_cases hk : s.needs n = true
    · rw [if_pos (by rw [hk]; simp)] at ha ⊢
      refine sweepF_clean s r d hd h2 (fun k hk => hs k (by simp [hk])) ho (fun x hx => ?_) ha
      rcases hn x hx with h | h
      · rcases List.mem_cons.1 h with h | h
        · right; rw [h]; exact hk
        · exact .inl h
      · exact .inr h
    · have hc : ¬ (!oursN n || s.needs n) = true := by rw [hon]; simpa using hk
      rw [if_neg hc] at ha ⊢
      simp only at ha ⊢
      rcases remove_is hd (hs n (by simp)) with ⟨e1, e2⟩ | ⟨e1, e2⟩
      · rw [if_neg (by rw [e1]; simp)] at ha ⊢
        have hf : (d.remove n).2.files = del n d.files := by rw [e2]
        refine sweepF_clean s r _ (by rw [e2]; exact hd) h2 (fun k hk => ?_) (fun x hx => ?_) (fun x hx => ?_) ha
        · rw [hf, getF_del_ne (fun e : k = n => h1 (e ▸ hk))]; exact hs k (by simp [hk])
        · rw [hf] at hx; exact ho x (List.mem_filter.1 hx).1
        · rw [hf] at hx
          obtain ⟨hx1, hx2⟩ := List.mem_filter.1 hx
          rcases hn x hx1 with h | h
          · rcases List.mem_cons.1 h with h | h
            · rw [h] at hx2; simp at hx2
            · exact .inl h
          · exact .inr h
      · rw [if_pos (by rw [e1]; decide)] at ha
        rw [e2] at ha
        cases ha
theorem sweepX_clean {s : Ls} {d : Dk} (hr : rising d.files) (ho : ∀ x ∈ d.files, oursN x.1 = true) (ha : (sweepX s d).2.dead = false) : (sweepX s d).1 = 0 ∧ ∀ x ∈ (sweepX s d).2.files, s.needs x.1 = true := by
  unfold sweepX at ha ⊢
  split
  · rename_i h; rw [if_pos h] at ha; simp only at ha; rw [h] at ha; cases ha
  · rename_i h
    rw [if_neg h] at ha
    exact sweepF_clean s _ d (by simpa using h) (rising_nodup hr) (fun n hn => getF_name hn) ho (fun x hx => .inl (List.mem_map.2 ⟨x, hx, rfl⟩)) ha
end Go.Proofs.YtoabedkcieindabGreatDoor

namespace Go.Proofs.YtoabedkcieindabGreatDoor
def opsT (ts : List Tb) : List (List Ox) := ts.map fun t => t.es.map (·.op)
structure Lin (d : Dk) (s : Ls) (bs : List (List Ox)) (n : Nat) : Prop where
  dur : Dur d (manOf s.next s.log s.tabs) (opsT s.tabs) bs [] n
  cln : d.dead = false → ∀ x ∈ d.files, s.needs x.1 = true
  rise : rising d.files
theorem same_man (s : Ls) : Same s (manOf s.next s.log s.tabs) := ⟨rfl, by simp [manOf, Function.comp_def]⟩
theorem Lin.off {d d' : Dk} {s : Ls} {bs : List (List Ox)} {n : Nat} (h : Lin d s bs n) (o : Off (manOf s.next s.log s.tabs) d d') : Lin (sweepX s d').2 s bs n := by
  have o2 := o.trans (Off.sweepX (same_man s) d')
  exact ⟨h.dur.off o2, fun ha => (sweepX_clean (o.rise h.rise) (fun x hx => (o.may h.dur.says.may x hx).1) ha).2, o2.rise h.rise⟩
theorem lreplace_dead {d : Dk} (h : d.dead = true) (n : Nm) (t : List UInt8) : (lreplace d n t).1 = 4 := by
  have hw : d.write begN t = (4, d) := by unfold Dk.write; rw [if_pos h]
  unfold lreplace lwrite
  simp [hw]
theorem plsOk_of {next : Nat} : ∀ {l : List Pl} {lv : Nat}, (∀ p ∈ l, 1 ≤ p.number ∧ p.number < next) → (∀ p ∈ l, p.level ≤ lv) → (l.map (·.level)).Pairwise (fun a b => b ≤ a) → plsOk next lv l = true
  | [], _, _, _, _ => rfl
  | p :: r, lv, h1, h2, h3 => by
    rw [List.map_cons, List.pairwise_cons] at h3
    obtain ⟨a, b⟩ := h1 p (by simp)
    simp only [plsOk, Bool.and_eq_true, decide_eq_true_eq]
    exact ⟨⟨⟨a, b⟩, h2 p (by simp)⟩, plsOk_of (fun q hq => h1 q (by simp [hq])) (fun q hq => h3.1 _ (List.mem_map.2 ⟨q, hq, rfl⟩)) h3.2⟩
structure Fits (s : Ls) (T : List Tb) : Prop where
  lv : (T.map (·.level)).Pairwise (fun a b => b ≤ a)
  top : ∀ t ∈ T, t.level ≤ 4611686018427387904
  old : ∀ t ∈ T, 0 < t.number → t ∈ s.tabs
  dif : ((T.filter fun t => decide (0 < t.number)).map (·.number)).Nodup
  es : ∀ t ∈ T, layOk [] (t.es.map (·.op)) ∧ t.es ≠ []
  few : (T.filter fun t => !decide (0 < t.number)).length ≤ s.tabs.length + 1
  big : s.next + T.length < 4611686018427387904 ∧ s.tabs.length < 4611686018427387904
theorem mem_by_map {α β : Type} {f : α → β} {l l' : List α} (h : l'.map f = l.map f) {x : α} (hx : x ∈ l') : ∃ y ∈ l, f y = f x := by
  have : f x ∈ l.map f := by rw [← h]; exact List.mem_map.2 ⟨x, hx, rfl⟩
  obtain ⟨y, hy, e⟩ := List.mem_map.1 this
  exact ⟨y, hy, e⟩
theorem lgN_next {s : Ls} {log : Nat} (h : log = s.log + 1) (hl : log < 4611686018427387904) : s.needs (lgN log) = false := by
  unfold Ls.needs
  simp only [Bool.or_eq_false_iff, beq_eq_false_iff_ne, List.any_eq_false]
  refine ⟨⟨log_man _, fun e => ?_⟩, fun t _ => ?_⟩
  · have := lgN_inj (by omega) (by omega) e; omega
  · simp only [beq_iff_eq]; exact log_tab _ _
theorem none_of {d : Dk} {s : Ls} (hc : ∀ x ∈ d.files, s.needs x.1 = true) {k : Nm} (hk : s.needs k = false) : getF k d.files = none :=
  getF_off fun x hx e => by have := hc x hx; rw [e, hk] at this; cases this
theorem commit_any {d : Dk} {s : Ls} {bs : List (List Ox)} {n : Nat} (h : Lin d s bs n) {T : List Tb} (hT : Fits s T) {log : Nat} (hlog : log = s.log ∨ (log = s.log + 1 ∧ log < 4611686018427387904)) :
    ((commitX d s T log).1 ≠ 0 ∧ (commitX d s T log).2.2 = s ∧ Lin (commitX d s T log).2.1 s bs n) ∨
    ((commitX d s T log).1 = 0 ∧ ∃ ts1 n1, (commitX d s T log).2.2 = s.turned ts1 n1 log ∧ ts1.map (·.es) = T.map (·.es) ∧ ts1.map (·.level) = T.map (·.level) ∧ s.next ≤ n1 ∧ n1 ≤ s.next + T.length ∧
      Lin (commitX d s T log).2.1 (s.turned ts1 n1 log) (if log = s.log then bs else []) (if log = s.log then n else 0)) := by
  have hok : manOk (manOf s.next s.log s.tabs) := h.dur.says.ok
  have hnx : 1 ≤ s.next := hok.1
  have hlg : s.log < 4611686018427387904 := hok.2.2.1
  have hnum : ∀ t ∈ s.tabs, 1 ≤ t.number ∧ t.number < s.next := fun t ht => by
    have := plsOk_at hok.2.2.2.1 ⟨t.number, t.level⟩ (List.mem_map.2 ⟨t, ht, rfl⟩)
    exact ⟨this.1, this.2.1⟩
  have hb := hT.big
  have o1 : Off (manOf s.next s.log s.tabs) d (writtenF s.next T d).2.1 := Off.written hok T s.next d (Nat.le_refl _) (by have := hT.few; simp only [manOf, List.length_map]; omega) (by have := hok.2.1; simp only [manOf, List.length_map] at *; omega)
  unfold commitX
  simp only
  by_cases hx : (writtenF s.next T d).1 ≠ 0
  · rw [if_pos hx]
    exact .inl ⟨hx, rfl, h.off o1⟩
  · rw [if_neg hx]
    have hx' : (writtenF s.next T d).1 = 0 := Classical.not_not.1 hx
    by_cases hy : (lreplace (writtenF s.next T d).2.1 manN (encMan (manOf (writtenF s.next T d).2.2.1 log (writtenF s.next T d).2.2.2))).1 ≠ 0
    · rw [if_pos hy]
      exact .inl ⟨hy, rfl, h.off (o1.trans (lreplace_not hy))⟩
    · rw [if_neg hy]
      have hy' := Classical.not_not.1 hy
      have hd1 : (writtenF s.next T d).2.1.dead = false := by
        cases hd : (writtenF s.next T d).2.1.dead with
        | false => rfl
        | true => rw [lreplace_dead hd] at hy'; cases hy'
      have hd : d.dead = false := by
        cases hd : d.dead with
        | false => rfl
        | true => rw [o1.dead hd] at hd1; cases hd1
      have hc := h.cln hd
      have hfree : ∀ j, s.next ≤ j → j < 9223372036854775808 → s.needs (tbN j) = false := fun j j1 j2 => by
        cases hg : s.needs (tbN j) with
        | false => rfl
        | true =>
          exfalso
          unfold Ls.needs at hg
          simp only [Bool.or_eq_true, beq_iff_eq, List.any_eq_true] at hg
          rcases hg with (hg | hg) | ⟨t, ht, hg⟩
          · exact tab_man _ hg
          · exact log_tab _ _ hg.symm
          · have h7 := hnum t ht
            have := tbN_inj j2 (by have := hok.2.1; simp only [manOf] at this; omega) hg
            omega
      have W := writtenF_ok T s.next d hnx h.rise (fun j j1 j2 => none_of hc (hfree j j1 j2)) (by omega) (fun t ht => by
        rcases Nat.eq_zero_or_pos t.number with h0 | h0
        · omega
        · exact (hnum t (hT.old t ht h0)).2) hT.dif hx'
      have hbeg : s.needs begN = false := by
        unfold Ls.needs
        simp only [Bool.or_eq_false_iff, beq_eq_false_iff_ne, List.any_eq_false]
        exact ⟨⟨fun e => man_beg e.symm, fun e => log_beg _ e.symm⟩, fun t _ => by simp only [beq_iff_eq]; exact fun e => tab_beg _ e.symm⟩
      have hbn : getF begN (writtenF s.next T d).2.1.files = none := (W.off begN (fun j _ _ e => tab_beg _ e.symm)).trans (none_of hc hbeg)
      obtain ⟨-, y2, y3, y4, y5, y6⟩ := lreplace_zero hy' W.rise hbn man_beg
      generalize hX : writtenF s.next T d = X at *
      obtain ⟨e0, d1, n1, ts1⟩ := X
      simp only at *
      subst hx'
      generalize hY : lreplace d1 manN (encMan (manOf n1 log ts1)) = Y at *
      obtain ⟨e2, d2⟩ := Y
      simp only at *
      have hlen : ts1.length = T.length := by have := congrArg List.length W.lv; simpa using this
      have hll : log < 4611686018427387904 := by omega
      have hmok : manOk (manOf n1 log ts1) := by
        refine ⟨by have := W.lo; simp only [manOf]; omega, by have := W.hi; simp only [manOf]; omega, hll, ?_, ?_⟩
        · refine plsOk_of (fun p hp => ?_) (fun p hp => ?_) ?_
          · obtain ⟨t, ht, rfl⟩ := List.mem_map.1 hp
            obtain ⟨a, b, -⟩ := W.num t ht
            exact ⟨a, b⟩
          · obtain ⟨t, ht, rfl⟩ := List.mem_map.1 hp
            obtain ⟨u, hu, e⟩ := mem_by_map W.lv ht
            have := hT.top u hu
            simp only at e ⊢
            omega
          · have : (manOf n1 log ts1).tabs.map (·.level) = ts1.map (·.level) := by simp [manOf, Function.comp_def]
            rw [this, W.lv]
            exact hT.lv
        · have : (manOf n1 log ts1).tabs.map (·.number) = ts1.map (·.number) := by simp [manOf, Function.comp_def]
          rw [this]
          exact W.dif
      have hgetT : ∀ t ∈ ts1, ∃ f, getF (tbN t.number) d2.files = some f ∧ f.bytes = encLay (t.es.map (·.op)) ∧ f.safe = f.bytes.length := fun t ht => by
        rw [y4 _ (tab_man _)]
        obtain ⟨a, b, c | ⟨c, e⟩⟩ := W.num t ht
        · have hts := hT.old t c a
          obtain ⟨i, hi, hit⟩ := List.mem_iff_getElem.1 hts
          obtain ⟨f, f1, f2, -⟩ := h.dur.says.tab i (by simpa [manOf] using hi) (by simpa [opsT] using hi)
          have g1 : (manOf s.next s.log s.tabs).tabs[i]'(by simpa [manOf] using hi) = ⟨t.number, t.level⟩ := by simp [manOf, hit]
          have g2 : (opsT s.tabs)[i]'(by simpa [opsT] using hi) = t.es.map (·.op) := by simp [opsT, hit]
          rw [g1] at f1
          rw [g2] at f2
          have hs := h.dur.stab ⟨t.number, t.level⟩ (List.mem_map.2 ⟨t, hts, rfl⟩) f f1
          refine ⟨f, ?_, f2, hs⟩
          rw [W.off _ (fun j j1 j2 e => by
            have h7 := (hnum t hts).2
            have h8 := W.hi
            have := tbN_inj (by omega) (by omega) e
            omega)]
          exact f1
        · exact ⟨_, e, rfl, rfl⟩
      have hlogN : getF (lgN log) d2.files = getF (lgN log) d.files := by rw [y4 _ (log_man _), W.off _ (fun j _ _ e => log_tab _ _ e)]
      have hdur : Dur d2 (manOf n1 log ts1) (opsT ts1) (if log = s.log then bs else []) [] (if log = s.log then n else 0) := by
        refine ⟨⟨.inr ⟨_, y3, rfl⟩, hmok, by simp [opsT, manOf], fun i a b => ?_, ?_, ?_, .inl rfl, fun x hx => ?_⟩, fun f hf => ?_, fun q hq f hf => ?_, ?_, fun f hf => ?_⟩
        · have hi : i < ts1.length := by simpa [manOf] using a
          obtain ⟨f, f1, f2, -⟩ := hgetT ts1[i] (List.getElem_mem hi)
          obtain ⟨u, hu, e⟩ := mem_by_map W.es (List.getElem_mem hi)
          obtain ⟨z1, z2⟩ := hT.es u hu
          rw [e] at z1 z2
          refine ⟨f, by simpa [manOf] using f1, by simpa [opsT] using f2, by simpa [opsT] using z1, by simpa [opsT] using z2⟩
        · show (getF (lgN log) d2.files = none ∧ _ ∧ _) ∨ ∃ f, getF (lgN log) d2.files = some f ∧ _
          rw [hlogN]
          rcases hlog with e | ⟨e, -⟩
          · rw [if_pos e]; rw [e]; exact h.dur.says.log
          · rw [if_neg (by omega)]; exact .inl ⟨none_of hc (lgN_next e hll), rfl, rfl⟩
        · split
          · exact h.dur.says.bok
          · intro b hb; cases hb
        · have hmay : ∀ k, k = manN ∨ (∃ j, s.next ≤ j ∧ j < n1 ∧ k = tbN j) ∨ s.needs k = true → oursN k = true ∧ (numOf logP k).getD 0 ≤ log ∧ (numOf tabP k).getD 0 ≤ n1 + (manOf n1 log ts1).tabs.length := by
            have w1 := W.lo
            have w2 := W.hi
            have hman : oursN manN = true ∧ (numOf logP manN).getD 0 ≤ log ∧ (numOf tabP manN).getD 0 ≤ n1 + (manOf n1 log ts1).tabs.length := by
              have a1 : numOf logP manN = none := by decide
              have a2 : numOf tabP manN = none := by decide
              exact ⟨by simp [oursN], by rw [a1]; simp, by rw [a2]; simp⟩
            have htab : ∀ j, j < n1 → oursN (tbN j) = true ∧ (numOf logP (tbN j)).getD 0 ≤ log ∧ (numOf tabP (tbN j)).getD 0 ≤ n1 + (manOf n1 log ts1).tabs.length := fun j hj => by
              have a2 : numOf tabP (tbN j) = some j := numOf_fmt tabP (by omega)
              exact ⟨by simp [oursN, a2], by rw [numOf_logtab]; simp, by rw [a2]; simp; omega⟩
            rintro k (rfl | ⟨j, j1, j2, rfl⟩ | hk)
            · exact hman
            · exact htab j j2
            · unfold Ls.needs at hk
              simp only [Bool.or_eq_true, beq_iff_eq, List.any_eq_true] at hk
              rcases hk with (rfl | rfl) | ⟨t, ht, rfl⟩
              · exact hman
              · have a1 : numOf logP (lgN s.log) = some s.log := numOf_fmt logP (by omega)
                have a2 : numOf tabP (lgN s.log) = none := by
                  cases hg : numOf tabP (lgN s.log) with
                  | none => rfl
                  | some j => exact absurd (numOf_is hg).1 (log_tab _ j)
                exact ⟨by simp [oursN, a1], by rw [a1]; simp; omega, by rw [a2]; simp⟩
              · exact htab _ (by have := (hnum t ht).2; omega)
          refine hmay x.1 ?_
          rcases y6 x hx with e | ⟨y, hy9, e⟩
          · exact .inl e
          · by_cases hj : ∃ j, s.next ≤ j ∧ j < n1 ∧ x.1 = tbN j
            · exact .inr (.inl hj)
            · right; right
              have h7 := W.off x.1 (fun j j1 j2 e => hj ⟨j, j1, j2, e⟩)
              have h8 : (getF x.1 d1.files).isSome = true := getF_name (List.mem_map.2 ⟨y, hy9, e⟩)
              rw [h7] at h8
              cases hg : getF x.1 d.files with
              | none => rw [hg] at h8; cases h8
              | some g => exact hc (x.1, g) (getF_mem hg)
        · rw [y3] at hf; cases hf; rfl
        · obtain ⟨t, ht, rfl⟩ := List.mem_map.1 hq
          obtain ⟨g, g1, -, g3⟩ := hgetT t ht
          simp only at hf
          rw [g1] at hf
          cases hf
          exact g3
        · split
          · exact h.dur.le
          · simp
        · have hf' : getF (lgN log) d2.files = some f := hf
          rw [hlogN] at hf'
          rcases hlog with e | ⟨e, -⟩
          · rw [if_pos e, if_pos e]; rw [e] at hf'; exact h.dur.slog f hf'
          · rw [none_of hc (lgN_next e hll)] at hf'; cases hf'
      have hsame : manOf (s.turned ts1 n1 log).next (s.turned ts1 n1 log).log (s.turned ts1 n1 log).tabs = manOf n1 log ts1 := by
        unfold Ls.turned
        split
        · rename_i e; simp [e]
        · rfl
      have htabs : (s.turned ts1 n1 log).tabs = ts1 := by unfold Ls.turned; split <;> rfl
      have o9 := Off.sweepX (same_man (s.turned ts1 n1 log)) d2
      rw [hsame] at o9
      refine .inr ⟨trivial, ts1, n1, rfl, W.es, W.lv, W.lo, W.hi, ?_, fun ha => ?_, o9.rise y5⟩
      · rw [hsame, htabs]; exact hdur.off o9
      · exact (sweepX_clean y5 (fun x hx => (hdur.says.may x hx).1) ha).2
end Go.Proofs.YtoabedkcieindabGreatDoor

namespace Go.Proofs.YtoabedkcieindabGreatDoor
theorem write_not {d : Dk} {n : Nm} {t : List UInt8} (h : (d.write n t).1 ≠ 0) : (d.write n t).2 = d ∨ (d.write n t).2 = d.die := by
  unfold Dk.write at h ⊢
  split
  · exact .inl rfl
  · rename_i h1
    rw [if_neg h1] at h
    split
    · exact .inl rfl
    · rename_i h2
      rw [if_neg h2] at h
      split
      · exact .inl rfl
      · rename_i h3
        rw [if_neg h3] at h
        split
        · exact .inr rfl
        · rename_i h4
          rw [if_neg h4] at h
          exact absurd rfl h
theorem Lin.die {d : Dk} {s : Ls} {bs : List (List Ox)} {n : Nat} (h : Lin d s bs n) : Lin d.die s bs n :=
  ⟨h.dur.off (Off.die _ d), fun ha => (by cases ha), h.rise⟩
theorem Lin.relog {d d' : Dk} {s : Ls} {bs bs' : List (List Ox)} {n n' : Nat} (h : Lin d s bs n) (hr : rising d'.files) (hk : ∀ k, k ≠ lgN s.log → getF k d'.files = getF k d.files) (hdd : d'.dead = false → d.dead = false)
    (hs : ∀ x ∈ d'.files, x.1 = lgN s.log ∨ ∃ y ∈ d.files, y.1 = x.1) {f : Fl} (hf : getF (lgN s.log) d'.files = some f) (hb : f.bytes = logOf bs') (hbo : ∀ b ∈ bs', batchOk b = true) (hn : n' ≤ bs'.length)
    (hsafe : (logOf (bs'.take n')).length ≤ f.safe ∧ f.safe ≤ f.bytes.length) : Lin d' s bs' n' := by
  have hlg : s.log < 9223372036854775808 := by have := h.dur.says.ok.2.2.1; simp only [manOf] at this; omega
  have hmayL : mayM (manOf s.next s.log s.tabs) (lgN s.log) := by
    have a1 : numOf logP (lgN s.log) = some s.log := numOf_fmt logP hlg
    have a2 : numOf tabP (lgN s.log) = none := by
      cases hg : numOf tabP (lgN s.log) with
      | none => rfl
      | some j => exact absurd (numOf_is hg).1 (log_tab _ j)
    exact ⟨by simp [oursN, a1], by rw [a1]; simp [manOf], by rw [a2]; simp⟩
  refine ⟨⟨⟨?_, h.dur.says.ok, h.dur.says.len, fun i a b => ?_, .inr ⟨f, hf, by rw [hb]; simp⟩, hbo, .inl rfl, fun x hx => ?_⟩, fun g hg => ?_, fun q hq g hg => ?_, hn, fun g hg => ?_⟩, fun ha x hx => ?_, hr⟩
  · rw [hk manN (fun e => log_man _ e.symm)]; exact h.dur.says.man
  · obtain ⟨g, g1, g2⟩ := h.dur.says.tab i a b
    exact ⟨g, by rw [hk _ (fun e => log_tab _ _ e.symm)]; exact g1, g2⟩
  · rcases hs x hx with e | ⟨y, hy, e⟩
    · rw [e]; exact hmayL
    · rw [← e]; exact h.dur.says.may y hy
  · rw [hk manN (fun e => log_man _ e.symm)] at hg; exact h.dur.sman g hg
  · rw [hk _ (fun e => log_tab _ _ e.symm)] at hg; exact h.dur.stab q hq g hg
  · have hg' : getF (lgN s.log) d'.files = some g := hg
    rw [hf] at hg'
    cases hg'
    exact hsafe
  · rcases hs x hx with e | ⟨y, hy, e⟩
    · rw [e]; simp [Ls.needs]
    · rw [← e]; exact h.cln (hdd ha) y hy
theorem Lin.append {d : Dk} {s : Ls} {bs : List (List Ox)} {n : Nat} (h : Lin d s bs n) {b : List Ox} (hb : batchOk b = true) :
    ((d.write (lgN s.log) (encode b)).1 = 0 ∧ Lin (d.write (lgN s.log) (encode b)).2 s (bs ++ [b]) n) ∨ ((d.write (lgN s.log) (encode b)).1 ≠ 0 ∧ Lin (d.write (lgN s.log) (encode b)).2 s bs n) := by
  by_cases he : (d.write (lgN s.log) (encode b)).1 = 0
  · refine .inl ⟨he, ?_⟩
    obtain ⟨a, -, c⟩ := write_zero he
    have hbo : ∀ x ∈ bs ++ [b], batchOk x = true := fun x hx => by
      rcases List.mem_append.1 hx with hx | hx
      · exact h.dur.says.bok x hx
      · rw [List.mem_singleton.1 hx]; exact hb
    have hle := h.dur.le
    have htk : (bs ++ [b]).take n = bs.take n := List.take_append_of_le_length hle
    have hlen : n ≤ (bs ++ [b]).length := by simp; omega
    cases hg : getF (lgN s.log) d.files with
    | none =>
      have hfs : (d.write (lgN s.log) (encode b)).2.files = ins (lgN s.log, ⟨encode b, 0⟩) d.files := by rw [c, hg]; rfl
      obtain ⟨rfl⟩ : bs = [] := by
        rcases h.dur.says.log with ⟨-, e, -⟩ | ⟨g, e, -⟩
        · exact e
        · have e' : getF (lgN s.log) d.files = some g := e
          rw [hg] at e'; cases e'
      have hn0 : n = 0 := by simpa using hle
      refine h.relog (f := ⟨encode b, 0⟩) (by rw [hfs]; exact rising_ins h.rise hg) (fun k hk => by rw [hfs]; exact getF_insOff hk _ _) (fun _ => a) (fun x hx => ?_) (by rw [hfs]; exact getF_ins h.rise hg) (by simp [logOf]) hbo hlen ?_
      · rw [hfs] at hx
        rcases mem_ins.1 hx with rfl | hx
        · exact .inl rfl
        · exact .inr ⟨x, hx, rfl⟩
      · subst hn0; simp [logOf]
    | some f =>
      have hfs : (d.write (lgN s.log) (encode b)).2.files = upd (lgN s.log) (addB (encode b)) d.files := by rw [c, hg]; rfl
      have hfb : f.bytes = logOf bs := by
        rcases h.dur.says.log with ⟨e, -⟩ | ⟨g, e1, e2⟩
        · have e' : getF (lgN s.log) d.files = none := e
          rw [hg] at e'; cases e'
        · have e' : getF (lgN s.log) d.files = some g := e1
          rw [hg] at e'
          cases e'
          simpa using e2
      have hsl := h.dur.slog f hg
      refine h.relog (f := addB (encode b) f) (by rw [hfs]; exact rising_by (names_upd _ _ _) h.rise) (fun k hk => by rw [hfs]; exact getF_updOff hk _ _) (fun _ => a) (fun x hx => ?_) (by rw [hfs]; exact getF_updAt _ hg) (by simp only [addB]; rw [hfb, logOf_append, logOf_one]) hbo hlen ?_
      · rw [hfs] at hx
        have : x.1 ∈ d.files.map (·.1) := by rw [← names_upd (lgN s.log) (addB (encode b)) d.files]; exact List.mem_map.2 ⟨x, hx, rfl⟩
        obtain ⟨y, hy, e⟩ := List.mem_map.1 this
        exact .inr ⟨y, hy, e⟩
      · rw [htk]
        refine ⟨hsl.1, ?_⟩
        simp only [addB, List.length_append]
        omega
  · refine .inr ⟨he, ?_⟩
    rcases write_not he with e | e
    · rw [e]; exact h
    · rw [e]; exact h.die
end Go.Proofs.YtoabedkcieindabGreatDoor
