import Derived.Test.YtoabedkcieindaaGreatDoorPkBD
namespace Go.Proofs.YtoabedkcieindaaGreatDoor

structure Off (m : Man) (d d' : Dk) : Prop where
  need : ∀ n, needM m n → getF n d'.files = getF n d.files
  may : (∀ x ∈ d.files, mayM m x.1) → ∀ x ∈ d'.files, mayM m x.1
  rise : rising d.files → rising d'.files
  quota : d'.quota = d.quota
  turn : d'.turn = d.turn
  dead : d.dead = true → d'.dead = true

theorem Off.refl (m : Man) (d : Dk) : Off m d d := ⟨fun _ _ => rfl, id, id, rfl, rfl, id⟩
theorem Off.trans {m : Man} {a b c : Dk} (h : Off m a b) (g : Off m b c) : Off m a c :=
  ⟨fun n hn => (g.need n hn).trans (h.need n hn), fun x => g.may (h.may x), fun x => g.rise (h.rise x), g.quota.trans h.quota, g.turn.trans h.turn, fun x => g.dead (h.dead x)⟩
theorem Dur.off {d d' : Dk} {m : Man} {ts bs : List (List Ox)} {p : List UInt8} {n : Nat} (h : Dur d m ts bs p n) (o : Off m d d') : Dur d' m ts bs p n := h.keep o.need (o.may h.says.may)

theorem getF_updOff {n k : Nm} (h : k ≠ n) (f : Fl → Fl) : ∀ l : List (Nm × Fl), getF k (upd n f l) = getF k l
  | [] => rfl
  | x :: r => by
    have e : upd n f (x :: r) = (if x.1 = n then (x.1, f x.2) else x) :: upd n f r := rfl
    rw [e, getF, getF, getF_updOff h f r]
    by_cases hx : x.1 = n
    · rw [if_pos hx]
      have : ¬ x.1 = k := fun h9 => h (h9.symm.trans hx)
      simp only [if_neg this]
    · rw [if_neg hx]
theorem getF_updAt {n : Nm} (f : Fl → Fl) {x : Fl} : ∀ {l : List (Nm × Fl)}, getF n l = some x → getF n (upd n f l) = some (f x)
  | [], h => by cases h
  | y :: r, h => by
    have e : upd n f (y :: r) = (if y.1 = n then (y.1, f y.2) else y) :: upd n f r := rfl
    rw [e]
    rw [getF] at h
    by_cases hy : y.1 = n
    · rw [if_pos hy] at h
      cases h
      rw [if_pos hy, getF, if_pos hy]
    · rw [if_neg hy] at h
      rw [if_neg hy, getF, if_neg hy, getF_updAt f h]
theorem names_upd (n : Nm) (f : Fl → Fl) : ∀ l : List (Nm × Fl), (upd n f l).map (·.1) = l.map (·.1)
  | [] => rfl
  | x :: r => by
    have e : upd n f (x :: r) = (if x.1 = n then (x.1, f x.2) else x) :: upd n f r := rfl
    rw [e, List.map_cons, List.map_cons, names_upd n f r]
    split <;> rfl
theorem rising_by {l l' : List (Nm × Fl)} (h : l'.map (·.1) = l.map (·.1)) (hr : rising l) : rising l' := by
  have h1 : (l.map (·.1)).Pairwise fun x y => bytesBefore x y = true := List.pairwise_map.2 hr
  rw [← h] at h1
  exact List.pairwise_map.1 h1
theorem mem_names {l l' : List (Nm × Fl)} (h : l'.map (·.1) = l.map (·.1)) {P : Nm → Prop} (hp : ∀ x ∈ l, P x.1) : ∀ x ∈ l', P x.1 := fun x hx => by
  have : x.1 ∈ l.map (·.1) := by rw [← h]; exact List.mem_map.2 ⟨x, hx, rfl⟩
  obtain ⟨y, hy, e⟩ := List.mem_map.1 this
  rw [← e]
  exact hp y hy
theorem isSome_none {α : Type} {o : Option α} (h : ¬ o.isSome = true) : o = none := by cases o with | none => rfl | some x => exact absurd rfl h

theorem Off.write {m : Man} (d : Dk) {n : Nm} (hn : ¬ needM m n) (hm : mayM m n) (t : List UInt8) : Off m d (d.write n t).2 := by
  unfold Dk.write
  split
  · exact Off.refl m d
  · rename_i hd
    split
    · exact Off.refl m d
    · split
      · exact Off.refl m d
      · split
        · exact ⟨fun _ _ => rfl, id, id, rfl, rfl, fun _ => rfl⟩
        · refine ⟨fun k hk => ?_, fun h => ?_, fun h => ?_, rfl, rfl, fun h => absurd h hd⟩
          · have hkn : k ≠ n := fun e => hn (e ▸ hk)
            simp only
            split
            · exact getF_updOff hkn _ _
            · exact getF_insOff hkn _ _
          · simp only
            split
            · exact mem_names (names_upd _ _ _) h
            · intro x hx
              rcases mem_ins.1 hx with rfl | hx
              · exact hm
              · exact h x hx
          · simp only
            split
            · exact rising_by (names_upd _ _ _) h
            · rename_i hg
              exact rising_ins h (isSome_none hg)

theorem Off.sync {m : Man} (d : Dk) {n : Nm} (hn : ¬ needM m n) : Off m d (d.sync n).2 := by
  unfold Dk.sync
  split
  · exact Off.refl m d
  · rename_i hd
    split
    · exact Off.refl m d
    · split
      · exact ⟨fun _ _ => rfl, id, id, rfl, rfl, fun _ => rfl⟩
      · exact ⟨fun k hk => getF_updOff (fun e : k = n => hn (e ▸ hk)) _ _, fun h => mem_names (names_upd _ _ _) h, fun h => rising_by (names_upd _ _ _) h, rfl, rfl, fun h => absurd h hd⟩

theorem Off.remove {m : Man} (d : Dk) {n : Nm} (hn : ¬ needM m n) : Off m d (d.remove n).2 := by
  unfold Dk.remove
  split
  · exact Off.refl m d
  · rename_i hd
    split
    · exact Off.refl m d
    · split
      · exact ⟨fun _ _ => rfl, id, id, rfl, rfl, fun _ => rfl⟩
      · exact ⟨fun k hk => getF_del_ne (fun e : k = n => hn (e ▸ hk)) _, fun h x hx => h x (List.mem_filter.1 hx).1, fun h => rising_del h, rfl, rfl, fun h => absurd h hd⟩

theorem Off.lwrite {m : Man} (d : Dk) {n : Nm} (hn : ¬ needM m n) (hm : mayM m n) (t : List UInt8) : Off m d (lwrite d n t).2 := by
  unfold Go.Proofs.YtoabedkcieindaaGreatDoor.lwrite
  simp only
  split
  · exact Off.write d hn hm t
  · exact (Off.write d hn hm t).trans (Off.sync _ hn)

def Same (s : Ls) (m : Man) : Prop := s.log = m.log ∧ s.tabs.map (·.number) = m.tabs.map (·.number)

theorem Same.needs {s : Ls} {m : Man} (h : Same s m) {n : Nm} (hn : s.needs n = false) : ¬ needM m n := by
  unfold Ls.needs at hn
  simp only [Bool.or_eq_false_iff, List.any_eq_false, beq_eq_false_iff_ne] at hn
  obtain ⟨⟨h1, h2⟩, h3⟩ := hn
  rintro (rfl | rfl | ⟨q, hq, rfl⟩)
  · exact h1 rfl
  · exact h2 (by rw [h.1])
  · have : q.number ∈ s.tabs.map (·.number) := by rw [h.2]; exact List.mem_map.2 ⟨q, hq, rfl⟩
    obtain ⟨t, ht, e⟩ := List.mem_map.1 this
    have := h3 t ht
    rw [e] at this
    simp at this

theorem Off.sweepF {s : Ls} {m : Man} (h : Same s m) : ∀ (ns : List Nm) (d : Dk), Off m d (sweepF s ns d).2
  | [], d => Off.refl m d
  | n :: r, d => by
    rw [Go.Proofs.YtoabedkcieindaaGreatDoor.sweepF]
    split
    · exact Off.sweepF h r d
    · rename_i hn
      have hn' : s.needs n = false := by
        simp only [Bool.or_eq_true, not_or, Bool.not_eq_true] at hn
        exact hn.2
      have o := Off.remove (m := m) d (h.needs hn')
      simp only
      split
      · exact o
      · exact o.trans (Off.sweepF h r _)
theorem Off.sweepX {s : Ls} {m : Man} (h : Same s m) (d : Dk) : Off m d (sweepX s d).2 := by
  unfold Go.Proofs.YtoabedkcieindaaGreatDoor.sweepX
  split
  · exact Off.refl m d
  · exact Off.sweepF h _ d

theorem tbN_free {m : Man} (h : manOk m) {k : Nat} (h1 : m.next ≤ k) (h2 : k < 9223372036854775808) : ¬ needM m (tbN k) := by
  rintro (e | e | ⟨q, hq, e⟩)
  · exact tab_man _ e
  · exact log_tab _ _ e.symm
  · have hb := plsOk_at h.2.2.2.1 q hq
    have := tbN_inj h2 (by have := h.2.1; omega) e
    omega
theorem numOf_logtab (k : Nat) : numOf logP (tbN k) = none := by
  cases hg : numOf logP (tbN k) with
  | none => rfl
  | some j => exact absurd (numOf_is hg).1.symm (log_tab j k)
theorem tbN_may {m : Man} {k : Nat} (h1 : k ≤ m.next + m.tabs.length) (h2 : k < 9223372036854775808) : mayM m (tbN k) := by
  have hk : numOf tabP (tbN k) = some k := numOf_fmt tabP h2
  refine ⟨by simp [oursN, hk], ?_, ?_⟩
  · rw [numOf_logtab]; simp
  · rw [hk]; simpa using h1
theorem begN_free (m : Man) : ¬ needM m begN := by
  rintro (e | e | ⟨q, hq, e⟩)
  · exact man_beg e.symm
  · exact log_beg _ e.symm
  · exact tab_beg _ e.symm
theorem begN_may (m : Man) : mayM m begN := by
  refine ⟨by simp [oursN], ?_, ?_⟩
  · have : numOf logP begN = none := by decide
    rw [this]; simp
  · have : numOf tabP begN = none := by decide
    rw [this]; simp

end Go.Proofs.YtoabedkcieindaaGreatDoor

namespace Go.Proofs.YtoabedkcieindaaGreatDoor

def tabF (t : Tb) : List UInt8 := encLay (t.es.map (·.op))
def wholeF (b : List UInt8) : Fl := ⟨b, b.length⟩

theorem write_zero {d : Dk} {n : Nm} {t : List UInt8} (h : (d.write n t).1 = 0) : d.dead = false ∧ nameOk n = true ∧ (d.write n t).2 = { d.burn with files := if (getF n d.files).isSome then upd n (addB t) d.files else ins (n, ⟨t, 0⟩) d.files } := by
  unfold Dk.write at h ⊢
  split at h
  · cases h
  · rename_i h1
    rw [if_neg h1]
    split at h
    · cases h
    · rename_i h2
      rw [if_neg h2]
      split at h
      · cases h
      · rename_i h3
        rw [if_neg h3]
        split at h
        · cases h
        · rename_i h4
          rw [if_neg h4]
          exact ⟨by simpa using h1, by simpa using h2, rfl⟩
theorem sync_zero {d : Dk} {n : Nm} (h : (d.sync n).1 = 0) : d.dead = false ∧ (d.sync n).2 = { d.burn with files := upd n allSafe d.files } := by
  unfold Dk.sync at h ⊢
  split at h
  · cases h
  · rename_i h1
    rw [if_neg h1]
    split at h
    · cases h
    · rename_i h2
      rw [if_neg h2]
      split at h
      · cases h
      · rename_i h3
        rw [if_neg h3]
        exact ⟨by simpa using h1, rfl⟩

theorem lwrite_zero {d : Dk} {n : Nm} {t : List UInt8} (h : (lwrite d n t).1 = 0) (hr : rising d.files) (hn : getF n d.files = none) :
    d.dead = false ∧ (lwrite d n t).2.dead = false ∧ getF n (lwrite d n t).2.files = some (wholeF t) ∧ (∀ k, k ≠ n → getF k (lwrite d n t).2.files = getF k d.files) ∧ rising (lwrite d n t).2.files := by
  unfold lwrite at h ⊢
  simp only at h ⊢
  split at h
  · rename_i h1; exact absurd h h1
  · rename_i h1
    have h1' : (d.write n t).1 = 0 := Classical.not_not.1 h1
    rw [if_neg h1]
    obtain ⟨a, -, b⟩ := write_zero h1'
    have hf : (d.write n t).2.files = ins (n, ⟨t, 0⟩) d.files := by rw [b, hn]; rfl
    have hd : (d.write n t).2.dead = false := by rw [b]; exact a
    obtain ⟨-, e⟩ := sync_zero h
    have hf2 : ((d.write n t).2.sync n).2.files = upd n allSafe (ins (n, ⟨t, 0⟩) d.files) := by rw [e]; show upd n allSafe (d.write n t).2.files = _; rw [hf]
    have hr1 : rising (ins (n, (⟨t, 0⟩ : Fl)) d.files) := rising_ins hr hn
    refine ⟨a, by rw [e]; exact hd, ?_, fun k hk => ?_, ?_⟩
    · rw [hf2, getF_updAt allSafe (getF_ins hr hn)]; rfl
    · rw [hf2, getF_updOff hk, getF_insOff hk]
    · rw [hf2]; exact rising_by (names_upd _ _ _) hr1

structure Wrt (next : Nat) (ts : List Tb) (d d1 : Dk) (n1 : Nat) (ts1 : List Tb) : Prop where
  lv : ts1.map (·.level) = ts.map (·.level)
  es : ts1.map (·.es) = ts.map (·.es)
  lo : next ≤ n1
  hi : n1 ≤ next + ts.length
  rise : rising d1.files
  off : ∀ k, (∀ j, next ≤ j → j < n1 → k ≠ tbN j) → getF k d1.files = getF k d.files
  num : ∀ t ∈ ts1, 1 ≤ t.number ∧ t.number < n1 ∧ (t ∈ ts ∨ (next ≤ t.number ∧ getF (tbN t.number) d1.files = some (wholeF (tabF t))))
  dif : (ts1.map (·.number)).Nodup
  dead : d1.dead = true → d.dead = true

theorem writtenF_ok : ∀ (ts : List Tb) (next : Nat) (d : Dk), 1 ≤ next → rising d.files → (∀ j, next ≤ j → j < 9223372036854775808 → getF (tbN j) d.files = none) → next + ts.length < 9223372036854775808 →
    (∀ t ∈ ts, t.number < next) → ((ts.filter fun t => decide (0 < t.number)).map (·.number)).Nodup → (writtenF next ts d).1 = 0 → Wrt next ts d (writtenF next ts d).2.1 (writtenF next ts d).2.2.1 (writtenF next ts d).2.2.2
  | [], next, d, _, hr, _, _, _, _, _ => ⟨rfl, rfl, Nat.le_refl _, by simp [writtenF], hr, fun _ _ => rfl, fun _ h => (by cases h), List.nodup_nil, id⟩
  | t :: r, next, d, h1, hr, hf, hl, hlt, hnd, he => by
    have hlr : next + r.length + 1 < 9223372036854775808 := by simp only [List.length_cons] at hl; omega
    rw [writtenF] at he ⊢
    by_cases ht : 0 < t.number
    · rw [if_pos ht] at he ⊢
      simp only at he ⊢
      have hnd' : t.number ∉ ((r.filter fun t => decide (0 < t.number)).map (·.number)) ∧ ((r.filter fun t => decide (0 < t.number)).map (·.number)).Nodup := by
        rw [List.filter_cons_of_pos (by simpa using ht), List.map_cons, List.nodup_cons] at hnd
        exact hnd
      have ih := writtenF_ok r next d h1 hr hf (by omega) (fun x hx => hlt x (by simp [hx])) hnd'.2 he
      have htn := hlt t (by simp)
      refine ⟨by rw [List.map_cons, List.map_cons, ih.lv], by rw [List.map_cons, List.map_cons, ih.es], ih.lo, by have := ih.hi; simp only [List.length_cons]; omega, ih.rise, ih.off, fun x hx => ?_, ?_, ih.dead⟩
      · rcases List.mem_cons.1 hx with rfl | hx
        · exact ⟨ht, by have := ih.lo; omega, .inl (by simp)⟩
        · obtain ⟨a, b, c⟩ := ih.num x hx
          exact ⟨a, b, c.imp (fun h => by simp [h]) id⟩
      · rw [List.map_cons, List.nodup_cons]
        refine ⟨fun hm => ?_, ih.dif⟩
        obtain ⟨x, hx, e⟩ := List.mem_map.1 hm
        obtain ⟨a, b, c | ⟨c, -⟩⟩ := ih.num x hx
        · exact hnd'.1 (List.mem_map.2 ⟨x, List.mem_filter.2 ⟨c, by simpa using (show 0 < x.number by omega)⟩, e⟩)
        · omega
    · rw [if_neg ht] at he ⊢
      simp only at he ⊢
      have hnd' : ((r.filter fun t => decide (0 < t.number)).map (·.number)).Nodup := by
        rw [List.filter_cons_of_neg (by simpa using ht)] at hnd
        exact hnd
      split at he
      · rename_i h9; exact absurd he h9
      · rename_i h9
        have h9' : (lwrite d (tbN next) (tabF t)).1 = 0 := Classical.not_not.1 h9
        obtain ⟨a1, a2, a3, a4, a5⟩ := lwrite_zero h9' hr (hf next (Nat.le_refl _) (by omega))
        have hne : ∀ j, next + 1 ≤ j → j < 9223372036854775808 → tbN j ≠ tbN next := fun j j1 j2 e => by
          have := tbN_inj j2 (by omega) e
          omega
        have ih := writtenF_ok r (next + 1) (lwrite d (tbN next) (tabF t)).2 (by omega) a5 (fun j j1 j2 => by rw [a4 _ (hne j j1 j2)]; exact hf j (by omega) j2) (by omega) (fun x hx => by have := hlt x (by simp [hx]); omega) hnd' he
        rw [if_neg (show ¬ (lwrite d (tbN next) (encLay (t.es.map (·.op)))).1 ≠ 0 from h9)]
        have hself : getF (tbN next) (writtenF (next + 1) r (lwrite d (tbN next) (tabF t)).2).2.1.files = some (wholeF (tabF t)) := by
          rw [ih.off _ (fun j j1 j2 e => by have := ih.hi; exact hne j j1 (by omega) e.symm), a3]
        refine ⟨by rw [List.map_cons, List.map_cons]; exact congrArg _ ih.lv, by rw [List.map_cons, List.map_cons]; exact congrArg _ ih.es, by have := ih.lo; show next ≤ _; exact Nat.le_trans (Nat.le_succ _) this, by have := ih.hi; simp only [List.length_cons]; show _ ≤ next + (r.length + 1); exact Nat.le_trans this (by omega), ih.rise, fun k hk => ?_, fun x hx => ?_, ?_, fun h => ?_⟩
        · have hk1 : k ≠ tbN next := hk next (Nat.le_refl _) (by have := ih.lo; show next < _; exact Nat.lt_of_lt_of_le (Nat.lt_succ_self _) this)
          have h7 := ih.off k (fun j j1 j2 => hk j (by omega) j2)
          exact h7.trans (a4 k hk1)
        · rcases List.mem_cons.1 hx with rfl | hx
          · exact ⟨h1, by have := ih.lo; exact Nat.lt_of_lt_of_le (Nat.lt_succ_self _) this, .inr ⟨Nat.le_refl _, hself⟩⟩
          · obtain ⟨a, b, c⟩ := ih.num x hx
            refine ⟨a, b, ?_⟩
            rcases c with c | ⟨c1, c2⟩
            · exact .inl (by simp [c])
            · exact .inr ⟨by omega, c2⟩
        · rw [List.map_cons, List.nodup_cons]
          refine ⟨fun hm => ?_, ih.dif⟩
          obtain ⟨x, hx, e⟩ := List.mem_map.1 hm
          simp only at e
          obtain ⟨a, b, c | ⟨c, -⟩⟩ := ih.num x hx
          · have := hlt x (by simp [c]); omega
          · omega
        · have := ih.dead h
          rw [a2] at this
          cases this

theorem Off.written {m : Man} (hm : manOk m) : ∀ (ts : List Tb) (next : Nat) (d : Dk), m.next ≤ next → next + (ts.filter fun t => !decide (0 < t.number)).length ≤ m.next + m.tabs.length + 1 → m.next + m.tabs.length < 9223372036854775807 → Off m d (writtenF next ts d).2.1
  | [], _, d, _, _, _ => Off.refl m d
  | t :: r, next, d, h1, h2, h3 => by
    rw [writtenF]
    by_cases ht : 0 < t.number
    · rw [if_pos ht]
      rw [List.filter_cons_of_neg (by simp; omega)] at h2
      exact Off.written hm r next d h1 h2 h3
    · rw [if_neg ht]
      rw [List.filter_cons_of_pos (by simp; omega), List.length_cons] at h2
      have o := Off.lwrite (m := m) d (tbN_free hm h1 (by omega)) (tbN_may (by omega) (by omega)) (tabF t)
      simp only
      split
      · exact o
      · exact o.trans (Off.written hm r (next + 1) _ (by omega) (by omega) h3)

end Go.Proofs.YtoabedkcieindaaGreatDoor

namespace Go.Proofs.YtoabedkcieindaaGreatDoor

theorem rename_zero {d : Dk} {n k : Nm} (h : (d.rename n k).1 = 0) : ∃ f, getF n d.files = some f ∧ d.dead = false ∧ (d.rename n k).2 = { d.burn with files := moved n k f d.files } := by
  unfold Dk.rename at h ⊢
  split at h
  · cases h
  · rename_i h1
    rw [if_neg h1]
    split at h
    · cases h
    · rename_i h2
      rw [if_neg h2]
      cases hg : getF n d.files with
      | none => rw [hg] at h; cases h
      | some f =>
        rw [hg] at h
        simp only at h ⊢
        split at h
        · cases h
        · rename_i h3
          rw [if_neg h3]
          exact ⟨f, rfl, by simpa using h1, rfl⟩
theorem rename_not {d : Dk} {n k : Nm} (h : (d.rename n k).1 ≠ 0) : (d.rename n k).2 = d ∨ (d.rename n k).2 = d.die := by
  unfold Dk.rename at h ⊢
  split
  · exact .inl rfl
  · rename_i h1
    rw [if_neg h1] at h
    split
    · exact .inl rfl
    · rename_i h2
      rw [if_neg h2] at h
      cases hg : getF n d.files with
      | none => exact .inl rfl
      | some f =>
        rw [hg] at h
        simp only at h ⊢
        split
        · exact .inr rfl
        · rename_i h3
          rw [if_neg h3] at h
          exact absurd rfl h

theorem Off.die (m : Man) (d : Dk) : Off m d d.die := ⟨fun _ _ => rfl, id, id, rfl, rfl, fun _ => rfl⟩

theorem lreplace_zero {d : Dk} {n : Nm} {t : List UInt8} (h : (lreplace d n t).1 = 0) (hr : rising d.files) (hb : getF begN d.files = none) (hn : n ≠ begN) :
    d.dead = false ∧ (lreplace d n t).2.dead = false ∧ getF n (lreplace d n t).2.files = some (wholeF t) ∧ (∀ k, k ≠ n → getF k (lreplace d n t).2.files = getF k d.files) ∧ rising (lreplace d n t).2.files ∧
    ∀ x ∈ (lreplace d n t).2.files, x.1 = n ∨ ∃ y ∈ d.files, y.1 = x.1 := by
  unfold lreplace at h ⊢
  simp only at h ⊢
  split at h
  · rename_i h1; exact absurd h h1
  · rename_i h1
    have h1' : (lwrite d begN t).1 = 0 := Classical.not_not.1 h1
    rw [if_neg h1]
    obtain ⟨a1, a2, a3, a4, a5⟩ := lwrite_zero h1' hr hb
    obtain ⟨f, b1, b2, b3⟩ := rename_zero h
    rw [a3] at b1
    cases b1
    have hf : ((lwrite d begN t).2.rename begN n).2.files = ins (n, wholeF t) (del n (del begN (lwrite d begN t).2.files)) := by
      rw [b3]
      simp only [moved]
      rw [if_neg (fun e => hn e.symm)]
    have hr1 : rising (del n (del begN (lwrite d begN t).2.files)) := rising_del (rising_del a5)
    refine ⟨a1, by rw [b3]; exact b2, ?_, fun k hk => ?_, ?_, fun x hx => ?_⟩
    · rw [hf]; exact getF_ins hr1 (getF_del _ _)
    · rw [hf, getF_insOff hk, getF_del_ne hk]
      by_cases hkb : k = begN
      · subst hkb; rw [getF_del, hb]
      · rw [getF_del_ne hkb, a4 k hkb]
    · rw [hf]; exact rising_ins hr1 (getF_del _ _)
    · rw [hf] at hx
      rcases mem_ins.1 hx with rfl | hx
      · exact .inl rfl
      · have h2 := (List.mem_filter.1 hx).1
        have h3 := List.mem_filter.1 h2
        have h4 : x.1 ≠ begN := by have := h3.2; simpa using this
        have h5 : (getF x.1 (lwrite d begN t).2.files).isSome = true := getF_name (List.mem_map.2 ⟨x, h3.1, rfl⟩)
        rw [a4 _ h4] at h5
        cases hg : getF x.1 d.files with
        | none => rw [hg] at h5; cases h5
        | some g => exact .inr ⟨_, getF_mem hg, rfl⟩
theorem lreplace_not {m : Man} {d : Dk} {n : Nm} {t : List UInt8} (h : (lreplace d n t).1 ≠ 0) : Off m d (lreplace d n t).2 := by
  have o := Off.lwrite (m := m) d (begN_free m) (begN_may m) t
  unfold lreplace at h ⊢
  simp only at h ⊢
  split
  · exact o
  · rename_i h1
    rw [if_neg h1] at h
    rcases rename_not h with e | e
    · rw [e]; exact o
    · rw [e]; exact o.trans (Off.die m _)

theorem remove_is {d : Dk} {n : Nm} (hd : d.dead = false) (hs : (getF n d.files).isSome = true) : ((d.remove n).1 = 0 ∧ (d.remove n).2 = { d.burn with files := del n d.files }) ∨ ((d.remove n).1 = 4 ∧ (d.remove n).2 = d.die) := by
  have hno : ¬ (getF n d.files).isNone = true := by cases hg : getF n d.files with | none => rw [hg] at hs; cases hs | some f => simp
  unfold Dk.remove
  rw [if_neg (by rw [hd]; simp), if_neg hno]
  split
  · exact .inr ⟨rfl, rfl⟩
  · exact .inl ⟨rfl, rfl⟩

theorem sweepF_clean (s : Ls) : ∀ (ns : List Nm) (d : Dk), d.dead = false → ns.Nodup → (∀ n ∈ ns, (getF n d.files).isSome = true) → (∀ x ∈ d.files, oursN x.1 = true) → (∀ x ∈ d.files, x.1 ∈ ns ∨ s.needs x.1 = true) →
    (sweepF s ns d).2.dead = false → (sweepF s ns d).1 = 0 ∧ ∀ x ∈ (sweepF s ns d).2.files, s.needs x.1 = true
  | [], d, _, _, _, _, hn, _ => ⟨rfl, fun x hx => (hn x hx).elim (fun h => by cases h) id⟩
  | n :: r, d, hd, hnd, hs, ho, hn, ha => by
    obtain ⟨h1, h2⟩ := List.nodup_cons.1 hnd
    rw [sweepF] at ha ⊢
    have hon : oursN n = true := by
      cases hg : getF n d.files with
      | none => have := hs n (by simp); rw [hg] at this; cases this
      | some f => exact ho _ (getF_mem hg)
    by_cases hk : s.needs n = true
    · rw [if_pos (by rw [hk]; simp)] at ha ⊢
      refine sweepF_clean s r d hd h2 (fun k hk => hs k (by simp [hk])) ho (fun x hx => ?_) ha
      rcases hn x hx with h | h
      · rcases List.mem_cons.1 h with h | h
        · right; rw [h]; exact hk
        · exact .inl h
      · exact .inr h
    · have hc : ¬ (!oursN n || s.needs n) = true := by rw [hon]; simpa using hk
      rw [if_neg hc] at ha ⊢
      simp only at ha ⊢
      rcases remove_is hd (hs n (by simp)) with ⟨e1, e2⟩ | ⟨e1, e2⟩
      · rw [if_neg (by rw [e1]; simp)] at ha ⊢
        have hf : (d.remove n).2.files = del n d.files := by rw [e2]
        refine sweepF_clean s r _ (by rw [e2]; exact hd) h2 (fun k hk => ?_) (fun x hx => ?_) (fun x hx => ?_) ha
        · rw [hf, getF_del_ne (fun e : k = n => h1 (e ▸ hk))]; exact hs k (by simp [hk])
        · rw [hf] at hx; exact ho x (List.mem_filter.1 hx).1
        · rw [hf] at hx
          obtain ⟨hx1, hx2⟩ := List.mem_filter.1 hx
          rcases hn x hx1 with h | h
          · rcases List.mem_cons.1 h with h | h
            · rw [h] at hx2; simp at hx2
            · exact .inl h
          · exact .inr h
      · rw [if_pos (by rw [e1]; decide)] at ha
        rw [e2] at ha
        cases ha
theorem sweepX_clean {s : Ls} {d : Dk} (hr : rising d.files) (ho : ∀ x ∈ d.files, oursN x.1 = true) (ha : (sweepX s d).2.dead = false) : (sweepX s d).1 = 0 ∧ ∀ x ∈ (sweepX s d).2.files, s.needs x.1 = true := by
  unfold sweepX at ha ⊢
  split
  · rename_i h; rw [if_pos h] at ha; simp only at ha; rw [h] at ha; cases ha
  · rename_i h
    rw [if_neg h] at ha
    exact sweepF_clean s _ d (by simpa using h) (rising_nodup hr) (fun n hn => getF_name hn) ho (fun x hx => .inl (List.mem_map.2 ⟨x, hx, rfl⟩)) ha

end Go.Proofs.YtoabedkcieindaaGreatDoor
