import Derived.Test.YtoabedkcieindaaGreatDoorPkBG
import Derived.Test.YtoabedkcieindaaGreatDoorPkBC
import Derived.Test.YtoabedkcieindaaGreatDoorPkAL
namespace Go.Proofs.YtoabedkcieindaaGreatDoor

def mz (m : Mm) : Nat := if m.isEmpty then 0 else 1

structure Lst (d : Dk) (s : Ls) (M : Mp) (n : Nat) : Prop where
  lin : ∃ bs m, Lin d s bs m ∧ s.len = (logOf bs).length ∧ bs.flatten.length ≤ n
  ok : d.Ok
  stl : Stl d
  qu : d.quota = 1048576
  turn : s.turn = d.turn
  pol : 0 ≤ s.policy ∧ s.policy ≤ 2
  sn : s.snaps = []
  stk : s.stuck = false
  mok : MmOk s.mem
  mop : ∀ e ∈ flatM s.mem, opOk e.op = true ∧ e.batch ≤ s.batch
  bat : 0 ≤ s.batch ∧ s.batch ≤ n
  rise : rising M
  view : ∀ k, viewE s.batch s.layers.flatten k = getF k M
  srt : ∀ x ∈ s.tabs, srt x.es
  tok : ∀ x ∈ s.tabs, ∀ e ∈ x.es, opOk e.op = true ∧ e.batch ≤ s.batch
  ne : ∀ x ∈ s.tabs, x.es ≠ []
  lv : nonR (s.tabs.map (·.level))
  shp : (crowd s.policy (s.tabs.map (·.level))).2 = 0
  ents : entsT s.tabs + (flatM s.mem).length ≤ n
  lev : ∀ x ∈ s.tabs, x.level + s.tabs.length + mz s.mem ≤ n
  few : s.tabs.length + mz s.mem ≤ n
  log : s.log + mz s.mem ≤ n
  next : s.next ≤ 1 + s.log * 111

theorem Lst.num {d : Dk} {s : Ls} {M : Mp} {n : Nat} (h : Lst d s M n) : 1 ≤ s.next ∧ (∀ x ∈ s.tabs, 1 ≤ x.number ∧ x.number < s.next) ∧ (s.tabs.map (·.number)).Nodup := by
  obtain ⟨bs, m, hl, _⟩ := h.lin
  obtain ⟨h1, h2, h3, h4, h5⟩ := hl.dur.says.ok
  simp only [manOf] at h1 h4 h5
  refine ⟨h1, ?_, by simpa [Function.comp_def] using h5⟩
  have : ∀ (l : List Pl) (lv : Nat), plsOk s.next lv l = true → ∀ p ∈ l, 1 ≤ p.number ∧ p.number < s.next := by
    intro l
    induction l with
    | nil => intro _ _ p hp; cases hp
    | cons q r ih =>
      intro lv hq p hp
      simp only [plsOk, Bool.and_eq_true, decide_eq_true_eq] at hq
      rcases List.mem_cons.1 hp with rfl | hp
      · exact ⟨hq.1.1.1, hq.1.1.2⟩
      · exact ih _ hq.2 p hp
  exact fun x hx => this _ _ h4 ⟨x.number, x.level⟩ (List.mem_map.2 ⟨x, hx, rfl⟩)

theorem layOk_of : ∀ {l : Ly} {last : Nm}, srt l → (∀ e ∈ l, opOk e.op = true ∧ bytesBefore e.op.key last = false) → layOk last (l.map (·.op))
  | [], _, _, _ => trivial
  | e :: r, last, hs, h => by
    obtain ⟨h1, h2⟩ := h e (by simp)
    have hs' := List.pairwise_cons.1 hs
    exact ⟨h1, h2, layOk_of hs'.2 (fun x hx => ⟨(h x (by simp [hx])).1, hs'.1 x hx⟩)⟩
theorem before_nil (k : Nm) : bytesBefore k [] = false := by cases k <;> rfl

def esF (s : Ls) : Ly := needL s.kept s.tabs.isEmpty (mergeL [flatM s.mem])
def tabF0 (s : Ls) : List Tb := if (esF s).isEmpty then s.tabs else s.tabs ++ [⟨0, 0, esF s⟩]

theorem tabF0_is (s : Ls) : tabF0 s = s.tabs ++ (if (esF s).isEmpty then [] else [⟨0, 0, esF s⟩]) := by unfold tabF0; split <;> simp

theorem Lst.kept {d : Dk} {s : Ls} {M : Mp} {n : Nat} (h : Lst d s M n) : s.kept = [] := by unfold Ls.kept; rw [h.sn]; rfl

theorem Lst.stp {d : Dk} {s : Ls} {M : Mp} {n : Nat} (h : Lst d s M n) (hm : s.mem ≠ []) :
    Stp s.tabs s.batch (s.tabs.length + 1) n n (tabF0 s) ∧ ∀ k, viewE s.batch (newF (tabF0 s)).flatten k = getF k M := by
  have hmz : mz s.mem = 1 := by unfold mz; cases hh : s.mem with | nil => exact absurd hh hm | cons a r => rfl
  have hsl : ∀ l ∈ [flatM s.mem], Go.Proofs.YtoabedkcieindaaGreatDoor.srt l := by intro l hl; rw [List.mem_singleton] at hl; subst hl; exact srt_flat h.mok
  have hms := mergeL_srt hsl
  have hes : Go.Proofs.YtoabedkcieindaaGreatDoor.srt (esF s) := (needF_is _ _ _ _ (Nat.le_refl _) hms).1
  have hem : ∀ e ∈ esF s, e ∈ flatM s.mem := fun e he => by
    have := mergeL_mem hsl e ((needF_is _ _ _ _ (Nat.le_refl _) hms).2.2 e he)
    simpa using this
  have hel : (esF s).length ≤ (flatM s.mem).length := by
    refine Nat.le_trans (needL_len _ _ _) (Nat.le_trans (mergeF_len _ _) ?_)
    simp
  have hf1 := h.few
  have hf2 := h.ents
  have each : ∀ x ∈ tabF0 s, x ∈ s.tabs ∨ (x = ⟨0, 0, esF s⟩ ∧ esF s ≠ []) := fun x hx => by
    rw [tabF0_is] at hx
    rcases List.mem_append.1 hx with hx | hx
    · exact .inl hx
    · split at hx
      · cases hx
      · rename_i hn
        rw [List.mem_singleton] at hx
        exact .inr ⟨hx, fun e => hn (by simp [e])⟩
  have hlen : (tabF0 s).length ≤ s.tabs.length + 1 := by rw [tabF0_is]; split <;> simp
  refine ⟨⟨fun x hx => ?_, fun x hx => ?_, fun x hx => ?_, ?_, ?_, hlen, fun x hx => ?_, ?_⟩, fun k => ?_⟩
  · rcases each x hx with hx | ⟨rfl, _⟩
    · exact h.srt x hx
    · exact hes
  · rcases each x hx with hx | ⟨rfl, _⟩
    · exact h.tok x hx
    · exact fun e he => h.mop e (hem e he)
  · rcases each x hx with hx | ⟨rfl, hn⟩
    · exact h.ne x hx
    · exact hn
  · rw [tabF0_is, List.map_append]
    unfold nonR
    rw [List.pairwise_append]
    refine ⟨h.lv, by split <;> simp, fun a _ b hb => ?_⟩
    split at hb
    · cases hb
    · simp at hb; omega
  · rw [tabF0_is, List.filter_append]
    have : (if (esF s).isEmpty then [] else [(⟨0, 0, esF s⟩ : Tb)]).filter (fun t => decide (0 < t.number)) = [] := by split <;> simp
    rw [this, List.append_nil]
    exact List.filter_sublist
  · rcases each x hx with hx | ⟨rfl, _⟩
    · have := h.lev x hx; omega
    · simp only; omega
  · rw [tabF0_is, entsT_app]
    have : entsT (if (esF s).isEmpty then [] else [⟨0, 0, esF s⟩]) ≤ (esF s).length := by split <;> simp [entsT]
    omega
  · rw [← h.view k]
    have e1 : (newF (tabF0 s)).flatten = esF s ++ (newF s.tabs).flatten := by
      rw [tabF0_is, newF_app, List.flatten_append, newF_opt ⟨0, 0, esF s⟩]
    have e2 : s.layers.flatten = flatM s.mem ++ (newF s.tabs).flatten := by simp [Ls.layers]
    rw [e1, e2]
    unfold esF
    rw [view_need hms (.inr fun e he => (h.mop e (by simpa using mergeL_mem hsl e he)).2) (fun hl => ?_) k, view_merge hsl]
    · simp
    · have : s.tabs = [] := by simpa using hl
      rw [this]; rfl

theorem Lst.our {d : Dk} {s : Ls} {M : Mp} {n : Nat} (h : Lst d s M n) : ∀ x ∈ d.files, Our x.1 := fun x hx => by
  obtain ⟨bs, m, hl, _⟩ := h.lin
  obtain ⟨h1, h2, h3, h4, h5⟩ := hl.dur.says.ok
  simp only [manOf] at h2 h3
  have := needs_mem (hl.cln h.stl.al x hx)
  unfold needN at this
  simp only [List.mem_cons, List.mem_map] at this
  rcases this with e | e | ⟨t, ht, e⟩
  · exact .inl e
  · exact .inr (.inr ⟨s.log, by omega, .inl e⟩)
  · have := (h.num.2.1 t ht).2
    exact .inr (.inr ⟨t.number, by omega, .inr e.symm⟩)

theorem Lst.room {d : Dk} {s : Ls} {M : Mp} {n : Nat} (h : Lst d s M n) (hn : n ≤ 110) : used d.files ≤ 25000 ∧ d.files.length ≤ 2 + s.tabs.length := by
  obtain ⟨bs, m, hl, _, hb⟩ := h.lin
  have h1 := hl.used h.stl.al
  have h2 := szT_len (ts := s.tabs) (fun t ht e he => (h.tok t ht e he).1)
  have h3 := logOf_len (bs := bs) hl.dur.says.bok
  have h4 := h.ents
  have h5 := h.few
  refine ⟨?_, hl.count h.stl.al⟩
  omega

theorem Lst.fit {d : Dk} {s : Ls} {M : Mp} {n : Nat} (h : Lst d s M n) (hn : n ≤ 110) (hm : s.mem ≠ []) :
    Stp s.tabs s.batch (s.tabs.length + 1) n n (shapedX s.policy [] (tabF0 s)) ∧ (crowd s.policy ((shapedX s.policy [] (tabF0 s)).map (·.level))).2 = 0 ∧ (∀ k, viewE s.batch (newF (shapedX s.policy [] (tabF0 s))).flatten k = getF k M) ∧
    Fits s (shapedX s.policy [] (tabF0 s)) ∧ Rm d (szT (shapedX s.policy [] (tabF0 s)) + (20 + 16 * (shapedX s.policy [] (tabF0 s)).length)) ((shapedX s.policy [] (tabF0 s)).length + 2) := by
  obtain ⟨hs, hv⟩ := h.stp hm
  obtain ⟨a, b, c⟩ := hs.shaped (p := s.policy) (bs := []) _ (Nat.le_refl _)
  obtain ⟨n1, n2, n3⟩ := h.num
  have hmz : mz s.mem = 1 := by unfold mz; cases hh : s.mem with | nil => exact absurd hh hm | cons a r => rfl
  have hf := h.few
  have hlog := h.log
  have hnx := h.next
  have hlen := a.len
  generalize shapedX s.policy [] (tabF0 s) = sh at *
  refine ⟨a, b, fun k => (c k).trans (hv k), ⟨a.lv, fun t ht => ?_, fun t ht h0 => ?_, ?_, fun t ht => ?_, ?_, ?_⟩, ?_⟩
  · have := a.top t ht; omega
  · exact a.old.subset (List.mem_filter.2 ⟨ht, by simpa using h0⟩)
  · exact List.Nodup.sublist (a.old.map _) n3
  · exact ⟨layOk_of (a.srt t ht) (fun e he => ⟨(a.ok t ht e he).1, before_nil _⟩), a.ne t ht⟩
  · exact Nat.le_trans (List.length_filter_le _ _) hlen
  · have : s.log * 111 ≤ 110 * 111 := Nat.mul_le_mul_right _ (by omega)
    omega
  · obtain ⟨r1, r2⟩ := h.room hn
    have z1 := szT_len (ts := sh) (fun t ht e he => (a.ok t ht e he).1)
    have z2 := a.ents
    exact ⟨h.ok, h.stl, by rw [h.qu]; omega, h.our, by omega⟩

theorem newF_by {a b : List Tb} (h : a.map (·.es) = b.map (·.es)) : newF a = newF b := by
  unfold newF
  rw [List.map_reverse, List.map_reverse, h]
theorem entsT_by {a b : List Tb} (h : a.map (·.es) = b.map (·.es)) : entsT a = entsT b := by
  unfold entsT
  have e : ∀ l : List Tb, (l.map fun t => t.es.length) = (l.map (·.es)).map List.length := fun l => by simp [Function.comp_def]
  rw [e, e, h]

theorem Lst.flush {d : Dk} {s : Ls} {M : Mp} {n : Nat} (h : Lst d s M n) (hn : n ≤ 110) :
    (flushX d s).1 = 0 ∧ Lst (flushX d s).2.1 (flushX d s).2.2 M n ∧ (flushX d s).2.2.mem = [] ∧ (flushX d s).2.2.policy = s.policy := by
  by_cases hm : s.mem = []
  · have e : flushX d s = (0, d, s) := by
      unfold flushX settleX
      rw [if_pos (by simp [hm])]
      simp only
      rw [h.kept, shapedX_end h.shp, if_pos (by simp)]
    rw [e]
    exact ⟨rfl, h, hm, rfl⟩
  · obtain ⟨hS, hC, hV, hF, hR⟩ := h.fit hn hm
    have hmz : mz s.mem = 1 := by unfold mz; cases hh : s.mem with | nil => exact absurd hh hm | cons a r => rfl
    have hlog := h.log
    have hnx := h.next
    have hfew := h.few
    have hlen := hS.len
    have hl1 : s.log * 111 ≤ 110 * 111 := Nat.mul_le_mul_right _ (by omega)
    obtain ⟨c1, c2, c3, c4, _, _⟩ := Rm.commit (s := s) (s.log + 1) hR (by omega)
    obtain ⟨bs, m, hl, _, _⟩ := h.lin
    have e : flushX d s = commitX d s (shapedX s.policy [] (tabF0 s)) (s.log + 1) := by
      unfold flushX
      rw [if_neg (by simpa using hm)]
      simp only
      have e1 : (if (needL s.kept s.tabs.isEmpty (mergeL [flatM s.mem])).isEmpty then s.tabs else s.tabs ++ [⟨0, 0, needL s.kept s.tabs.isEmpty (mergeL [flatM s.mem])⟩]) = tabF0 s := rfl
      rw [e1]
      unfold settleX
      simp only
      rw [h.kept, if_neg (by omega), if_neg (by rw [c1]; simp)]
    rw [e]
    rcases commit_any hl hF (log := s.log + 1) (.inr ⟨rfl, by omega⟩) with ⟨x, _⟩ | ⟨_, ts1, n1, g1, g2, g3, g4, g5, g6⟩
    · exact absurd c1 x
    · generalize shapedX s.policy [] (tabF0 s) = sh at *
      have et : s.turned ts1 n1 (s.log + 1) = { s with tabs := ts1, next := n1, mem := [], log := s.log + 1, len := 0, loose := false } := by unfold Ls.turned; rw [if_neg (by omega)]
      rw [et] at g1 g6
      rw [if_neg (by omega), if_neg (by omega)] at g6
      have hll : ts1.length = sh.length := by have := congrArg List.length g2; simpa using this
      have hmem : ∀ x ∈ ts1, ∃ y ∈ sh, y.es = x.es := fun x hx => mem_by_map g2 hx
      have hmel : ∀ x ∈ ts1, ∃ y ∈ sh, y.level = x.level := fun x hx => mem_by_map g3 hx
      have c2' := c2
      rw [g1]
      refine ⟨c1, ?_, rfl, rfl⟩
      refine ⟨⟨[], 0, g6, rfl, by simp⟩, c2.ok, c2.stl, c3.trans h.qu, h.turn.trans c4.symm, h.pol, h.sn, h.stk, ⟨List.Pairwise.nil, fun x hx => by cases hx⟩, fun e he => (by simp [flatM] at he), h.bat, h.rise, fun k => ?_, fun x hx => ?_, fun x hx => ?_, fun x hx => ?_, ?_, ?_, ?_, fun x hx => ?_, ?_, ?_, ?_⟩
      · rw [← hV k]
        have : (Ls.layers { s with tabs := ts1, next := n1, mem := [], log := s.log + 1, len := 0, loose := false }).flatten = (newF sh).flatten := by
          rw [← newF_by g2]; simp [Ls.layers, flatM]
        rw [this]
      · obtain ⟨y, hy, e⟩ := hmem x hx; rw [← e]; exact hS.srt y hy
      · obtain ⟨y, hy, e⟩ := hmem x hx; rw [← e]; exact hS.ok y hy
      · obtain ⟨y, hy, e⟩ := hmem x hx; rw [← e]; exact hS.ne y hy
      · simp only; rw [g3]; exact hS.lv
      · simp only; rw [g3]; exact hC
      · simp only [flatM, List.flatMap_nil, List.length_nil, Nat.add_zero]; rw [entsT_by g2]; exact hS.ents
      · obtain ⟨y, hy, e⟩ := hmel x hx
        have := hS.top y hy
        simp only [mz, List.isEmpty_nil, if_true]
        omega
      · simp only [mz, List.isEmpty_nil, if_true]; omega
      · simp only [mz, List.isEmpty_nil, if_true]; omega
      · simp only; omega

def withB (s : Ls) (l : List Ox) : Ls := { s with loose := true, len := s.len + (encode l).length, batch := s.batch + 1, mem := doM (s.batch + 1) s.lastSnap s.mem l }

theorem opOk_bare {o : Ox} (h : opOk o = true) : opOk (bare o) = true := by
  unfold opOk at h ⊢
  unfold bare
  cases hg : o.gone
  · simp [hg] at h ⊢; exact h
  · simp [hg] at h ⊢; exact h
theorem doM1_mem {n last : Int} {m : Mm} {o : Ox} {e : En} (h : e ∈ flatM (doM1 n last m o)) : e = ⟨bare o, n⟩ ∨ e ∈ flatM m := by
  obtain ⟨x, hx, he⟩ := List.mem_flatMap.1 h
  unfold doM1 at hx
  rcases mem_ins.1 hx with rfl | hx
  · simp only at he
    rcases List.mem_cons.1 he with rfl | he
    · exact .inl rfl
    · have hv := vers_mem he
      refine .inr ?_
      cases hg : getF o.key m with
      | none => rw [hg] at hv; simp at hv
      | some l =>
        rw [hg] at hv
        exact List.mem_flatMap.2 ⟨_, getF_mem hg, hv⟩
  · exact .inr (List.mem_flatMap.2 ⟨x, mem_del hx, he⟩)
theorem doM_mem {n last : Int} : ∀ {l : List Ox} {m : Mm} {e : En}, e ∈ flatM (doM n last m l) → (∃ o ∈ l, e = ⟨bare o, n⟩) ∨ e ∈ flatM m
  | [], _, _, h => .inr h
  | o :: r, m, e, h => by
    rcases doM_mem (l := r) (m := doM1 n last m o) h with ⟨p, hp, he⟩ | h
    · exact .inl ⟨p, by simp [hp], he⟩
    · rcases doM1_mem h with he | h
      · exact .inl ⟨o, by simp, he⟩
      · exact .inr h
theorem doM1_ne (n last : Int) (m : Mm) (o : Ox) : doM1 n last m o ≠ [] := fun e => by
  have := congrArg List.length e
  unfold doM1 at this
  rw [ins_len] at this
  simp at this
theorem doM_ne {n last : Int} : ∀ {l : List Ox} {m : Mm}, (l ≠ [] ∨ m ≠ []) → doM n last m l ≠ []
  | [], _, h => h.resolve_left (fun f => f rfl)
  | o :: r, m, _ => doM_ne (l := r) (m := doM1 n last m o) (.inr (doM1_ne n last m o))

theorem Lst.snap {d : Dk} {s : Ls} {M : Mp} {n : Nat} (h : Lst d s M n) : s.lastSnap = -1 := by unfold Ls.lastSnap; rw [h.sn]; rfl

theorem Lst.append {d : Dk} {s : Ls} {M : Mp} {n : Nat} (h : Lst d s M n) {l : List Ox} (hb : batchOk l = true) (hn : n + l.length ≤ 110) :
    (d.write (lgN s.log) (encode l)).1 = 0 ∧ Lst (d.write (lgN s.log) (encode l)).2 (withB s l) (doAll M l) (n + l.length) := by
  obtain ⟨bs, m, hl, hlen, hbs⟩ := h.lin
  obtain ⟨r1, r2⟩ := h.room (by omega)
  obtain ⟨⟨b1, b2⟩, b3⟩ := batchOk_iff.1 hb
  have he := encode_len l
  have hbl := (body_len hb).2
  have hfew := h.few
  have hm3 := hl.dur.says.ok.2.2.1
  simp only [manOf] at hm3
  obtain ⟨w1, w2, w3, w4, _⟩ := Rm.write (d := d) (b := 0) (c := 0) (n := lgN s.log) (t := encode l) ⟨h.ok, h.stl, by rw [h.qu]; omega, h.our, by omega⟩ (lgN_ok _) (.inr (.inr ⟨s.log, by omega, .inl rfl⟩))
  have hL : Lin (d.write (lgN s.log) (encode l)).2 s (bs ++ [l]) m := by
    rcases hl.append hb with ⟨_, x⟩ | ⟨x, _⟩
    · exact x
    · exact absurd w1 x
  have hv0 : ∀ k, viewE (s.batch + 1) (flatM s.mem ++ (newF s.tabs).flatten) k = getF k M := fun k => by
    rw [← h.view k]
    have e : s.layers.flatten = flatM s.mem ++ (newF s.tabs).flatten := by simp [Ls.layers]
    rw [e]
    refine view_up (fun e he => ?_) (by omega) k
    rcases List.mem_append.1 he with he | he
    · exact (h.mop e he).2
    · obtain ⟨x, hx, hxe⟩ := newF_mem he
      exact (h.tok x hx e hxe).2
  obtain ⟨v1, v2, v3, _⟩ := view_do (n := s.batch + 1) (last := s.lastSnap) (newF s.tabs).flatten l s.mem M h.mok (fun o ho => opOk_ne (b3 o ho)) h.rise hv0
  have hne : doM (s.batch + 1) s.lastSnap s.mem l ≠ [] := doM_ne (.inl (by intro e; rw [e] at b1; simp at b1))
  have hmz : mz (withB s l).mem = 1 := by
    show mz (doM (s.batch + 1) s.lastSnap s.mem l) = 1
    unfold mz
    cases hh : doM (s.batch + 1) s.lastSnap s.mem l with
    | nil => exact absurd hh hne
    | cons a r => rfl
  have hfl := flat_doM (s.batch + 1) s.lastSnap l s.mem
  have hents := h.ents
  have hbat := h.bat
  refine ⟨w1, ⟨⟨bs ++ [l], m, ⟨hL.dur, hL.cln, hL.rise⟩, ?_, ?_⟩, w2.ok, w2.stl, w3.trans h.qu, h.turn.trans w4.symm, h.pol, h.sn, h.stk, v1, fun e he => ?_, ⟨?_, ?_⟩, v2, fun k => ?_, h.srt, fun x hx e he => ?_, h.ne, h.lv, h.shp, ?_, fun x hx => ?_, ?_, ?_, h.next⟩⟩
  · show s.len + (encode l).length = _
    rw [hlen, logOf_append, logOf_one, List.length_append]
  · simp only [List.flatten_append, List.length_append, List.flatten_cons, List.flatten_nil, List.append_nil]; omega
  · rcases doM_mem he with ⟨o, ho, rfl⟩ | he
    · exact ⟨opOk_bare (b3 o ho), Int.le_refl _⟩
    · have := h.mop e he
      exact ⟨this.1, by show e.batch ≤ s.batch + 1; omega⟩
  · show (0 : Int) ≤ s.batch + 1; omega
  · show s.batch + 1 ≤ ((n + l.length : Nat) : Int); omega
  · rw [← v3 k]
    have e : (withB s l).layers.flatten = flatM (doM (s.batch + 1) s.lastSnap s.mem l) ++ (newF s.tabs).flatten := by simp [Ls.layers, withB]
    rw [e]; rfl
  · have := h.tok x hx e he
    exact ⟨this.1, by show e.batch ≤ s.batch + 1; omega⟩
  · show entsT s.tabs + (flatM (doM (s.batch + 1) s.lastSnap s.mem l)).length ≤ _; omega
  · rw [hmz]
    have := h.lev x hx
    show x.level + s.tabs.length + 1 ≤ _
    omega
  · rw [hmz]; show s.tabs.length + 1 ≤ _; omega
  · rw [hmz]
    have := h.log
    show s.log + 1 ≤ _; omega

theorem Lst.tend {d : Dk} {s : Ls} {M : Mp} {n : Nat} (h : Lst d s M n) (hn : n ≤ 110) : (tendX d s).1 = 0 ∧ Lst (tendX d s).2.1 (tendX d s).2.2 M n ∧ (tendX d s).2.2.policy = s.policy := by
  unfold tendX
  simp only
  split
  · obtain ⟨a, b, _, c⟩ := h.flush hn
    rw [if_neg (by rw [a]; simp)]
    exact ⟨a, b, c⟩
  · have e : settleX d s s.tabs s.log = (0, d, s) := by
      unfold settleX
      simp only
      rw [h.kept, shapedX_end h.shp, if_pos (by simp)]
    rw [e]
    exact ⟨rfl, h, rfl⟩

theorem Lst.ready {d : Dk} {s : Ls} {M : Mp} {n : Nat} (h : Lst d s M n) : s.readyX d = 0 := by
  unfold Ls.readyX
  rw [if_neg (by simp [h.turn]), if_neg (by rw [h.stl.al]; simp)]
theorem Lst.writ {d : Dk} {s : Ls} {M : Mp} {n : Nat} (h : Lst d s M n) : s.writX d = 0 := by
  unfold Ls.writX
  rw [h.ready, h.stk]; simp

theorem Lst.some_view {d : Dk} {s : Ls} {M : Mp} {n : Nat} (h : Lst d s M n) (hm : s.mem = []) : M.length ≤ entsT s.tabs := by
  have := nodup_len (M.map (·.1)) ((newF s.tabs).flatten.map (·.op.key)) (rising_nodup h.rise) (fun k hk => by
    have hg := getF_name hk
    have hv := h.view k
    cases hgk : getF k M with
    | none => rw [hgk] at hg; cases hg
    | some v =>
      rw [hgk] at hv
      have e : s.layers.flatten = (newF s.tabs).flatten := by simp [Ls.layers, hm, flatM]
      rw [e] at hv
      unfold viewE at hv
      cases hp : pickE s.batch (atK k (newF s.tabs).flatten) with
      | none => rw [hp] at hv; cases hv
      | some en =>
        have hm := List.mem_of_find?_eq_some hp
        have := List.mem_filter.1 hm
        exact List.mem_map.2 ⟨en, this.1, by simpa using this.2⟩)
  rw [List.length_map, List.length_map, newF_len] at this
  exact this

end Go.Proofs.YtoabedkcieindaaGreatDoor

namespace Go.Proofs.YtoabedkcieindaaGreatDoor
open Go.RowKit Go.Maps Go.Sort Go.Shelf

structure Lsy (w : World) (S E : Nat → Prop) (T bd bm bsn : Nat) (s : Sl) (l : List Tr) (d : Dk) (st : Ls) : Prop where
  prog : ProgAt w S bd d
  at_ : LsAt w E T bd bm bsn s l st
  dj : ∀ k, E k → ¬ S k
  nT : ¬ S T
  nm : ¬ S bm
  nn : ¬ S bsn

theorem Lst.rmT {d : Dk} {s : Ls} {M : Mp} {n : Nat} (h : Lst d s M n) (hn : n ≤ 110) {ts : List Tb} (h1 : ∀ t ∈ ts, ∀ e ∈ t.es, opOk e.op = true) (h2 : entsT ts ≤ 110) (h3 : ts.length ≤ 111) : Rm d (szT ts + (20 + 16 * ts.length)) (ts.length + 2) := by
  obtain ⟨r1, r2⟩ := h.room hn
  have z1 := szT_len h1
  have hf := h.few
  exact ⟨h.ok, h.stl, by rw [h.qu]; omega, h.our, by omega⟩

theorem Lst.nx {d : Dk} {s : Ls} {M : Mp} {n : Nat} (h : Lst d s M n) (hn : n ≤ 110) : s.next ≤ 13000 := by
  have h1 := h.next
  have h2 := h.log
  have h3 : s.log * 111 ≤ 110 * 111 := Nat.mul_le_mul_right _ (by omega)
  omega

theorem mem_le_flat : ∀ {m : Mm}, (∀ x ∈ m, x.2 ≠ []) → m.length ≤ (flatM m).length
  | [], _ => by simp
  | x :: r, h => by
    have h1 := mem_le_flat (m := r) (fun y hy => h y (by simp [hy]))
    have h2 : 1 ≤ x.2.length := by
      have := h x (by simp)
      cases hx : x.2 with
      | nil => exact absurd hx this
      | cons a b => simp
    simp only [flatM, List.flatMap_cons, List.length_cons, List.length_append] at h1 ⊢
    omega
theorem Lst.memlen {d : Dk} {s : Ls} {M : Mp} {n : Nat} (h : Lst d s M n) : s.mem.length ≤ (flatM s.mem).length := mem_le_flat (fun x hx => (h.mok.2 x hx).2.1)
theorem Lst.keylen {d : Dk} {s : Ls} {M : Mp} {n : Nat} (h : Lst d s M n) : ∀ x ∈ s.mem, x.1.length ≤ 1099511627776 := fun x hx => by
  have hx2 := (h.mok.2 x hx).2
  cases hxe : x.2 with
  | nil => exact absurd hxe hx2.1
  | cons a b =>
    have ha := hx2.2 a (by rw [hxe]; simp)
    have hop := (h.mop a (List.mem_flatMap.2 ⟨x, hx, by rw [hxe]; simp⟩)).1
    have := (opOk_key hop).2
    rw [← ha]
    omega

theorem entsT_at {ts : List Tb} {t : Tb} (h : t ∈ ts) : t.es.length ≤ entsT ts := by
  induction ts with
  | nil => cases h
  | cons x r ih =>
    simp only [entsT, List.map_cons, List.sum_cons]
    rcases List.mem_cons.1 h with rfl | h
    · omega
    · have := ih h
      unfold entsT at this
      omega

set_option maxHeartbeats 400000 in
theorem flush_good (T bd bm bsn : Nat) (s : Sl) (l : List Tr) (d : Dk) (st : Ls) (S E : Nat → Prop) (M : Mp) (n : Nat) (w : World) (h : Lsy w S E T bd bm bsn s l d st) (hl : Lst d st M n) (hn : n ≤ 110) :
    Calls Tryz.prog 117 #[.pointer (some ⟨T, 0, none⟩)] w fun e w' => e = .returned (.int .i64 0) ∧ CmPost w w' S E T bd bm bsn (flushX d st) ∧ Kp (fun k => S k ∨ k = T ∨ k = bm) w w' := by
  have hL := h.at_
  have hlen : l.length = st.tabs.length := by rw [← hL.is]; simp
  have hfew := hl.few
  have hents := hl.ents
  have hlog := hl.log
  have hnx := hl.nx hn
  obtain ⟨n1, n2, n3⟩ := hl.num
  obtain ⟨r1, r2⟩ := hl.room hn
  have hin : ∀ x ∈ l, x.1 ∈ st.tabs := fun x hx => by rw [← hL.is]; exact List.mem_map.2 ⟨x, hx, rfl⟩
  by_cases hm : st.mem = []
  · have hsh : shapedX st.policy [] (l.map (·.1)) = l.map (·.1) := shapedX_end (by rw [hL.is]; exact hl.shp)
    have hC := Rm.commit (s := st) st.log (hl.rmT hn (ts := st.tabs) (fun t ht e he => (hl.tok t ht e he).1) (by omega) (by omega)) (by omega)
    obtain ⟨c1, _, _, _, c5, c6⟩ := hC
    have hI : ShI w.drew w.drew s l st.policy 1000 s l := ⟨hL.tab.below ((Below.refl _ w).drew), hL.es.below ((Below.refl _ w).drew), Below.refl _ _, by omega, by rw [hL.is]; omega, fun x hx e he => (hl.tok _ (hin x hx) e he).1, fun x hx => by have := hl.lev _ (hin x hx); omega, rfl, .inl ⟨rfl, rfl⟩, fun x hx => .inl hx⟩
    have hS := settle_any T bd bm bsn s s l l st d S E st.log 1000 w.drew (hL.below ((Below.refl _ w).drew)) hI (by omega) hl.pol hL.inE (progBelow h.prog ((Below.refl _ w).drew)) hl.ok (by omega) h.nT h.nm h.nn h.dj (by omega) (by omega) (by omega) (by omega)
      (fun x hx => by have := (n2 _ (hin x hx)).2; omega)
      (fun t ht => by
        rw [hsh, hL.is] at ht
        have a1 := (n2 t ht).2
        have a2 := hl.lev t ht
        have a3 := entsT_at ht
        exact ⟨by omega, by omega, fun e he => (hl.tok t ht e he).1, hl.ne t ht, by omega⟩)
      (by rw [hsh, hL.is]; exact c5) (by rw [hsh, hL.is]; exact c6) (by rw [hsh, hL.is, c1]; decide)
    have e : flushX d st = settleX d st (l.map (·.1)) st.log := by unfold flushX; rw [if_pos (by simp [hm]), hL.is]
    have h0 := (hl.flush hn).1
    rw [e] at h0 ⊢
    refine flush_empty T bd bm bsn s l st E w _ hL hm (hS.mono ?_)
    rintro e' w' ⟨rfl, hp, hk⟩
    refine ⟨⟨_, rfl⟩, by rw [h0], hp, ?_⟩
    exact (Kp.of_below (S := fun k => S k ∨ k = T ∨ k = bm) ((Below.refl _ w).drew)).trans hk (fun _ _ h => h)
  · obtain ⟨hS, hC, hV, hF, hR⟩ := hl.fit hn hm
    have hmz : mz st.mem = 1 := by unfold mz; cases hh : st.mem with | nil => exact absurd hh hm | cons a r => rfl
    have hlen2 := hS.len
    obtain ⟨c1, _, _, _, c5, c6⟩ := Rm.commit (s := st) (st.log + 1) hR (by omega)
    have hst := (hl.stp hm).1
    have het : tabF0 st = l.map (·.1) ++ (if (needL [] l.isEmpty (mergeL [flatM st.mem])).isEmpty then [] else [⟨0, 0, needL [] l.isEmpty (mergeL [flatM st.mem])⟩]) := by
      have e1 : st.tabs.isEmpty = l.isEmpty := by rw [← hL.is]; simp
      rw [tabF0_is, hL.is]
      unfold esF
      rw [hl.kept, e1]
    have hml := hl.memlen
    have e : flushX d st = settleX d st (tabF0 st) (st.log + 1) := by
      unfold flushX
      rw [if_neg (by simpa using hm)]
      rfl
    have h0 := (hl.flush hn).1
    rw [e] at h0 ⊢
    refine flush_some T bd bm bsn s l st E l.isEmpty w _ hL hm hl.mok.1 (by omega) (by omega) (fun x hx => ?_) (by omega) (by omega) rfl ?_
    · exact hl.keylen x hx
    · intro w1 s2 l2 hF2
      have his : l2.map (·.1) = tabF0 st := by rw [hF2.is, het]
      have hll2 : l2.length = (tabF0 st).length := by rw [← his]; simp
      have hin2 : ∀ x ∈ l2, x.1 ∈ tabF0 st := fun x hx => by rw [← his]; exact List.mem_map.2 ⟨x, hx, rfl⟩
      have hl0 := hst.len
      have hI : ShI w1 w1 s2 l2 st.policy 1000 s2 l2 := ⟨hF2.at_, hF2.es_, Below.refl _ _, by omega, by rw [his]; have := hst.ents; omega, fun x hx e he => (hst.ok _ (hin2 x hx) e he).1, fun x hx => by have := hst.top _ (hin2 x hx); omega, rfl, .inl ⟨rfl, rfl⟩, fun x hx => .inl hx⟩
      have hP0 : ProgAt w (fun k => S k ∧ k < w.heap.size) bd d := h.prog.mono (fun k hk s => ⟨s, hk⟩)
      have hG := hL.grow hF2.bel
      have hSt := settle_any T bd bm bsn s s2 l l2 st d (fun k => S k ∧ k < w.heap.size) _ (st.log + 1) 1000 w1 hG hI (by omega) hl.pol
        (fun x hx a ha => by
          rcases hF2.each x hx with hx | hx
          · exact .inl (hL.inE x hx a ha)
          · exact .inr (hx a ha))
        (progBelow hP0 hF2.bel) hl.ok (by omega) (fun h' => h.nT h'.1) (fun h' => h.nm h'.1) (fun h' => h.nn h'.1) (fun k hk hs => hk.elim (fun hk => h.dj k hk hs.1) (fun hk => by omega)) (by omega) (by omega) (by omega) (by omega)
        (fun x hx => by have := (n2 _ (hin x hx)).2; omega)
        (fun t ht => by
          rw [his] at ht
          have a0 : t.number ≤ 1000000000000 := by
            by_cases h0 : 0 < t.number
            · have := (n2 t (hF.old t ht h0)).2; omega
            · omega
          have a2 := hS.top t ht
          have a3 := entsT_at ht
          have a4 := hS.ents
          exact ⟨a0, by omega, fun e he => (hS.ok t ht e he).1, hS.ne t ht, by omega⟩)
        (by rw [his]; exact c5) (by rw [his]; exact c6) (by rw [his, c1]; decide)
      rw [his] at hSt
      refine hSt.mono ?_
      rintro e' w' ⟨rfl, hp, hk⟩
      exact ⟨⟨_, rfl⟩, by rw [h0], hp.low hF2.bel, hk.low hF2.bel⟩

end Go.Proofs.YtoabedkcieindaaGreatDoor

namespace Go.Proofs.YtoabedkcieindaaGreatDoor
open Go.RowKit Go.Maps Go.Sort

def twoB (L : Nat) : Obj := .cells #[.int .u8 (IntKind.u8.wrap ((L : Int) / 256)), .int .u8 (IntKind.u8.wrap (L : Int))] 5
theorem conv_two {L : Nat} {W : World} {b : Nat} (h : W.heap[b]? = some (twoB L)) :
    (convert 91 9 (.slice (some ⟨b, 0, none⟩) 2 2)).run Tryz.prog W = .ok (str (be2 L)) W := by
  have e : [IntKind.u8.wrap ((L : Int) / 256), IntKind.u8.wrap (L : Int)] = (be2 L).map fun c => (c.toNat : Int) := by
    simp only [be2, List.map_cons, List.map_nil, byte_mod, IntKind.wrap_u8]
    congr 1
  rw [run_convert_bytes_arg W _ 5 Tryz.underlying91 Tryz.underlying5 b 0 2 2 [IntKind.u8.wrap ((L : Int) / 256), IntKind.u8.wrap (L : Int)] rfl (fun i hi => by
    rw [cell_block h]
    match i, hi with
    | 0, _ => rfl
    | 1, _ => rfl) _ Tryz.underlying9, e, nums_bytes]

set_option maxHeartbeats 2000000 in
set_option maxRecDepth 20000 in
theorem Encode_any (q : Option Addr) (qc : Nat) (l : List Ox) (w : World) (hbo : batchOk l = true) (hp : Opp w q l) :
    Calls Tryz.prog 108 #[.slice q l.length qc] w fun e w' => e = .returned (str (encode l)) ∧ Below w.heap.size w w' := by
  obtain ⟨⟨h1, h8⟩, hop⟩ := batchOk_iff.1 hbo
  obtain ⟨hb1, hb2⟩ := body_len hbo
  go_enter Tryz.func108, Tryz.ntmps108
  go_wp2
  go_loopw [3, 8] (fun v i wr => ∃ k : Nat, k ≤ l.length ∧ i = .int .i64 k ∧ OwnB wr w.heap.size v (encBody (l.take k)) ∧ Below w.heap.size w wr) (fun _ i _ => l.length - (intOf i).toNat)
  case atStart => exact ⟨0, Nat.zero_le _, rfl, World.ownsRow_nil _ _ _ _, Below.refl _ _⟩
  case round =>
    obtain ⟨k, hk, rfl, hown, hb⟩ := hrel
    by_cases hlt : k < l.length
    · obtain ⟨g, off, rfl, c0, c1, c2⟩ := hp.below hb k hlt
      have hlen := encBody_len (l.take k) (fun o ho => hop o (List.mem_of_mem_take ho))
      rw [List.length_take] at hlen
      obtain ⟨a, n, cap, rfl⟩ := ownB_some hown
      have hs := hb.size
      have hA := appendOp_any (.slice a n cap) (encBody (l.take k)) l[k] (wr.alloc (.cells #[str l[k].key, str l[k].val, .bool l[k].gone] 77)) w.heap.size (by simp; omega) (hown.alloc _) (hop _ (List.getElem_mem hlt)) (by omega)
      go_wp2_with (go_at_call 166; refine hA.mono ?_; rintro e w1 ⟨v1, rfl, hown1, hbl1⟩)
      go_roundw
      case rel => exact ⟨k + 1, by omega, by go_num, by rw [encBody_snoc hlt]; exact hown1, (hb.alloc hb.size _).trans hbl1⟩
      case measure => simp [intOf]; omega
    · rw [List.take_of_length_le (by omega)] at hown
      obtain ⟨a, cap, rfl⟩ := ownB_shape hown
      obtain ⟨g, rfl⟩ : ∃ g, a = some ⟨g, 0, none⟩ := by
        rcases hown.2 with ⟨hv, hn⟩ | ⟨g, cap', cur, hv, _⟩
        · omega
        · exact ⟨g, by simpa using (Value.slice.inj hv).1⟩
      have hs := hb.size
      have HE : Hid (encode l = be2 (encBody l).length ++ sealT (encBody l)) := by show _ = _; simp [encode, sealT]
      have hS : ∀ W : World, w.heap.size ≤ W.heap.size → OwnB W w.heap.size (.slice (some ⟨g, 0, none⟩) (encBody l).length cap) (encBody l) → Calls Tryz.prog 167 #[.slice (some ⟨g, 0, none⟩) (encBody l).length cap] W fun e w' => e = .returned (str (sealT (encBody l))) ∧ Below W.heap.size W w' := fun W hW ho => seal_any g cap w.heap.size (encBody l) W hW ho (by omega)
      have HO : Hid (OwnB wr w.heap.size (.slice (some ⟨g, 0, none⟩) (encBody l).length cap) (encBody l)) := hown
      have hsl : (sealT (encBody l)).length = 4 + (encBody l).length := by simp [sealT, be4_len]
      clear hown
      generalize sealT (encBody l) = T at *
      generalize hL : (encBody l).length = L at *
      have hcA := conv_two (L := L) (W := (wr.alloc (twoB L)).drew) (b := wr.heap.size) (block_new wr _)
      unfold twoB at hcA
      have hz2 : (⟨(be2 L).toArray⟩ : ByteArray).size = 2 := rfl
      have hzT : (⟨T.toArray⟩ : ByteArray).size = T.length := rfl
      go_wp2
      go_region_with (go_at_call 167; (first | refine (hS _ (by simp; omega) (HO.out.kept ((Kp.refl (fun _ => False) wr).drew) (fun _ _ f => f))).mono ?_ | refine (hS _ (by simp; omega) (HO.out.kept (((Kp.refl (fun _ => False) wr).alloc _).drew) (fun _ _ f => f))).mono ?_); rintro e w1 ⟨rfl, hb1⟩; (first | (have hcB := conv_two (L := L) (W := w1) (b := wr.heap.size) ((hb1.block _ (by simp)).trans (block_new wr _)); unfold twoB at hcB) | (have hcB := conv_two (L := L) (W := w1.alloc (twoB L)) (b := w1.heap.size) (block_new w1 _); unfold twoB at hcB)))
      all_goals go_wp2
      all_goals go_ret
      all_goals rw [HE.out]
      all_goals refine ⟨congrArg (fun s => Ending.returned (.string s)) (str_app (be2 L) T), ?_⟩
      · exact ((hb.alloc hs _).drew).trans (hb1.mono (by simp; omega))
      · exact ((hb.alloc hs _).drew).trans (hb1.mono (by simp; omega))
      · exact ((hb.drew).trans (hb1.mono (by simp; omega))).alloc (by have := hb1.size; simp at this; omega) _

end Go.Proofs.YtoabedkcieindaaGreatDoor
