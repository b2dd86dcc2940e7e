import Derived.Test.YtoabedkcieindabGreatDoorQkAW
import Derived.Test.YtoabedkcieindabGreatDoorQkAN
namespace Go.Proofs.YtoabedkcieindabGreatDoor
structure Sq where
  tk : Nat
  l : List (Int × Int × Mp)
variable {Q : Sq}
theorem Stp.shapedB {O : List Tb} {c : Int} {L M N : Nat} {p : Int} {bs : List Int} {b : Int} (hb : b ∈ bs) : ∀ (n : Nat) {ts : List Tb}, ts.length ≤ n → Stp O c L M N ts → ∀ k, viewE b (newF (shapedX p bs ts)).flatten k = viewE b (newF ts).flatten k := by
  intro n
  induction n with
  | zero =>
    intro ts hn h
    obtain rfl : ts = [] := by cases ts with | nil => rfl | cons a r => simp at hn
    exact fun k => rfl
  | succ n ih =>
    intro ts hn h
    by_cases hc : (crowd p (ts.map (·.level))).2 = 0
    · rw [shapedX_end hc]
      exact fun _ => rfl
    · have hl := stepT_len (bs := bs) hc
      rw [shapedX_step hc]
      intro k
      refine (ih (by omega) (h.step (bs := bs) hc) k).trans ?_
      obtain ⟨g1, g2⟩ := crowd_span hc
      exact view_repl (by omega) h.srt (.inl hb) k
def bareE (e : En) : Prop := e.op.gone = true → e.op.val = []
structure Lsu (d : Dk) (s : Ls) (M : Mp) (n c : Nat) (Q : Sq) : Prop where
  lin : ∃ bs m, Lin d s bs m ∧ s.len = (logOf bs).length ∧ bs.flatten.length ≤ n
  ok : d.Ok
  stl : Stl d
  qu : d.quota = 1048576
  turn : s.turn = d.turn
  pol : 0 ≤ s.policy ∧ s.policy ≤ 2
  sn : s.snaps = Q.l.map fun q => (q.1, q.2.1)
  stk : s.stuck = false
  mok : MmOk s.mem
  mop : ∀ e ∈ flatM s.mem, opOk e.op = true ∧ e.batch ≤ s.batch
  bat : 0 ≤ s.batch ∧ s.batch ≤ n
  rise : rising M
  view : ∀ k, viewE s.batch s.layers.flatten k = getF k M
  srt : ∀ x ∈ s.tabs, srt x.es
  tok : ∀ x ∈ s.tabs, ∀ e ∈ x.es, opOk e.op = true ∧ e.batch ≤ s.batch
  ne : ∀ x ∈ s.tabs, x.es ≠ []
  lv : nonR (s.tabs.map (·.level))
  ents : entsT s.tabs + (flatM s.mem).length ≤ n
  lev : ∀ x ∈ s.tabs, x.level + s.tabs.length + mz s.mem ≤ n
  few : s.tabs.length + mz s.mem ≤ n
  log : s.log + mz s.mem ≤ n
  next : s.next ≤ 1 + 111 * c
  mbar : ∀ e ∈ flatM s.mem, bareE e
  tbar : ∀ x ∈ s.tabs, ∀ e ∈ x.es, bareE e
  lo : s.loose = true → 0 < s.len
  tkn : s.taken = Q.tk
  snk : ∀ q ∈ Q.l, (0 ≤ q.2.1 ∧ q.2.1 ≤ s.batch ∧ q.1 ≤ Q.tk) ∧ rising q.2.2 ∧ ∀ k, viewE q.2.1 s.layers.flatten k = getF k q.2.2
theorem Lsu.up {d : Dk} {s : Ls} {M : Mp} {n c c' : Nat} (h : Lsu d s M n c Q) (hc : c ≤ c') : Lsu d s M n c' Q := { h with next := Nat.le_trans h.next (by omega) }
theorem Lsu.num {d : Dk} {s : Ls} {M : Mp} {n c : Nat} (h : Lsu d s M n c Q) : 1 ≤ s.next ∧ (∀ x ∈ s.tabs, 1 ≤ x.number ∧ x.number < s.next) ∧ (s.tabs.map (·.number)).Nodup := by
  obtain ⟨bs, m, hl, _⟩ := h.lin
  obtain ⟨h1, h2, h3, h4, h5⟩ := hl.dur.says.ok
  simp only [manOf] at h1 h4 h5
  refine ⟨h1, ?_, by simpa [Function.comp_def] using h5⟩
  have : ∀ (l : List Pl) (lv : Nat), plsOk s.next lv l = true → ∀ p ∈ l, 1 ≤ p.number ∧ p.number < s.next := by
    intro l
    induction l with
    | nil => intro _ _ p hp; cases hp
    | cons q r ih =>
      intro lv hq p hp
      simp only [plsOk, Bool.and_eq_true, decide_eq_true_eq] at hq
      rcases List.mem_cons.1 hp with rfl | hp
      · exact ⟨hq.1.1.1, hq.1.1.2⟩
      · exact ih _ hq.2 p hp
  exact fun x hx => this _ _ h4 ⟨x.number, x.level⟩ (List.mem_map.2 ⟨x, hx, rfl⟩)
theorem Lsu.inK {d : Dk} {s : Ls} {M : Mp} {n c : Nat} (h : Lsu d s M n c Q) {q : Int × Int × Mp} (hq : q ∈ Q.l) : q.2.1 ∈ s.kept := by
  unfold Ls.kept
  rw [h.sn, List.map_map]
  exact List.mem_map.2 ⟨q, hq, rfl⟩
theorem Lsu.ofK {d : Dk} {s : Ls} {M : Mp} {n c : Nat} (h : Lsu d s M n c Q) {b : Int} (hb : b ∈ s.kept) : 0 ≤ b ∧ b ≤ s.batch := by
  unfold Ls.kept at hb
  rw [h.sn, List.map_map] at hb
  obtain ⟨q, hq, rfl⟩ := List.mem_map.1 hb
  have := (h.snk q hq).1
  exact ⟨this.1, this.2.1⟩
theorem Lsu.our {d : Dk} {s : Ls} {M : Mp} {n c : Nat} (h : Lsu d s M n c Q) : ∀ x ∈ d.files, Our x.1 := fun x hx => by
  obtain ⟨bs, m, hl, _⟩ := h.lin
  obtain ⟨h1, h2, h3, h4, h5⟩ := hl.dur.says.ok
  simp only [manOf] at h2 h3
  have := needs_mem (hl.cln h.stl.al x hx)
  unfold needN at this
  simp only [List.mem_cons, List.mem_map] at this
  rcases this with e | e | ⟨t, ht, e⟩
  · exact .inl e
  · exact .inr (.inr ⟨s.log, by omega, .inl e⟩)
  · have := (h.num.2.1 t ht).2
    exact .inr (.inr ⟨t.number, by omega, .inr e.symm⟩)
theorem Lsu.room {d : Dk} {s : Ls} {M : Mp} {n c : Nat} (h : Lsu d s M n c Q) (hn : n ≤ 110) : used d.files ≤ 25000 ∧ d.files.length ≤ 2 + s.tabs.length := by
  obtain ⟨bs, m, hl, _, hb⟩ := h.lin
  have h1 := hl.used h.stl.al
  have h2 := szT_len (ts := s.tabs) (fun t ht e he => (h.tok t ht e he).1)
  have h3 := logOf_len (bs := bs) hl.dur.says.bok
  have h4 := h.ents
  have h5 := h.few
  refine ⟨?_, hl.count h.stl.al⟩
  omega
theorem mz_one {m : Mm} (h : m ≠ []) : mz m = 1 := by unfold mz; cases hh : m with | nil => exact absurd hh h | cons a r => rfl
structure Cmt (s : Ls) (M : Mp) (n : Nat) (T : List Tb) (log : Nat) : Prop where
  lw : log = s.log ∨ log = s.log + 1
  stp : ∃ X Y, Stp s.tabs s.batch (s.tabs.length + 1) X Y T ∧ X + (if log = s.log then mz s.mem else 0) ≤ n ∧ Y + (if log = s.log then (flatM s.mem).length else 0) ≤ n
  few : T.length + (if log = s.log then mz s.mem else 0) ≤ n
  lg : log + (if log = s.log then mz s.mem else 0) ≤ n
  bar : ∀ x ∈ T, ∀ e ∈ x.es, bareE e
  view : ∀ k, viewE s.batch ((if log = s.log then flatM s.mem else []) ++ (newF T).flatten) k = getF k M
  snv : ∀ b ∈ s.kept, ∀ k, viewE b ((if log = s.log then flatM s.mem else []) ++ (newF T).flatten) k = viewE b s.layers.flatten k
theorem Lsu.commit {d : Dk} {s : Ls} {M : Mp} {n c : Nat} (h : Lsu d s M n c Q) (hn : n ≤ 110) (hc : c ≤ 1000000000) {T : List Tb} {log : Nat} (hC : Cmt s M n T log) :
    Rm d (szT T + (20 + 16 * T.length)) (T.length + 2) ∧ (commitX d s T log).1 = 0 ∧ Lsu (commitX d s T log).2.1 (commitX d s T log).2.2 M n (c + 1) Q ∧ (commitX d s T log).2.2.policy = s.policy ∧ (commitX d s T log).2.2.batch = s.batch ∧ (commitX d s T log).2.2.tabs.length = T.length ∧ (commitX d s T log).2.2.mem = if log = s.log then s.mem else [] := by
  obtain ⟨X, Y, a, hX, hY⟩ := hC.stp
  obtain ⟨n1, n2, n3⟩ := h.num
  have hf := h.few
  have hnx := h.next
  have hlen := a.len
  have htf := hC.few
  have htl := hC.lg
  have hslog := h.log
  have hFit : Fits s T := by
    refine ⟨a.lv, fun t ht => ?_, fun t ht h0 => ?_, ?_, fun t ht => ?_, ?_, ?_⟩
    · have := a.top t ht; omega
    · exact a.old.subset (List.mem_filter.2 ⟨ht, by simpa using h0⟩)
    · exact List.Nodup.sublist (a.old.map _) n3
    · exact ⟨layOk_of (a.srt t ht) (fun e he => ⟨(a.ok t ht e he).1, before_nil _⟩), a.ne t ht⟩
    · exact Nat.le_trans (List.length_filter_le _ _) hlen
    · omega
  have hR : Rm d (szT T + (20 + 16 * T.length)) (T.length + 2) := by
    obtain ⟨r1, r2⟩ := h.room hn
    have z1 := szT_len (ts := T) (fun t ht e he => (a.ok t ht e he).1)
    have z2 := a.ents
    exact ⟨h.ok, h.stl, by rw [h.qu]; omega, h.our, by omega⟩
  obtain ⟨c1, c2, c3, c4, _, _⟩ := Rm.commit (s := s) log hR (by omega)
  obtain ⟨bs, m, hl, hlen0, hbs⟩ := h.lin
  refine ⟨hR, c1, ?_⟩
  rcases commit_any hl hFit (log := log) (hC.lw.imp id fun e => ⟨e, by omega⟩) with ⟨x, _⟩ | ⟨_, ts1, nx1, g1, g2, g3, g4, g5, g6⟩
  · exact absurd c1 x
  · have hll : ts1.length = T.length := by have := congrArg List.length g2; simpa using this
    have hmem : ∀ x ∈ ts1, ∃ y ∈ T, y.es = x.es := fun x hx => mem_by_map g2 hx
    have hmel : ∀ x ∈ ts1, ∃ y ∈ T, y.level = x.level := fun x hx => mem_by_map g3 hx
    have hV := hC.view
    have hW := hC.snv
    have hnx1 : nx1 ≤ 1 + 111 * (c + 1) := by omega
    by_cases hlg : log = s.log
    · have et : s.turned ts1 nx1 log = { s with tabs := ts1, next := nx1 } := by unfold Ls.turned; rw [if_pos hlg]
      rw [et] at g1 g6
      rw [if_pos hlg, if_pos hlg] at g6
      rw [if_pos hlg] at hX hY htf htl
      simp only [if_pos hlg] at hV hW
      rw [g1]
      refine ⟨⟨⟨bs, m, g6, hlen0, hbs⟩, c2.ok, c2.stl, c3.trans h.qu, h.turn.trans c4.symm, h.pol, h.sn, h.stk, h.mok, h.mop, h.bat, h.rise, fun k => ?_, fun x hx => ?_, fun x hx => ?_, fun x hx => ?_, ?_, ?_, fun x hx => ?_, ?_, h.log, hnx1, h.mbar, fun x hx => ?_, h.lo, h.tkn, fun q hq => ?_⟩, rfl, rfl, hll, (if_pos hlg).symm⟩
      · rw [← hV k]
        have : (Ls.layers { s with tabs := ts1, next := nx1 }).flatten = flatM s.mem ++ (newF T).flatten := by
          rw [← newF_by g2]; simp [Ls.layers]
        rw [this]
      · obtain ⟨y, hy, e⟩ := hmem x hx; rw [← e]; exact a.srt y hy
      · obtain ⟨y, hy, e⟩ := hmem x hx; rw [← e]; exact a.ok y hy
      · obtain ⟨y, hy, e⟩ := hmem x hx; rw [← e]; exact a.ne y hy
      · simp only; rw [g3]; exact a.lv
      · simp only; rw [entsT_by g2]; have := a.ents; omega
      · obtain ⟨y, hy, e⟩ := hmel x hx
        have := a.top y hy
        simp only
        omega
      · simp only; omega
      · obtain ⟨y, hy, e⟩ := hmem x hx; rw [← e]; exact hC.bar y hy
      · obtain ⟨u1, u2, u3⟩ := h.snk q hq
        refine ⟨u1, u2, fun k => ?_⟩
        rw [← u3 k, ← hW q.2.1 (h.inK hq) k]
        have : (Ls.layers { s with tabs := ts1, next := nx1 }).flatten = flatM s.mem ++ (newF T).flatten := by
          rw [← newF_by g2]; simp [Ls.layers]
        rw [this]
    · have et : s.turned ts1 nx1 log = { s with tabs := ts1, next := nx1, mem := [], log := log, len := 0, loose := false } := by unfold Ls.turned; rw [if_neg hlg]
      rw [et] at g1 g6
      rw [if_neg hlg, if_neg hlg] at g6
      rw [if_neg hlg] at hX hY htf htl
      simp only [if_neg hlg, List.nil_append] at hV hW
      rw [g1]
      refine ⟨⟨⟨[], 0, g6, rfl, by simp⟩, c2.ok, c2.stl, c3.trans h.qu, h.turn.trans c4.symm, h.pol, h.sn, h.stk, ⟨List.Pairwise.nil, fun x hx => by cases hx⟩, fun e he => (by simp [flatM] at he), h.bat, h.rise, fun k => ?_, fun x hx => ?_, fun x hx => ?_, fun x hx => ?_, ?_, ?_, fun x hx => ?_, ?_, ?_, hnx1, fun e he => (by simp [flatM] at he), fun x hx => ?_, fun hlo => (by cases hlo), h.tkn, fun q hq => ?_⟩, rfl, rfl, hll, (if_neg hlg).symm⟩
      · rw [← hV k]
        have : (Ls.layers { s with tabs := ts1, next := nx1, mem := [], log := log, len := 0, loose := false }).flatten = (newF T).flatten := by
          rw [← newF_by g2]; simp [Ls.layers, flatM]
        rw [this]
      · obtain ⟨y, hy, e⟩ := hmem x hx; rw [← e]; exact a.srt y hy
      · obtain ⟨y, hy, e⟩ := hmem x hx; rw [← e]; exact a.ok y hy
      · obtain ⟨y, hy, e⟩ := hmem x hx; rw [← e]; exact a.ne y hy
      · simp only; rw [g3]; exact a.lv
      · simp only [flatM, List.flatMap_nil, List.length_nil, Nat.add_zero]; rw [entsT_by g2]; have := a.ents; omega
      · obtain ⟨y, hy, e⟩ := hmel x hx
        have := a.top y hy
        simp only [mz, List.isEmpty_nil, if_true]
        omega
      · simp only [mz, List.isEmpty_nil, if_true]; omega
      · simp only [mz, List.isEmpty_nil, if_true]; omega
      · obtain ⟨y, hy, e⟩ := hmem x hx; rw [← e]; exact hC.bar y hy
      · obtain ⟨u1, u2, u3⟩ := h.snk q hq
        refine ⟨u1, u2, fun k => ?_⟩
        rw [← u3 k, ← hW q.2.1 (h.inK hq) k]
        have : (Ls.layers { s with tabs := ts1, next := nx1, mem := [], log := log, len := 0, loose := false }).flatten = (newF T).flatten := by
          rw [← newF_by g2]; simp [Ls.layers, flatM]
        rw [this]
end Go.Proofs.YtoabedkcieindabGreatDoor

namespace Go.Proofs.YtoabedkcieindabGreatDoor
variable {Q : Sq}
theorem replT_mem {ts : List Tb} {f t : Nat} {b x : Tb} (hx : x ∈ replT ts f t b) : x ∈ ts ∨ (x = b ∧ b.es ≠ []) := by
  unfold replT at hx
  rcases List.mem_append.1 hx with hx | hx
  · exact .inl (List.mem_of_mem_take hx)
  · rcases List.mem_append.1 hx with hx | hx
    · split at hx
      · cases hx
      · rename_i he
        rw [List.mem_singleton] at hx
        exact .inr ⟨hx, fun e => he (by simp [e])⟩
    · exact .inl (List.mem_of_mem_drop hx)
theorem stepT_mem {p : Int} {bs : List Int} {ts : List Tb} {x : Tb} {e : En} (hx : x ∈ stepT p bs ts) (he : e ∈ x.es) : ∃ y ∈ ts, e ∈ y.es := by
  unfold stepT at hx
  simp only at hx
  rcases replT_mem hx with hx | ⟨rfl, _⟩
  · exact ⟨x, hx, he⟩
  · exact mergeT_mem he
theorem shapedX_mem {p : Int} {bs : List Int} : ∀ (n : Nat) {ts : List Tb}, ts.length ≤ n → ∀ {x : Tb} {e : En}, x ∈ shapedX p bs ts → e ∈ x.es → ∃ y ∈ ts, e ∈ y.es := by
  intro n
  induction n with
  | zero =>
    intro ts hn x e hx he
    obtain rfl : ts = [] := by cases ts with | nil => rfl | cons a r => simp at hn
    cases hx
  | succ n ih =>
    intro ts hn x e hx he
    by_cases hc : (crowd p (ts.map (·.level))).2 = 0
    · rw [shapedX_end hc] at hx
      exact ⟨x, hx, he⟩
    · have hl := stepT_len (bs := bs) hc
      rw [shapedX_step hc] at hx
      obtain ⟨y, hy, hye⟩ := ih (by omega) hx he
      exact stepT_mem hy hye
theorem shapedX_len {p : Int} {bs : List Int} : ∀ (n : Nat) {ts : List Tb}, ts.length ≤ n → (shapedX p bs ts).length ≤ ts.length := by
  intro n
  induction n with
  | zero =>
    intro ts hn
    obtain rfl : ts = [] := by cases ts with | nil => rfl | cons a r => simp at hn
    exact Nat.le_refl _
  | succ n ih =>
    intro ts hn
    by_cases hc : (crowd p (ts.map (·.level))).2 = 0
    · rw [shapedX_end hc]; exact Nat.le_refl _
    · have hl := stepT_len (bs := bs) hc
      rw [shapedX_step hc]
      have := ih (ts := stepT p bs ts) (by omega)
      omega
theorem nonR_keep {l : List Nat} (h : nonR l) {f t : Nat} (hf : f < t) (ht : t ≤ l.length) (b : Bool) : nonR (l.take f ++ ((if b then [] else [l.getD f 0]) ++ l.drop t)) := by
  have hA : ∀ y ∈ l.take f, l.getD f 0 ≤ y := fun y hy => by
    obtain ⟨i, a, b, rfl⟩ := mem_take_getD hy
    exact nonR_le h (by omega) (by omega)
  have hB : ∀ y ∈ l.drop t, y ≤ l.getD f 0 := fun y hy => by
    obtain ⟨i, a, b, rfl⟩ := mem_drop_getD hy
    exact nonR_le h (by omega) b
  unfold nonR
  rw [List.pairwise_append, List.pairwise_append]
  refine ⟨List.Pairwise.sublist (List.take_sublist _ _) h, ⟨?_, List.Pairwise.sublist (List.drop_sublist _ _) h, ?_⟩, ?_⟩
  · cases b <;> simp
  · intro x hx y hy
    have := hB y hy
    cases b with
    | true => simp at hx
    | false => simp only [Bool.false_eq_true, if_false, List.mem_singleton] at hx; omega
  · intro x hx y hy
    have := hA x hx
    rcases List.mem_append.1 hy with hy | hy
    · cases b with
      | true => simp at hy
      | false => simp only [Bool.false_eq_true, if_false, List.mem_singleton] at hy; omega
    · have := hB y hy; omega
theorem Stp.repl {O : List Tb} {c : Int} {L M N : Nat} {ts : List Tb} (h : Stp O c L M N ts) {bs : List Int} {f t : Nat} (hft : f < t) (htl : t ≤ ts.length) : Stp O c L M N (replT ts f t ⟨0, (ts.map (·.level)).getD f 0, mergeT bs ts f t⟩) := by
  have hmm : ∀ e ∈ mergeT bs ts f t, opOk e.op = true ∧ e.batch ≤ c := fun e he => by
    obtain ⟨y, hy, hye⟩ := mergeT_mem he
    exact h.ok y hy e hye
  have hms : Go.Proofs.YtoabedkcieindabGreatDoor.srt (mergeT bs ts f t) := mergeT_srt h.srt
  have hfl : ∃ y ∈ ts, y.level = (ts.map (·.level)).getD f 0 := by
    refine ⟨ts[f]'(by omega), List.getElem_mem _, ?_⟩
    simp [List.getD_eq_getElem?_getD, show f < ts.length by omega]
  have hlen : (replT ts f t ⟨0, (ts.map (·.level)).getD f 0, mergeT bs ts f t⟩).length ≤ ts.length := by
    unfold replT
    simp only [List.length_append, List.length_take, List.length_drop]
    split <;> simp <;> omega
  refine ⟨fun x hx => ?_, fun x hx => ?_, fun x hx => ?_, ?_, ?_, ?_, fun x hx => ?_, ?_⟩
  · rcases replT_mem hx with hx | ⟨rfl, _⟩
    · exact h.srt x hx
    · exact hms
  · rcases replT_mem hx with hx | ⟨rfl, _⟩
    · exact h.ok x hx
    · exact hmm
  · rcases replT_mem hx with hx | ⟨rfl, hn⟩
    · exact h.ne x hx
    · exact hn
  · have := nonR_keep h.lv (f := f) (t := t) hft (by rw [List.length_map]; exact htl) (mergeT bs ts f t).isEmpty
    unfold replT
    rw [List.map_append, List.map_append, List.map_take, List.map_drop]
    revert this
    cases (mergeT bs ts f t).isEmpty <;> exact fun h => h
  · refine List.Sublist.trans ?_ h.old
    have hs : (ts.take f ++ ts.drop t).Sublist ts := by
      conv => rhs; rw [split3 ts (show f ≤ t by omega)]
      exact List.Sublist.append (List.Sublist.refl _) (List.sublist_append_right _ _)
    have e : (replT ts f t ⟨0, (ts.map (·.level)).getD f 0, mergeT bs ts f t⟩).filter (fun t => decide (0 < t.number)) = (ts.take f ++ ts.drop t).filter (fun t => decide (0 < t.number)) := by
      unfold replT
      simp only [List.filter_append]
      congr 1
      split <;> simp
    rw [e]
    exact hs.filter _
  · have := h.len; omega
  · rcases replT_mem hx with hx | ⟨rfl, _⟩
    · have := h.top x hx; omega
    · obtain ⟨y, hy, ey⟩ := hfl
      have := h.top y hy
      simp only
      omega
  · exact Nat.le_trans (replT_ents bs ts f t 0 _ (by omega)) h.ents
theorem Lsu.stp0 {d : Dk} {s : Ls} {M : Mp} {n c : Nat} (h : Lsu d s M n c Q) : Stp s.tabs s.batch (s.tabs.length + 1) (n - mz s.mem) (n - (flatM s.mem).length) s.tabs :=
  ⟨h.srt, h.tok, h.ne, h.lv, List.filter_sublist, by omega, fun x hx => by have := h.lev x hx; omega, by have := h.ents; omega⟩
theorem Lsu.lay {s : Ls} : s.layers.flatten = flatM s.mem ++ (newF s.tabs).flatten := by simp [Ls.layers]
theorem Lsu.shape {d : Dk} {s : Ls} {M : Mp} {n c : Nat} (h : Lsu d s M n c Q) : Cmt s M n (shapedX s.policy s.kept s.tabs) s.log := by
  obtain ⟨a, b, e⟩ := h.stp0.shaped (p := s.policy) (bs := s.kept) _ (Nat.le_refl _)
  have hl := shapedX_len (p := s.policy) (bs := s.kept) _ (Nat.le_refl s.tabs.length)
  have hf := h.few
  have he := h.ents
  refine ⟨.inl rfl, ⟨_, _, a, by rw [if_pos rfl]; omega, by rw [if_pos rfl]; omega⟩, by rw [if_pos rfl]; omega, by rw [if_pos rfl]; exact h.log, fun x hx e he => ?_, fun k => ?_, fun b hb k => ?_⟩
  · obtain ⟨y, hy, hye⟩ := shapedX_mem _ (Nat.le_refl _) hx he
    exact h.tbar y hy e hye
  · rw [if_pos rfl, ← h.view k, Lsu.lay]
    exact view_pre _ (e k)
  · rw [if_pos rfl, Lsu.lay]
    exact view_pre _ (h.stp0.shapedB hb _ (Nat.le_refl _) k)
theorem Lsu.stpF {d : Dk} {s : Ls} {M : Mp} {n c : Nat} (h : Lsu d s M n c Q) (hm : s.mem ≠ []) :
    Stp s.tabs s.batch (s.tabs.length + 1) n n (tabF0 s) ∧ (∀ k, viewE s.batch (newF (tabF0 s)).flatten k = getF k M) ∧ (∀ x ∈ tabF0 s, ∀ e ∈ x.es, bareE e) ∧ ∀ b ∈ s.kept, ∀ k, viewE b (newF (tabF0 s)).flatten k = viewE b s.layers.flatten k := by
  have hmz := mz_one hm
  have hsl : ∀ l ∈ [flatM s.mem], Go.Proofs.YtoabedkcieindabGreatDoor.srt l := by intro l hl; rw [List.mem_singleton] at hl; subst hl; exact srt_flat h.mok
  have hms := mergeL_srt hsl
  have hes : Go.Proofs.YtoabedkcieindabGreatDoor.srt (esF s) := (needF_is _ _ _ _ (Nat.le_refl _) hms).1
  have hem : ∀ e ∈ esF s, e ∈ flatM s.mem := fun e he => by
    have := mergeL_mem hsl e ((needF_is _ _ _ _ (Nat.le_refl _) hms).2.2 e he)
    simpa using this
  have hel : (esF s).length ≤ (flatM s.mem).length := by
    refine Nat.le_trans (needL_len _ _ _) (Nat.le_trans (mergeF_len _ _) ?_)
    simp
  have hf1 := h.few
  have hf2 := h.ents
  have each : ∀ x ∈ tabF0 s, x ∈ s.tabs ∨ (x = ⟨0, 0, esF s⟩ ∧ esF s ≠ []) := fun x hx => by
    rw [tabF0_is] at hx
    rcases List.mem_append.1 hx with hx | hx
    · exact .inl hx
    · split at hx
      · cases hx
      · rename_i hn
        rw [List.mem_singleton] at hx
        exact .inr ⟨hx, fun e => hn (by simp [e])⟩
  have hlen : (tabF0 s).length ≤ s.tabs.length + 1 := by rw [tabF0_is]; split <;> simp
  have hvG : ∀ b, (b ∈ s.kept ∨ ∀ e ∈ mergeL [flatM s.mem], e.batch ≤ b) → ∀ k, viewE b (newF (tabF0 s)).flatten k = viewE b s.layers.flatten k := fun b hb k => by
    have e1 : (newF (tabF0 s)).flatten = esF s ++ (newF s.tabs).flatten := by
      rw [tabF0_is, newF_app, List.flatten_append, newF_opt ⟨0, 0, esF s⟩]
    rw [e1, Lsu.lay]
    unfold esF
    rw [view_need hms hb (fun hl => ?_) k, view_merge hsl]
    · simp
    · have : s.tabs = [] := by simpa using hl
      rw [this]; rfl
  refine ⟨⟨fun x hx => ?_, fun x hx => ?_, fun x hx => ?_, ?_, ?_, hlen, fun x hx => ?_, ?_⟩, fun k => ?_, fun x hx => ?_, fun b hb k => ?_⟩
  · rcases each x hx with hx | ⟨rfl, _⟩
    · exact h.srt x hx
    · exact hes
  · rcases each x hx with hx | ⟨rfl, _⟩
    · exact h.tok x hx
    · exact fun e he => h.mop e (hem e he)
  · rcases each x hx with hx | ⟨rfl, hn⟩
    · exact h.ne x hx
    · exact hn
  · rw [tabF0_is, List.map_append]
    unfold nonR
    rw [List.pairwise_append]
    refine ⟨h.lv, by split <;> simp, fun a _ b hb => ?_⟩
    split at hb
    · cases hb
    · simp at hb; omega
  · rw [tabF0_is, List.filter_append]
    have : (if (esF s).isEmpty then [] else [(⟨0, 0, esF s⟩ : Tb)]).filter (fun t => decide (0 < t.number)) = [] := by split <;> simp
    rw [this, List.append_nil]
    exact List.filter_sublist
  · rcases each x hx with hx | ⟨rfl, _⟩
    · have := h.lev x hx; omega
    · simp only; omega
  · rw [tabF0_is, entsT_app]
    have : entsT (if (esF s).isEmpty then [] else [⟨0, 0, esF s⟩]) ≤ (esF s).length := by split <;> simp [entsT]
    omega
  · exact (hvG s.batch (.inr fun e he => (h.mop e (by simpa using mergeL_mem hsl e he)).2) k).trans (h.view k)
  · rcases each x hx with hx | ⟨rfl, _⟩
    · exact h.tbar x hx
    · exact fun e he => h.mbar e (hem e he)
  · exact hvG b (.inl hb) k
theorem Lsu.flushC {d : Dk} {s : Ls} {M : Mp} {n c : Nat} (h : Lsu d s M n c Q) (hm : s.mem ≠ []) : Cmt s M n (shapedX s.policy s.kept (tabF0 s)) (s.log + 1) := by
  obtain ⟨hs, hv, hb, hsv⟩ := h.stpF hm
  obtain ⟨a, b, e⟩ := hs.shaped (p := s.policy) (bs := s.kept) _ (Nat.le_refl _)
  have hl := shapedX_len (p := s.policy) (bs := s.kept) _ (Nat.le_refl (tabF0 s).length)
  have hl2 := hs.len
  have hf := h.few
  have hlg := h.log
  rw [mz_one hm] at hf hlg
  have hne : ¬ (s.log + 1 = s.log) := by omega
  refine ⟨.inr rfl, ⟨_, _, a, by rw [if_neg hne]; omega, by rw [if_neg hne]; omega⟩, by rw [if_neg hne]; omega, by rw [if_neg hne]; omega, fun x hx e he => ?_, fun k => ?_, fun b hb k => ?_⟩
  · obtain ⟨y, hy, hye⟩ := shapedX_mem _ (Nat.le_refl _) hx he
    exact hb y hy e hye
  · rw [if_neg hne, List.nil_append]
    exact (e k).trans (hv k)
  · rw [if_neg hne, List.nil_append]
    exact (hs.shapedB hb _ (Nat.le_refl _) k).trans (hsv b hb k)
theorem Lsu.mergeC {d : Dk} {s : Ls} {M : Mp} {n c : Nat} (h : Lsu d s M n c Q) {f t : Nat} (hft : f < t) (htl : t ≤ s.tabs.length) : Cmt s M n (replT s.tabs f t ⟨0, (s.tabs.map (·.level)).getD f 0, mergeT s.kept s.tabs f t⟩) s.log := by
  have a := h.stp0.repl (bs := s.kept) hft htl
  have hl : (replT s.tabs f t ⟨0, (s.tabs.map (·.level)).getD f 0, mergeT s.kept s.tabs f t⟩).length ≤ s.tabs.length := by
    unfold replT
    simp only [List.length_append, List.length_take, List.length_drop]
    split <;> simp <;> omega
  have hf := h.few
  have he := h.ents
  refine ⟨.inl rfl, ⟨_, _, a, by rw [if_pos rfl]; omega, by rw [if_pos rfl]; omega⟩, by rw [if_pos rfl]; omega, by rw [if_pos rfl]; exact h.log, fun x hx e he => ?_, fun k => ?_, fun b hb k => ?_⟩
  · rcases replT_mem hx with hx | ⟨rfl, _⟩
    · exact h.tbar x hx e he
    · obtain ⟨y, hy, hye⟩ := mergeT_mem he
      exact h.tbar y hy e hye
  · rw [if_pos rfl, ← h.view k, Lsu.lay]
    exact view_pre _ (view_repl (by omega) h.srt (.inr fun x hx e he => (h.tok x hx e he).2) k)
  · rw [if_pos rfl, Lsu.lay]
    exact view_pre _ (view_repl (by omega) h.srt (.inl hb) k)
end Go.Proofs.YtoabedkcieindabGreatDoor

namespace Go.Proofs.YtoabedkcieindabGreatDoor
variable {Q : Sq}
theorem Lsu.lsrt {d : Dk} {s : Ls} {M : Mp} {n c : Nat} (h : Lsu d s M n c Q) : ∀ l ∈ s.layers, Go.Proofs.YtoabedkcieindabGreatDoor.srt l := fun l hl => by
  unfold Ls.layers at hl
  rcases List.mem_cons.1 hl with rfl | hl
  · exact srt_flat h.mok
  · exact newF_srt h.srt l hl
theorem Lsu.lok {d : Dk} {s : Ls} {M : Mp} {n c : Nat} (h : Lsu d s M n c Q) : ∀ e ∈ s.layers.flatten, opOk e.op = true ∧ e.batch ≤ s.batch ∧ bareE e := fun e he => by
  rw [Lsu.lay] at he
  rcases List.mem_append.1 he with he | he
  · exact ⟨(h.mop e he).1, (h.mop e he).2, h.mbar e he⟩
  · obtain ⟨x, hx, hxe⟩ := newF_mem he
    exact ⟨(h.tok x hx e hxe).1, (h.tok x hx e hxe).2, h.tbar x hx e hxe⟩
theorem Lsu.laylen {d : Dk} {s : Ls} {M : Mp} {n c : Nat} (h : Lsu d s M n c Q) : s.layers.flatten.length ≤ n := by
  rw [Lsu.lay, List.length_append, newF_len]
  have := h.ents
  omega
theorem bareE_bare (o : Ox) (n : Int) : bareE ⟨bare o, n⟩ := fun h => by
  unfold bare at h ⊢
  cases hg : o.gone
  · simp [hg] at h
  · simp
theorem Lsu.append {d : Dk} {s : Ls} {M : Mp} {n c : Nat} (h : Lsu d s M n c Q) {l : List Ox} (hb : batchOk l = true) (hn : n + l.length ≤ 110) :
    (d.write (lgN s.log) (encode l)).1 = 0 ∧ Lsu (d.write (lgN s.log) (encode l)).2 (withB s l) (doAll M l) (n + l.length) c Q := by
  obtain ⟨bs, m, hl, hlen, hbs⟩ := h.lin
  obtain ⟨r1, r2⟩ := h.room (by omega)
  obtain ⟨⟨b1, b2⟩, b3⟩ := batchOk_iff.1 hb
  have he := encode_len l
  have hbl := (body_len hb).2
  have hfew := h.few
  have hm3 := hl.dur.says.ok.2.2.1
  simp only [manOf] at hm3
  obtain ⟨w1, w2, w3, w4, _⟩ := Rm.write (d := d) (b := 0) (c := 0) (n := lgN s.log) (t := encode l) ⟨h.ok, h.stl, by rw [h.qu]; omega, h.our, by omega⟩ (lgN_ok _) (.inr (.inr ⟨s.log, by omega, .inl rfl⟩))
  have hL : Lin (d.write (lgN s.log) (encode l)).2 s (bs ++ [l]) m := by
    rcases hl.append hb with ⟨_, x⟩ | ⟨x, _⟩
    · exact x
    · exact absurd w1 x
  have hv0 : ∀ k, viewE (s.batch + 1) (flatM s.mem ++ (newF s.tabs).flatten) k = getF k M := fun k => by
    rw [← h.view k, Lsu.lay]
    refine view_up (fun e he => ?_) (by omega) k
    rcases List.mem_append.1 he with he | he
    · exact (h.mop e he).2
    · obtain ⟨x, hx, hxe⟩ := newF_mem he
      exact (h.tok x hx e hxe).2
  obtain ⟨v1, v2, v3, v4⟩ := view_do (n := s.batch + 1) (last := s.lastSnap) (newF s.tabs).flatten l s.mem M h.mok (fun o ho => opOk_ne (b3 o ho)) h.rise hv0
  have hne : doM (s.batch + 1) s.lastSnap s.mem l ≠ [] := doM_ne (.inl (by intro e; rw [e] at b1; simp at b1))
  have hmz : mz (withB s l).mem = 1 := mz_one hne
  have hfl := flat_doM (s.batch + 1) s.lastSnap l s.mem
  have hents := h.ents
  have hbat := h.bat
  refine ⟨w1, ⟨⟨bs ++ [l], m, ⟨hL.dur, hL.cln, hL.rise⟩, ?_, ?_⟩, w2.ok, w2.stl, w3.trans h.qu, h.turn.trans w4.symm, h.pol, h.sn, h.stk, v1, fun e he => ?_, ⟨?_, ?_⟩, v2, fun k => ?_, h.srt, fun x hx e he => ?_, h.ne, h.lv, ?_, fun x hx => ?_, ?_, ?_, h.next, fun e he => ?_, h.tbar, fun _ => ?_, h.tkn, fun q hq => ?_⟩⟩
  · show s.len + (encode l).length = _
    rw [hlen, logOf_append, logOf_one, List.length_append]
  · simp only [List.flatten_append, List.length_append, List.flatten_cons, List.flatten_nil, List.append_nil]; omega
  · rcases doM_mem he with ⟨o, ho, rfl⟩ | he
    · exact ⟨opOk_bare (b3 o ho), Int.le_refl _⟩
    · have := h.mop e he
      exact ⟨this.1, by show e.batch ≤ s.batch + 1; omega⟩
  · show (0 : Int) ≤ s.batch + 1; omega
  · show s.batch + 1 ≤ ((n + l.length : Nat) : Int); omega
  · rw [← v3 k]
    have e : (withB s l).layers.flatten = flatM (doM (s.batch + 1) s.lastSnap s.mem l) ++ (newF s.tabs).flatten := by simp [Ls.layers, withB]
    rw [e]; rfl
  · have := h.tok x hx e he
    exact ⟨this.1, by show e.batch ≤ s.batch + 1; omega⟩
  · show entsT s.tabs + (flatM (doM (s.batch + 1) s.lastSnap s.mem l)).length ≤ _; omega
  · rw [hmz]
    have := h.lev x hx
    show x.level + s.tabs.length + 1 ≤ _
    omega
  · rw [hmz]; show s.tabs.length + 1 ≤ _; omega
  · rw [hmz]
    have := h.log
    show s.log + 1 ≤ _; omega
  · rcases doM_mem he with ⟨o, ho, rfl⟩ | he
    · exact bareE_bare o _
    · exact h.mbar e he
  · show 0 < s.len + (encode l).length; omega
  · obtain ⟨⟨u0, u1, u2⟩, u3, u4⟩ := h.snk q hq
    refine ⟨⟨u0, by show _ ≤ s.batch + 1; omega, u2⟩, u3, fun k => ?_⟩
    have hlt : s.lastSnap < s.batch + 1 := by
      have := s.lastSnap_le (c := s.batch) (fun b hb => (h.ofK hb).2) (by omega)
      omega
    have e : (withB s l).layers.flatten = flatM (doM (s.batch + 1) s.lastSnap s.mem l) ++ (newF s.tabs).flatten := by simp [Ls.layers, withB]
    rw [e, v4 hlt q.2.1 (s.le_lastSnap (h.inK hq)) k, ← u4 k, Lsu.lay]
theorem Lsu.settle {d : Dk} {s : Ls} {M : Mp} {n c : Nat} (h : Lsu d s M n c Q) (hn : n ≤ 110) (hc : c ≤ 1000000000) : (settleX d s s.tabs s.log).1 = 0 ∧ Lsu (settleX d s s.tabs s.log).2.1 (settleX d s s.tabs s.log).2.2 M n (c + 1) Q := by
  obtain ⟨_, c1, c2, _⟩ := h.commit hn hc h.shape
  unfold settleX
  simp only
  split
  · exact ⟨rfl, h.up (by omega)⟩
  · rw [if_neg (by rw [c1]; simp)]
    exact ⟨c1, c2⟩
theorem Lsu.flush {d : Dk} {s : Ls} {M : Mp} {n c : Nat} (h : Lsu d s M n c Q) (hn : n ≤ 110) (hc : c ≤ 1000000000) : (flushX d s).1 = 0 ∧ Lsu (flushX d s).2.1 (flushX d s).2.2 M n (c + 1) Q := by
  by_cases hm : s.mem = []
  · have e : flushX d s = settleX d s s.tabs s.log := by unfold flushX; rw [if_pos (by simp [hm])]
    rw [e]
    exact h.settle hn hc
  · obtain ⟨_, c1, c2, _⟩ := h.commit hn hc (h.flushC hm)
    have e : flushX d s = commitX d s (shapedX s.policy s.kept (tabF0 s)) (s.log + 1) := by
      unfold flushX
      rw [if_neg (by simpa using hm)]
      simp only
      have e1 : (if (needL s.kept s.tabs.isEmpty (mergeL [flatM s.mem])).isEmpty then s.tabs else s.tabs ++ [⟨0, 0, needL s.kept s.tabs.isEmpty (mergeL [flatM s.mem])⟩]) = tabF0 s := rfl
      rw [e1]
      unfold settleX
      simp only
      rw [if_neg (by omega), if_neg (by rw [c1]; simp)]
    rw [e]
    exact ⟨c1, c2⟩
theorem Lsu.tend {d : Dk} {s : Ls} {M : Mp} {n c : Nat} (h : Lsu d s M n c Q) (hn : n ≤ 110) (hc : c ≤ 1000000000) : (tendX d s).1 = 0 ∧ Lsu (tendX d s).2.1 (tendX d s).2.2 M n (c + 1) Q := by
  unfold tendX
  simp only
  split
  · obtain ⟨a, b⟩ := h.flush hn hc
    rw [if_neg (by rw [a]; simp)]
    exact ⟨a, b⟩
  · obtain ⟨a, b⟩ := h.settle hn hc
    rw [if_neg (by rw [a]; simp)]
    exact ⟨a, b⟩
theorem Lsu.ready {d : Dk} {s : Ls} {M : Mp} {n c : Nat} (h : Lsu d s M n c Q) : s.readyX d = 0 := by
  unfold Ls.readyX
  rw [if_neg (by simp [h.turn]), if_neg (by rw [h.stl.al]; simp)]
theorem Lsu.writ {d : Dk} {s : Ls} {M : Mp} {n c : Nat} (h : Lsu d s M n c Q) : s.writX d = 0 := by
  unfold Ls.writX
  rw [h.ready, h.stk]; simp
end Go.Proofs.YtoabedkcieindabGreatDoor
