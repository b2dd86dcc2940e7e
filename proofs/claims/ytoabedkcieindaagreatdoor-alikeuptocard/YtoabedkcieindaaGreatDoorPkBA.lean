import Derived.Test.YtoabedkcieindaaGreatDoorPkAZ
import Derived.ProofKit
import Derived.OpenShut
import Derived.JoinedCond
import Derived.Deep.Slices
import Derived.Test.YtoabedkcieindaaGreatDoorPkAV
namespace Go.Proofs.YtoabedkcieindaaGreatDoor
open Go.ChangeShapes Go.WideShapes Go.ChangeAt Go.RowKit
theorem Tryz.cellsk77 : Tryz.prog.cellsOf 77 = 3 := by kernel_rfl
theorem Tryz.cellsk63 : Tryz.prog.cellsOf 63 = 4 := by kernel_rfl
theorem Tryz.cellsk3 : Tryz.prog.cellsOf 3 = 1 := by kernel_rfl
theorem Tryz.cellsk4 : Tryz.prog.cellsOf 4 = 1 := by kernel_rfl
theorem Tryz.cellsk9 : Tryz.prog.cellsOf 9 = 1 := by kernel_rfl
theorem Tryz.cellsk60 : Tryz.prog.cellsOf 60 = 1 := by kernel_rfl
theorem Tryz.laidOutK : laidOutB Tryz.prog = true := by kernel_rfl
theorem Tryz.ownK : ownKnob Tryz.prog.godebug = none := by kernel_rfl
section
variable {H : Type} {enc : TypeId × Value → H}
set_option maxRecDepth 20000 in
theorem ox_open {W : World} {a' : Addr} {n : Nat} {cs : List Value} {d : DataW H} {pl : List MemPlace} (hc : W.cells? 0 a' 3 = some cs) (h : DataW.trod enc Tryz.prog W 0 (fun _ => true) true n 77 cs = some (d, pl)) :
    ∃ o : Ox, (W.cell? (a'.add 0) = some (str o.key) ∧ W.cell? (a'.add 1) = some (str o.val) ∧ W.cell? (a'.add 2) = some (.bool o.gone)) ∧ (o.key.length ≤ 9223372036854775807 ∧ o.val.length ≤ 9223372036854775807) := by
  obtain ⟨xs, n', rfl, _, hcl, hxl, hf⟩ := DataW.trod_struct Tryz.underlying77 h
  obtain ⟨_, _, hcell⟩ := World.cells?_some hc
  rw [Tryz.cellsk77] at hcl
  match cs, hcl, hcell with
  | [c0, c1, c2], _, hcell =>
    match xs, hxl with
    | [x0, x1, x2], _ =>
      have f0 : DataW.trod enc Tryz.prog W 0 (fun _ => true) true n' 9 (([c0, c1, c2].drop 0).take (Tryz.prog.cellsOf 9)) = some x0 := hf 0 _ rfl
      rw [Tryz.cellsk9] at f0
      replace f0 : DataW.trod enc Tryz.prog W 0 (fun _ => true) true n' 9 [c0] = some x0 := f0
      have f1 : DataW.trod enc Tryz.prog W 0 (fun _ => true) true n' 9 (([c0, c1, c2].drop 1).take (Tryz.prog.cellsOf 9)) = some x1 := hf 1 _ rfl
      rw [Tryz.cellsk9] at f1
      replace f1 : DataW.trod enc Tryz.prog W 0 (fun _ => true) true n' 9 [c1] = some x1 := f1
      have f2 : DataW.trod enc Tryz.prog W 0 (fun _ => true) true n' 4 (([c0, c1, c2].drop 2).take (Tryz.prog.cellsOf 4)) = some x2 := hf 2 _ rfl
      rw [Tryz.cellsk4] at f2
      replace f2 : DataW.trod enc Tryz.prog W 0 (fun _ => true) true n' 4 [c2] = some x2 := f2
      obtain ⟨s, e0, _, y0⟩ := DataW.trod_string Tryz.underlying9 f0
      obtain ⟨t, e1, _, y1⟩ := DataW.trod_string Tryz.underlying9 f1
      obtain ⟨b, e2, _⟩ := DataW.trod_bool Tryz.underlying4 f2
      simp only [List.cons.injEq, and_true] at e0 e1 e2
      subst e0 e1 e2
      refine ⟨⟨s.data.toList, t.data.toList, b⟩, ⟨?_, ?_, ?_⟩, ?_⟩
      · rw [hcell 0 (by omega)]; rfl
      · rw [hcell 1 (by omega)]; rfl
      · rw [hcell 2 (by omega)]; rfl
      · have l1 : s.data.toList.length = s.size := Array.length_toList
        have l2 : t.data.toList.length = t.size := Array.length_toList
        unfold maxLen at y0 y1
        exact ⟨by simp only [l1]; omega, by simp only [l2]; omega⟩
def Ox.nul : Ox := ⟨[], [], false⟩
def DoV.nul : DoV := ⟨0, 0, 0, none, 0, []⟩
theorem ops_open {W : World} {n : Nat} {c : Value} {x : DataW H × List MemPlace} (h : DataW.trod enc Tryz.prog W 0 (fun _ => true) true n 60 [c] = some x) :
    ∃ q qc ops, c = .slice q (ops : List Ox).length qc ∧ (ops.length ≤ 9223372036854775807 ∧ OxBig ops) ∧ Opp W q ops ∧ ∀ a, q = some a → 0 < ops.length → a.block < W.heap.size := by
  rcases Deep.open_slice Tryz.underlying60 h with ⟨hcs, hx⟩ | ⟨a, len, cap, m, n', D, Pl, hcs, _, hl, hm, hmm, hx, hel⟩
  · simp at hcs
    subst hcs
    exact ⟨none, 0, [], rfl, ⟨Nat.zero_le _, fun o ho => by cases ho⟩, fun i hi => absurd hi (Nat.not_lt_zero _), fun a ha => by cases ha⟩
  · simp at hcs
    subst hcs
    simp only [if_true] at hmm
    have hop : ∀ i, i < len → ∃ o : Ox, (W.cell? ((a.add (i * 3)).add 0) = some (str o.key) ∧ W.cell? ((a.add (i * 3)).add 1) = some (str o.val) ∧ W.cell? ((a.add (i * 3)).add 2) = some (.bool o.gone)) ∧ (o.key.length ≤ 9223372036854775807 ∧ o.val.length ≤ 9223372036854775807) := fun i hi => by
      obtain ⟨cs', hc, ht⟩ := hel i (by omega)
      rw [Tryz.cellsk77] at hc
      exact ox_open hc ht
    obtain ⟨f, hf⟩ := @Deep.choose_lt Ox ⟨Ox.nul⟩ _ _ hop
    have hsp : 0 < len → a.spot = none ∧ a.block < W.heap.size := fun h0 => by
      have hc0 := (hf 0 h0).1.1
      have e0 : (a.add (0 * 3)).add 0 = a := by simp [Addr.add]
      rw [e0] at hc0
      exact ⟨World.cell?_spot hc0, World.block_lt_of_cell? W a hc0⟩
    refine ⟨some a, cap, (List.range len).map f, by simp, ⟨?_, fun o ho => ?_⟩, fun i hi => ?_, fun b hb h0 => ?_⟩
    · unfold maxLen at hm
      simp
      omega
    · obtain ⟨i, hi, rfl⟩ := List.mem_map.1 ho
      exact (hf i (List.mem_range.1 hi)).2
    · have hi' : i < len := by simpa using hi
      obtain ⟨h1, h2⟩ := hsp (by omega)
      obtain ⟨g, off, sp⟩ := a
      simp only at h1
      subst h1
      simp only [List.getElem_map, List.getElem_range]
      obtain ⟨k0, k1, k2⟩ := (hf i hi').1
      rw [Deep.add_add, Addr.add_lit] at k0 k1 k2
      exact ⟨g, off, rfl, by simpa using k0, by rw [Nat.add_assoc]; exact k1, by rw [Nat.add_assoc]; exact k2⟩
    · cases hb
      exact (hsp (by simpa using h0)).2
theorem int_open {W : World} {k : Int} {d : DataW H} {ps : List MemPlace} (h : DataW.Trod enc Tryz.prog W 0 (fun _ => true) true 3 (.int .i64 k) d ps) : -9223372036854775808 ≤ k ∧ k ≤ 9223372036854775807 := by
  obtain ⟨fuel, hf⟩ := h
  obtain ⟨n, e, _, hw⟩ := DataW.trod_int Tryz.underlying3 hf
  simp [Value.cells] at e
  subst e
  exact bounds_i64 hw
end
end Go.Proofs.YtoabedkcieindaaGreatDoor

namespace Go.Proofs.YtoabedkcieindaaGreatDoor
def bareE (e : En) : Prop := e.op.gone = true → e.op.val = []
structure Lsu (d : Dk) (s : Ls) (M : Mp) (n c : Nat) : Prop where
  lin : ∃ bs m, Lin d s bs m ∧ s.len = (logOf bs).length ∧ bs.flatten.length ≤ n
  ok : d.Ok
  stl : Stl d
  qu : d.quota = 1048576
  turn : s.turn = d.turn
  pol : 0 ≤ s.policy ∧ s.policy ≤ 2
  sn : s.snaps = []
  stk : s.stuck = false
  mok : MmOk s.mem
  mop : ∀ e ∈ flatM s.mem, opOk e.op = true ∧ e.batch ≤ s.batch
  bat : 0 ≤ s.batch ∧ s.batch ≤ n
  rise : rising M
  view : ∀ k, viewE s.batch s.layers.flatten k = getF k M
  srt : ∀ x ∈ s.tabs, srt x.es
  tok : ∀ x ∈ s.tabs, ∀ e ∈ x.es, opOk e.op = true ∧ e.batch ≤ s.batch
  ne : ∀ x ∈ s.tabs, x.es ≠ []
  lv : nonR (s.tabs.map (·.level))
  ents : entsT s.tabs + (flatM s.mem).length ≤ n
  lev : ∀ x ∈ s.tabs, x.level + s.tabs.length + mz s.mem ≤ n
  few : s.tabs.length + mz s.mem ≤ n
  log : s.log + mz s.mem ≤ n
  next : s.next ≤ 1 + 111 * c
  mbar : ∀ e ∈ flatM s.mem, bareE e
  tbar : ∀ x ∈ s.tabs, ∀ e ∈ x.es, bareE e
  lo : s.loose = true → 0 < s.len
theorem Lsu.up {d : Dk} {s : Ls} {M : Mp} {n c c' : Nat} (h : Lsu d s M n c) (hc : c ≤ c') : Lsu d s M n c' := { h with next := Nat.le_trans h.next (by omega) }
theorem Lsu.num {d : Dk} {s : Ls} {M : Mp} {n c : Nat} (h : Lsu d s M n c) : 1 ≤ s.next ∧ (∀ x ∈ s.tabs, 1 ≤ x.number ∧ x.number < s.next) ∧ (s.tabs.map (·.number)).Nodup := by
  obtain ⟨bs, m, hl, _⟩ := h.lin
  obtain ⟨h1, h2, h3, h4, h5⟩ := hl.dur.says.ok
  simp only [manOf] at h1 h4 h5
  refine ⟨h1, ?_, by simpa [Function.comp_def] using h5⟩
  have : ∀ (l : List Pl) (lv : Nat), plsOk s.next lv l = true → ∀ p ∈ l, 1 ≤ p.number ∧ p.number < s.next := by
    intro l
    induction l with
    | nil => intro _ _ p hp; cases hp
    | cons q r ih =>
      intro lv hq p hp
      simp only [plsOk, Bool.and_eq_true, decide_eq_true_eq] at hq
      rcases List.mem_cons.1 hp with rfl | hp
      · exact ⟨hq.1.1.1, hq.1.1.2⟩
      · exact ih _ hq.2 p hp
  exact fun x hx => this _ _ h4 ⟨x.number, x.level⟩ (List.mem_map.2 ⟨x, hx, rfl⟩)
theorem Lsu.kept {d : Dk} {s : Ls} {M : Mp} {n c : Nat} (h : Lsu d s M n c) : s.kept = [] := by unfold Ls.kept; rw [h.sn]; rfl
theorem Lsu.snap {d : Dk} {s : Ls} {M : Mp} {n c : Nat} (h : Lsu d s M n c) : s.lastSnap = -1 := by unfold Ls.lastSnap; rw [h.sn]; rfl
theorem Lsu.our {d : Dk} {s : Ls} {M : Mp} {n c : Nat} (h : Lsu d s M n c) : ∀ x ∈ d.files, Our x.1 := fun x hx => by
  obtain ⟨bs, m, hl, _⟩ := h.lin
  obtain ⟨h1, h2, h3, h4, h5⟩ := hl.dur.says.ok
  simp only [manOf] at h2 h3
  have := needs_mem (hl.cln h.stl.al x hx)
  unfold needN at this
  simp only [List.mem_cons, List.mem_map] at this
  rcases this with e | e | ⟨t, ht, e⟩
  · exact .inl e
  · exact .inr (.inr ⟨s.log, by omega, .inl e⟩)
  · have := (h.num.2.1 t ht).2
    exact .inr (.inr ⟨t.number, by omega, .inr e.symm⟩)
theorem Lsu.room {d : Dk} {s : Ls} {M : Mp} {n c : Nat} (h : Lsu d s M n c) (hn : n ≤ 110) : used d.files ≤ 25000 ∧ d.files.length ≤ 2 + s.tabs.length := by
  obtain ⟨bs, m, hl, _, hb⟩ := h.lin
  have h1 := hl.used h.stl.al
  have h2 := szT_len (ts := s.tabs) (fun t ht e he => (h.tok t ht e he).1)
  have h3 := logOf_len (bs := bs) hl.dur.says.bok
  have h4 := h.ents
  have h5 := h.few
  refine ⟨?_, hl.count h.stl.al⟩
  omega
theorem mz_one {m : Mm} (h : m ≠ []) : mz m = 1 := by unfold mz; cases hh : m with | nil => exact absurd hh h | cons a r => rfl
structure Cmt (s : Ls) (M : Mp) (n : Nat) (T : List Tb) (log : Nat) : Prop where
  lw : log = s.log ∨ log = s.log + 1
  stp : ∃ X Y, Stp s.tabs s.batch (s.tabs.length + 1) X Y T ∧ X + (if log = s.log then mz s.mem else 0) ≤ n ∧ Y + (if log = s.log then (flatM s.mem).length else 0) ≤ n
  few : T.length + (if log = s.log then mz s.mem else 0) ≤ n
  lg : log + (if log = s.log then mz s.mem else 0) ≤ n
  bar : ∀ x ∈ T, ∀ e ∈ x.es, bareE e
  view : ∀ k, viewE s.batch ((if log = s.log then flatM s.mem else []) ++ (newF T).flatten) k = getF k M
theorem Lsu.commit {d : Dk} {s : Ls} {M : Mp} {n c : Nat} (h : Lsu d s M n c) (hn : n ≤ 110) (hc : c ≤ 1000000000) {T : List Tb} {log : Nat} (hC : Cmt s M n T log) :
    Rm d (szT T + (20 + 16 * T.length)) (T.length + 2) ∧ (commitX d s T log).1 = 0 ∧ Lsu (commitX d s T log).2.1 (commitX d s T log).2.2 M n (c + 1) ∧ (commitX d s T log).2.2.policy = s.policy ∧ (commitX d s T log).2.2.batch = s.batch := by
  obtain ⟨X, Y, a, hX, hY⟩ := hC.stp
  obtain ⟨n1, n2, n3⟩ := h.num
  have hf := h.few
  have hnx := h.next
  have hlen := a.len
  have htf := hC.few
  have htl := hC.lg
  have hslog := h.log
  have hFit : Fits s T := by
    refine ⟨a.lv, fun t ht => ?_, fun t ht h0 => ?_, ?_, fun t ht => ?_, ?_, ?_⟩
    · have := a.top t ht; omega
    · exact a.old.subset (List.mem_filter.2 ⟨ht, by simpa using h0⟩)
    · exact List.Nodup.sublist (a.old.map _) n3
    · exact ⟨layOk_of (a.srt t ht) (fun e he => ⟨(a.ok t ht e he).1, before_nil _⟩), a.ne t ht⟩
    · exact Nat.le_trans (List.length_filter_le _ _) hlen
    · omega
  have hR : Rm d (szT T + (20 + 16 * T.length)) (T.length + 2) := by
    obtain ⟨r1, r2⟩ := h.room hn
    have z1 := szT_len (ts := T) (fun t ht e he => (a.ok t ht e he).1)
    have z2 := a.ents
    exact ⟨h.ok, h.stl, by rw [h.qu]; omega, h.our, by omega⟩
  obtain ⟨c1, c2, c3, c4, _, _⟩ := Rm.commit (s := s) log hR (by omega)
  obtain ⟨bs, m, hl, hlen0, hbs⟩ := h.lin
  refine ⟨hR, c1, ?_⟩
  rcases commit_any hl hFit (log := log) (hC.lw.imp id fun e => ⟨e, by omega⟩) with ⟨x, _⟩ | ⟨_, ts1, nx1, g1, g2, g3, g4, g5, g6⟩
  · exact absurd c1 x
  · have hll : ts1.length = T.length := by have := congrArg List.length g2; simpa using this
    have hmem : ∀ x ∈ ts1, ∃ y ∈ T, y.es = x.es := fun x hx => mem_by_map g2 hx
    have hmel : ∀ x ∈ ts1, ∃ y ∈ T, y.level = x.level := fun x hx => mem_by_map g3 hx
    have hV := hC.view
    have hnx1 : nx1 ≤ 1 + 111 * (c + 1) := by omega
    by_cases hlg : log = s.log
    · have et : s.turned ts1 nx1 log = { s with tabs := ts1, next := nx1 } := by unfold Ls.turned; rw [if_pos hlg]
      rw [et] at g1 g6
      rw [if_pos hlg, if_pos hlg] at g6
      rw [if_pos hlg] at hX hY htf htl
      simp only [if_pos hlg] at hV
      rw [g1]
      refine ⟨⟨⟨bs, m, g6, hlen0, hbs⟩, c2.ok, c2.stl, c3.trans h.qu, h.turn.trans c4.symm, h.pol, h.sn, h.stk, h.mok, h.mop, h.bat, h.rise, fun k => ?_, fun x hx => ?_, fun x hx => ?_, fun x hx => ?_, ?_, ?_, fun x hx => ?_, ?_, h.log, hnx1, h.mbar, fun x hx => ?_, h.lo⟩, rfl, rfl⟩
      · rw [← hV k]
        have : (Ls.layers { s with tabs := ts1, next := nx1 }).flatten = flatM s.mem ++ (newF T).flatten := by
          rw [← newF_by g2]; simp [Ls.layers]
        rw [this]
      · obtain ⟨y, hy, e⟩ := hmem x hx; rw [← e]; exact a.srt y hy
      · obtain ⟨y, hy, e⟩ := hmem x hx; rw [← e]; exact a.ok y hy
      · obtain ⟨y, hy, e⟩ := hmem x hx; rw [← e]; exact a.ne y hy
      · simp only; rw [g3]; exact a.lv
      · simp only; rw [entsT_by g2]; have := a.ents; omega
      · obtain ⟨y, hy, e⟩ := hmel x hx
        have := a.top y hy
        simp only
        omega
      · simp only; omega
      · obtain ⟨y, hy, e⟩ := hmem x hx; rw [← e]; exact hC.bar y hy
    · have et : s.turned ts1 nx1 log = { s with tabs := ts1, next := nx1, mem := [], log := log, len := 0, loose := false } := by unfold Ls.turned; rw [if_neg hlg]
      rw [et] at g1 g6
      rw [if_neg hlg, if_neg hlg] at g6
      rw [if_neg hlg] at hX hY htf htl
      simp only [if_neg hlg, List.nil_append] at hV
      rw [g1]
      refine ⟨⟨⟨[], 0, g6, rfl, by simp⟩, c2.ok, c2.stl, c3.trans h.qu, h.turn.trans c4.symm, h.pol, h.sn, h.stk, ⟨List.Pairwise.nil, fun x hx => by cases hx⟩, fun e he => (by simp [flatM] at he), h.bat, h.rise, fun k => ?_, fun x hx => ?_, fun x hx => ?_, fun x hx => ?_, ?_, ?_, fun x hx => ?_, ?_, ?_, hnx1, fun e he => (by simp [flatM] at he), fun x hx => ?_, fun hlo => (by cases hlo)⟩, rfl, rfl⟩
      · rw [← hV k]
        have : (Ls.layers { s with tabs := ts1, next := nx1, mem := [], log := log, len := 0, loose := false }).flatten = (newF T).flatten := by
          rw [← newF_by g2]; simp [Ls.layers, flatM]
        rw [this]
      · obtain ⟨y, hy, e⟩ := hmem x hx; rw [← e]; exact a.srt y hy
      · obtain ⟨y, hy, e⟩ := hmem x hx; rw [← e]; exact a.ok y hy
      · obtain ⟨y, hy, e⟩ := hmem x hx; rw [← e]; exact a.ne y hy
      · simp only; rw [g3]; exact a.lv
      · simp only [flatM, List.flatMap_nil, List.length_nil, Nat.add_zero]; rw [entsT_by g2]; have := a.ents; omega
      · obtain ⟨y, hy, e⟩ := hmel x hx
        have := a.top y hy
        simp only [mz, List.isEmpty_nil, if_true]
        omega
      · simp only [mz, List.isEmpty_nil, if_true]; omega
      · simp only [mz, List.isEmpty_nil, if_true]; omega
      · obtain ⟨y, hy, e⟩ := hmem x hx; rw [← e]; exact hC.bar y hy
end Go.Proofs.YtoabedkcieindaaGreatDoor

namespace Go.Proofs.YtoabedkcieindaaGreatDoor
theorem replT_mem {ts : List Tb} {f t : Nat} {b x : Tb} (hx : x ∈ replT ts f t b) : x ∈ ts ∨ (x = b ∧ b.es ≠ []) := by
  unfold replT at hx
  rcases List.mem_append.1 hx with hx | hx
  · exact .inl (List.mem_of_mem_take hx)
  · rcases List.mem_append.1 hx with hx | hx
    · split at hx
      · cases hx
      · rename_i he
        rw [List.mem_singleton] at hx
        exact .inr ⟨hx, fun e => he (by simp [e])⟩
    · exact .inl (List.mem_of_mem_drop hx)
theorem stepT_mem {p : Int} {bs : List Int} {ts : List Tb} {x : Tb} {e : En} (hx : x ∈ stepT p bs ts) (he : e ∈ x.es) : ∃ y ∈ ts, e ∈ y.es := by
  unfold stepT at hx
  simp only at hx
  rcases replT_mem hx with hx | ⟨rfl, _⟩
  · exact ⟨x, hx, he⟩
  · exact mergeT_mem he
theorem shapedX_mem {p : Int} {bs : List Int} : ∀ (n : Nat) {ts : List Tb}, ts.length ≤ n → ∀ {x : Tb} {e : En}, x ∈ shapedX p bs ts → e ∈ x.es → ∃ y ∈ ts, e ∈ y.es := by
  intro n
  induction n with
  | zero =>
    intro ts hn x e hx he
    obtain rfl : ts = [] := by cases ts with | nil => rfl | cons a r => simp at hn
    cases hx
  | succ n ih =>
    intro ts hn x e hx he
    by_cases hc : (crowd p (ts.map (·.level))).2 = 0
    · rw [shapedX_end hc] at hx
      exact ⟨x, hx, he⟩
    · have hl := stepT_len (bs := bs) hc
      rw [shapedX_step hc] at hx
      obtain ⟨y, hy, hye⟩ := ih (by omega) hx he
      exact stepT_mem hy hye
theorem shapedX_len {p : Int} {bs : List Int} : ∀ (n : Nat) {ts : List Tb}, ts.length ≤ n → (shapedX p bs ts).length ≤ ts.length := by
  intro n
  induction n with
  | zero =>
    intro ts hn
    obtain rfl : ts = [] := by cases ts with | nil => rfl | cons a r => simp at hn
    exact Nat.le_refl _
  | succ n ih =>
    intro ts hn
    by_cases hc : (crowd p (ts.map (·.level))).2 = 0
    · rw [shapedX_end hc]; exact Nat.le_refl _
    · have hl := stepT_len (bs := bs) hc
      rw [shapedX_step hc]
      have := ih (ts := stepT p bs ts) (by omega)
      omega
theorem nonR_keep {l : List Nat} (h : nonR l) {f t : Nat} (hf : f < t) (ht : t ≤ l.length) (b : Bool) : nonR (l.take f ++ ((if b then [] else [l.getD f 0]) ++ l.drop t)) := by
  have hA : ∀ y ∈ l.take f, l.getD f 0 ≤ y := fun y hy => by
    obtain ⟨i, a, b, rfl⟩ := mem_take_getD hy
    exact nonR_le h (by omega) (by omega)
  have hB : ∀ y ∈ l.drop t, y ≤ l.getD f 0 := fun y hy => by
    obtain ⟨i, a, b, rfl⟩ := mem_drop_getD hy
    exact nonR_le h (by omega) b
  unfold nonR
  rw [List.pairwise_append, List.pairwise_append]
  refine ⟨List.Pairwise.sublist (List.take_sublist _ _) h, ⟨?_, List.Pairwise.sublist (List.drop_sublist _ _) h, ?_⟩, ?_⟩
  · cases b <;> simp
  · intro x hx y hy
    have := hB y hy
    cases b with
    | true => simp at hx
    | false => simp only [Bool.false_eq_true, if_false, List.mem_singleton] at hx; omega
  · intro x hx y hy
    have := hA x hx
    rcases List.mem_append.1 hy with hy | hy
    · cases b with
      | true => simp at hy
      | false => simp only [Bool.false_eq_true, if_false, List.mem_singleton] at hy; omega
    · have := hB y hy; omega
theorem Stp.repl {O : List Tb} {c : Int} {L M N : Nat} {ts : List Tb} (h : Stp O c L M N ts) {bs : List Int} {f t : Nat} (hft : f < t) (htl : t ≤ ts.length) : Stp O c L M N (replT ts f t ⟨0, (ts.map (·.level)).getD f 0, mergeT bs ts f t⟩) := by
  have hmm : ∀ e ∈ mergeT bs ts f t, opOk e.op = true ∧ e.batch ≤ c := fun e he => by
    obtain ⟨y, hy, hye⟩ := mergeT_mem he
    exact h.ok y hy e hye
  have hms : Go.Proofs.YtoabedkcieindaaGreatDoor.srt (mergeT bs ts f t) := mergeT_srt h.srt
  have hfl : ∃ y ∈ ts, y.level = (ts.map (·.level)).getD f 0 := by
    refine ⟨ts[f]'(by omega), List.getElem_mem _, ?_⟩
    simp [List.getD_eq_getElem?_getD, show f < ts.length by omega]
  have hlen : (replT ts f t ⟨0, (ts.map (·.level)).getD f 0, mergeT bs ts f t⟩).length ≤ ts.length := by
    unfold replT
    simp only [List.length_append, List.length_take, List.length_drop]
    split <;> simp <;> omega
  refine ⟨fun x hx => ?_, fun x hx => ?_, fun x hx => ?_, ?_, ?_, ?_, fun x hx => ?_, ?_⟩
  · rcases replT_mem hx with hx | ⟨rfl, _⟩
    · exact h.srt x hx
    · exact hms
  · rcases replT_mem hx with hx | ⟨rfl, _⟩
    · exact h.ok x hx
    · exact hmm
  · rcases replT_mem hx with hx | ⟨rfl, hn⟩
    · exact h.ne x hx
    · exact hn
  · have := nonR_keep h.lv (f := f) (t := t) hft (by rw [List.length_map]; exact htl) (mergeT bs ts f t).isEmpty
    unfold replT
    rw [List.map_append, List.map_append, List.map_take, List.map_drop]
    revert this
    cases (mergeT bs ts f t).isEmpty <;> exact fun h => h
  · refine List.Sublist.trans ?_ h.old
    have hs : (ts.take f ++ ts.drop t).Sublist ts := by
      conv => rhs; rw [split3 ts (show f ≤ t by omega)]
      exact List.Sublist.append (List.Sublist.refl _) (List.sublist_append_right _ _)
    have e : (replT ts f t ⟨0, (ts.map (·.level)).getD f 0, mergeT bs ts f t⟩).filter (fun t => decide (0 < t.number)) = (ts.take f ++ ts.drop t).filter (fun t => decide (0 < t.number)) := by
      unfold replT
      simp only [List.filter_append]
      congr 1
      split <;> simp
    rw [e]
    exact hs.filter _
  · have := h.len; omega
  · rcases replT_mem hx with hx | ⟨rfl, _⟩
    · have := h.top x hx; omega
    · obtain ⟨y, hy, ey⟩ := hfl
      have := h.top y hy
      simp only
      omega
  · exact Nat.le_trans (replT_ents bs ts f t 0 _ (by omega)) h.ents
theorem Lsu.stp0 {d : Dk} {s : Ls} {M : Mp} {n c : Nat} (h : Lsu d s M n c) : Stp s.tabs s.batch (s.tabs.length + 1) (n - mz s.mem) (n - (flatM s.mem).length) s.tabs :=
  ⟨h.srt, h.tok, h.ne, h.lv, List.filter_sublist, by omega, fun x hx => by have := h.lev x hx; omega, by have := h.ents; omega⟩
theorem Lsu.lay {s : Ls} : s.layers.flatten = flatM s.mem ++ (newF s.tabs).flatten := by simp [Ls.layers]
theorem Lsu.shape {d : Dk} {s : Ls} {M : Mp} {n c : Nat} (h : Lsu d s M n c) : Cmt s M n (shapedX s.policy [] s.tabs) s.log := by
  obtain ⟨a, b, e⟩ := h.stp0.shaped (p := s.policy) (bs := []) _ (Nat.le_refl _)
  have hl := shapedX_len (p := s.policy) (bs := []) _ (Nat.le_refl s.tabs.length)
  have hf := h.few
  have he := h.ents
  refine ⟨.inl rfl, ⟨_, _, a, by rw [if_pos rfl]; omega, by rw [if_pos rfl]; omega⟩, by rw [if_pos rfl]; omega, by rw [if_pos rfl]; exact h.log, fun x hx e he => ?_, fun k => ?_⟩
  · obtain ⟨y, hy, hye⟩ := shapedX_mem _ (Nat.le_refl _) hx he
    exact h.tbar y hy e hye
  · rw [if_pos rfl, ← h.view k, Lsu.lay]
    exact view_pre _ (e k)
theorem Lsu.stpF {d : Dk} {s : Ls} {M : Mp} {n c : Nat} (h : Lsu d s M n c) (hm : s.mem ≠ []) :
    Stp s.tabs s.batch (s.tabs.length + 1) n n (tabF0 s) ∧ (∀ k, viewE s.batch (newF (tabF0 s)).flatten k = getF k M) ∧ ∀ x ∈ tabF0 s, ∀ e ∈ x.es, bareE e := by
  have hmz := mz_one hm
  have hsl : ∀ l ∈ [flatM s.mem], Go.Proofs.YtoabedkcieindaaGreatDoor.srt l := by intro l hl; rw [List.mem_singleton] at hl; subst hl; exact srt_flat h.mok
  have hms := mergeL_srt hsl
  have hes : Go.Proofs.YtoabedkcieindaaGreatDoor.srt (esF s) := (needF_is _ _ _ _ (Nat.le_refl _) hms).1
  have hem : ∀ e ∈ esF s, e ∈ flatM s.mem := fun e he => by
    have := mergeL_mem hsl e ((needF_is _ _ _ _ (Nat.le_refl _) hms).2.2 e he)
    simpa using this
  have hel : (esF s).length ≤ (flatM s.mem).length := by
    refine Nat.le_trans (needL_len _ _ _) (Nat.le_trans (mergeF_len _ _) ?_)
    simp
  have hf1 := h.few
  have hf2 := h.ents
  have each : ∀ x ∈ tabF0 s, x ∈ s.tabs ∨ (x = ⟨0, 0, esF s⟩ ∧ esF s ≠ []) := fun x hx => by
    rw [tabF0_is] at hx
    rcases List.mem_append.1 hx with hx | hx
    · exact .inl hx
    · split at hx
      · cases hx
      · rename_i hn
        rw [List.mem_singleton] at hx
        exact .inr ⟨hx, fun e => hn (by simp [e])⟩
  have hlen : (tabF0 s).length ≤ s.tabs.length + 1 := by rw [tabF0_is]; split <;> simp
  refine ⟨⟨fun x hx => ?_, fun x hx => ?_, fun x hx => ?_, ?_, ?_, hlen, fun x hx => ?_, ?_⟩, fun k => ?_, fun x hx => ?_⟩
  · rcases each x hx with hx | ⟨rfl, _⟩
    · exact h.srt x hx
    · exact hes
  · rcases each x hx with hx | ⟨rfl, _⟩
    · exact h.tok x hx
    · exact fun e he => h.mop e (hem e he)
  · rcases each x hx with hx | ⟨rfl, hn⟩
    · exact h.ne x hx
    · exact hn
  · rw [tabF0_is, List.map_append]
    unfold nonR
    rw [List.pairwise_append]
    refine ⟨h.lv, by split <;> simp, fun a _ b hb => ?_⟩
    split at hb
    · cases hb
    · simp at hb; omega
  · rw [tabF0_is, List.filter_append]
    have : (if (esF s).isEmpty then [] else [(⟨0, 0, esF s⟩ : Tb)]).filter (fun t => decide (0 < t.number)) = [] := by split <;> simp
    rw [this, List.append_nil]
    exact List.filter_sublist
  · rcases each x hx with hx | ⟨rfl, _⟩
    · have := h.lev x hx; omega
    · simp only; omega
  · rw [tabF0_is, entsT_app]
    have : entsT (if (esF s).isEmpty then [] else [⟨0, 0, esF s⟩]) ≤ (esF s).length := by split <;> simp [entsT]
    omega
  · rw [← h.view k]
    have e1 : (newF (tabF0 s)).flatten = esF s ++ (newF s.tabs).flatten := by
      rw [tabF0_is, newF_app, List.flatten_append, newF_opt ⟨0, 0, esF s⟩]
    rw [e1, Lsu.lay]
    unfold esF
    rw [view_need hms (.inr fun e he => (h.mop e (by simpa using mergeL_mem hsl e he)).2) (fun hl => ?_) k, view_merge hsl]
    · simp
    · have : s.tabs = [] := by simpa using hl
      rw [this]; rfl
  · rcases each x hx with hx | ⟨rfl, _⟩
    · exact h.tbar x hx
    · exact fun e he => h.mbar e (hem e he)
theorem Lsu.flushC {d : Dk} {s : Ls} {M : Mp} {n c : Nat} (h : Lsu d s M n c) (hm : s.mem ≠ []) : Cmt s M n (shapedX s.policy [] (tabF0 s)) (s.log + 1) := by
  obtain ⟨hs, hv, hb⟩ := h.stpF hm
  obtain ⟨a, b, e⟩ := hs.shaped (p := s.policy) (bs := []) _ (Nat.le_refl _)
  have hl := shapedX_len (p := s.policy) (bs := []) _ (Nat.le_refl (tabF0 s).length)
  have hl2 := hs.len
  have hf := h.few
  have hlg := h.log
  rw [mz_one hm] at hf hlg
  have hne : ¬ (s.log + 1 = s.log) := by omega
  refine ⟨.inr rfl, ⟨_, _, a, by rw [if_neg hne]; omega, by rw [if_neg hne]; omega⟩, by rw [if_neg hne]; omega, by rw [if_neg hne]; omega, fun x hx e he => ?_, fun k => ?_⟩
  · obtain ⟨y, hy, hye⟩ := shapedX_mem _ (Nat.le_refl _) hx he
    exact hb y hy e hye
  · rw [if_neg hne, List.nil_append]
    exact (e k).trans (hv k)
theorem Lsu.mergeC {d : Dk} {s : Ls} {M : Mp} {n c : Nat} (h : Lsu d s M n c) {f t : Nat} (hft : f < t) (htl : t ≤ s.tabs.length) : Cmt s M n (replT s.tabs f t ⟨0, (s.tabs.map (·.level)).getD f 0, mergeT [] s.tabs f t⟩) s.log := by
  have a := h.stp0.repl (bs := []) hft htl
  have hl : (replT s.tabs f t ⟨0, (s.tabs.map (·.level)).getD f 0, mergeT [] s.tabs f t⟩).length ≤ s.tabs.length := by
    unfold replT
    simp only [List.length_append, List.length_take, List.length_drop]
    split <;> simp <;> omega
  have hf := h.few
  have he := h.ents
  refine ⟨.inl rfl, ⟨_, _, a, by rw [if_pos rfl]; omega, by rw [if_pos rfl]; omega⟩, by rw [if_pos rfl]; omega, by rw [if_pos rfl]; exact h.log, fun x hx e he => ?_, fun k => ?_⟩
  · rcases replT_mem hx with hx | ⟨rfl, _⟩
    · exact h.tbar x hx e he
    · obtain ⟨y, hy, hye⟩ := mergeT_mem he
      exact h.tbar y hy e hye
  · rw [if_pos rfl, ← h.view k, Lsu.lay]
    exact view_pre _ (view_repl (by omega) h.srt (.inr fun x hx e he => (h.tok x hx e he).2) k)
end Go.Proofs.YtoabedkcieindaaGreatDoor

namespace Go.Proofs.YtoabedkcieindaaGreatDoor
theorem Lsu.lsrt {d : Dk} {s : Ls} {M : Mp} {n c : Nat} (h : Lsu d s M n c) : ∀ l ∈ s.layers, Go.Proofs.YtoabedkcieindaaGreatDoor.srt l := fun l hl => by
  unfold Ls.layers at hl
  rcases List.mem_cons.1 hl with rfl | hl
  · exact srt_flat h.mok
  · exact newF_srt h.srt l hl
theorem Lsu.lok {d : Dk} {s : Ls} {M : Mp} {n c : Nat} (h : Lsu d s M n c) : ∀ e ∈ s.layers.flatten, opOk e.op = true ∧ e.batch ≤ s.batch ∧ bareE e := fun e he => by
  rw [Lsu.lay] at he
  rcases List.mem_append.1 he with he | he
  · exact ⟨(h.mop e he).1, (h.mop e he).2, h.mbar e he⟩
  · obtain ⟨x, hx, hxe⟩ := newF_mem he
    exact ⟨(h.tok x hx e hxe).1, (h.tok x hx e hxe).2, h.tbar x hx e hxe⟩
theorem Lsu.laylen {d : Dk} {s : Ls} {M : Mp} {n c : Nat} (h : Lsu d s M n c) : s.layers.flatten.length ≤ n := by
  rw [Lsu.lay, List.length_append, newF_len]
  have := h.ents
  omega
def allE (s : Ls) : Ly := needL [] true (mergeL s.layers)
theorem Lsu.all {d : Dk} {s : Ls} {M : Mp} {n c : Nat} (h : Lsu d s M n c) : Go.Proofs.YtoabedkcieindaaGreatDoor.srt (allE s) ∧ (∀ e ∈ allE s, e ∈ s.layers.flatten) ∧ (allE s).length ≤ n ∧ ∀ k, viewE s.batch (allE s) k = getF k M := by
  have hms := mergeL_srt h.lsrt
  have hmem : ∀ e ∈ allE s, e ∈ s.layers.flatten := fun e he => mergeL_mem h.lsrt e ((needF_is _ _ _ _ (Nat.le_refl _) hms).2.2 e he)
  refine ⟨(needF_is _ _ _ _ (Nat.le_refl _) hms).1, hmem, ?_, fun k => ?_⟩
  · exact Nat.le_trans (needL_len _ _ _) (Nat.le_trans (mergeF_len _ _) h.laylen)
  · rw [← h.view k]
    have h1 := view_need (bs := []) (lw := true) (l := mergeL s.layers) (t := []) hms (c := s.batch) (.inr fun e he => (h.lok e (mergeL_mem h.lsrt e he)).2.1) (fun _ => rfl) k
    have h2 := view_merge h.lsrt s.batch [] k
    rw [List.append_nil, List.append_nil] at h1
    rw [List.append_nil, List.append_nil] at h2
    exact h1.trans h2
theorem replT_all (ts : List Tb) (b : Tb) : replT ts 0 ts.length b = if b.es.isEmpty then [] else [b] := by unfold replT; simp
theorem Lsu.compactC {d : Dk} {s : Ls} {M : Mp} {n c : Nat} (h : Lsu d s M n c) : Cmt s M n (replT s.tabs 0 s.tabs.length ⟨0, (s.tabs.map (·.level)).getD 0 0, allE s⟩) (if s.mem.isEmpty then s.log else s.log + 1) := by
  obtain ⟨a1, a2, a3, a4⟩ := h.all
  rw [replT_all]
  generalize hT : (if (allE s).isEmpty then [] else [(⟨0, (s.tabs.map (·.level)).getD 0 0, allE s⟩ : Tb)]) = T
  have each : ∀ x ∈ T, x = ⟨0, (s.tabs.map (·.level)).getD 0 0, allE s⟩ ∧ allE s ≠ [] := fun x hx => by
    rw [← hT] at hx
    split at hx
    · cases hx
    · rename_i hn
      exact ⟨by simpa using hx, fun e => hn (by simp [e])⟩
  have hlen : T.length ≤ 1 := by rw [← hT]; split <;> simp
  have hnew : (newF T).flatten = allE s := by rw [← hT]; exact newF_opt ⟨0, (s.tabs.map (·.level)).getD 0 0, allE s⟩
  have hpos : T ≠ [] → 1 ≤ n := fun hne => by
    cases hTT : T with
    | nil => exact absurd hTT hne
    | cons x r =>
      have := (each x (by rw [hTT]; simp)).2
      have : 0 < (allE s).length := List.length_pos_iff.2 this
      omega
  have hf := h.few
  have hlg := h.log
  have hlen1 : T.length ≤ n := by
    cases hTT : T with
    | nil => simp
    | cons x r => have := hpos (by rw [hTT]; simp); rw [hTT] at hlen; omega
  have htop : ∀ x ∈ T, x.level + T.length ≤ n := fun x hx => by
    have h1 := hpos (fun e => by rw [e] at hx; cases hx)
    obtain ⟨rfl, _⟩ := each x hx
    simp only
    cases hts : s.tabs with
    | nil => simp; omega
    | cons y r =>
      have := h.lev y (by rw [hts]; simp)
      rw [hts] at this
      simp at this ⊢
      omega
  have hents : entsT T ≤ n := by rw [← hT]; split <;> simp [entsT]; exact a3
  have hlog : (if s.mem.isEmpty then s.log else s.log + 1) = s.log ↔ s.mem = [] := by
    constructor
    · intro e
      split at e
      · rename_i hh; simpa using hh
      · omega
    · intro e; rw [e]; rfl
  have hS : Stp s.tabs s.batch (s.tabs.length + 1) n n T := by
    refine ⟨fun x hx => ?_, fun x hx e he => ?_, fun x hx => ?_, ?_, ?_, by omega, htop, hents⟩
    · obtain ⟨rfl, _⟩ := each x hx; exact a1
    · obtain ⟨rfl, _⟩ := each x hx
      have := h.lok e (a2 e he)
      exact ⟨this.1, this.2.1⟩
    · obtain ⟨rfl, hn⟩ := each x hx; exact hn
    · rw [← hT]; unfold nonR; split <;> simp
    · have : T.filter (fun t => decide (0 < t.number)) = [] := by rw [← hT]; split <;> simp
      rw [this]
      exact List.nil_sublist _
  refine ⟨by split <;> simp, ⟨n, n, hS, ?_, ?_⟩, ?_, ?_, fun x hx e he => ?_, fun k => ?_⟩
  · by_cases hm : s.mem = []
    · rw [if_pos (hlog.2 hm), hm]; simp [mz]
    · rw [if_neg (fun e => hm (hlog.1 e))]; omega
  · by_cases hm : s.mem = []
    · rw [if_pos (hlog.2 hm), hm]; simp [flatM]
    · rw [if_neg (fun e => hm (hlog.1 e))]; omega
  · by_cases hm : s.mem = []
    · rw [if_pos (hlog.2 hm), hm]; simp [mz]; exact hlen1
    · rw [if_neg (fun e => hm (hlog.1 e))]; exact hlen1
  · by_cases hm : s.mem = []
    · rw [if_pos (hlog.2 hm), hlog.2 hm]; exact hlg
    · rw [if_neg (fun e => hm (hlog.1 e))]
      rw [mz_one hm] at hlg
      have : s.mem.isEmpty = false := by simpa using hm
      rw [this]; simpa using hlg
  · obtain ⟨rfl, _⟩ := each x hx
    exact (h.lok e (a2 e he)).2.2
  · rw [hnew]
    by_cases hm : s.mem = []
    · rw [if_pos (hlog.2 hm), hm]
      simp only [flatM, List.flatMap_nil, List.nil_append]
      exact a4 k
    · rw [if_neg (fun e => hm (hlog.1 e)), List.nil_append]
      exact a4 k
theorem bareE_bare (o : Ox) (n : Int) : bareE ⟨bare o, n⟩ := fun h => by
  unfold bare at h ⊢
  cases hg : o.gone
  · simp [hg] at h
  · simp
theorem Lsu.append {d : Dk} {s : Ls} {M : Mp} {n c : Nat} (h : Lsu d s M n c) {l : List Ox} (hb : batchOk l = true) (hn : n + l.length ≤ 110) :
    (d.write (lgN s.log) (encode l)).1 = 0 ∧ Lsu (d.write (lgN s.log) (encode l)).2 (withB s l) (doAll M l) (n + l.length) c := by
  obtain ⟨bs, m, hl, hlen, hbs⟩ := h.lin
  obtain ⟨r1, r2⟩ := h.room (by omega)
  obtain ⟨⟨b1, b2⟩, b3⟩ := batchOk_iff.1 hb
  have he := encode_len l
  have hbl := (body_len hb).2
  have hfew := h.few
  have hm3 := hl.dur.says.ok.2.2.1
  simp only [manOf] at hm3
  obtain ⟨w1, w2, w3, w4, _⟩ := Rm.write (d := d) (b := 0) (c := 0) (n := lgN s.log) (t := encode l) ⟨h.ok, h.stl, by rw [h.qu]; omega, h.our, by omega⟩ (lgN_ok _) (.inr (.inr ⟨s.log, by omega, .inl rfl⟩))
  have hL : Lin (d.write (lgN s.log) (encode l)).2 s (bs ++ [l]) m := by
    rcases hl.append hb with ⟨_, x⟩ | ⟨x, _⟩
    · exact x
    · exact absurd w1 x
  have hv0 : ∀ k, viewE (s.batch + 1) (flatM s.mem ++ (newF s.tabs).flatten) k = getF k M := fun k => by
    rw [← h.view k, Lsu.lay]
    refine view_up (fun e he => ?_) (by omega) k
    rcases List.mem_append.1 he with he | he
    · exact (h.mop e he).2
    · obtain ⟨x, hx, hxe⟩ := newF_mem he
      exact (h.tok x hx e hxe).2
  obtain ⟨v1, v2, v3, _⟩ := view_do (n := s.batch + 1) (last := s.lastSnap) (newF s.tabs).flatten l s.mem M h.mok (fun o ho => opOk_ne (b3 o ho)) h.rise hv0
  have hne : doM (s.batch + 1) s.lastSnap s.mem l ≠ [] := doM_ne (.inl (by intro e; rw [e] at b1; simp at b1))
  have hmz : mz (withB s l).mem = 1 := mz_one hne
  have hfl := flat_doM (s.batch + 1) s.lastSnap l s.mem
  have hents := h.ents
  have hbat := h.bat
  refine ⟨w1, ⟨⟨bs ++ [l], m, ⟨hL.dur, hL.cln, hL.rise⟩, ?_, ?_⟩, w2.ok, w2.stl, w3.trans h.qu, h.turn.trans w4.symm, h.pol, h.sn, h.stk, v1, fun e he => ?_, ⟨?_, ?_⟩, v2, fun k => ?_, h.srt, fun x hx e he => ?_, h.ne, h.lv, ?_, fun x hx => ?_, ?_, ?_, h.next, fun e he => ?_, h.tbar, fun _ => ?_⟩⟩
  · show s.len + (encode l).length = _
    rw [hlen, logOf_append, logOf_one, List.length_append]
  · simp only [List.flatten_append, List.length_append, List.flatten_cons, List.flatten_nil, List.append_nil]; omega
  · rcases doM_mem he with ⟨o, ho, rfl⟩ | he
    · exact ⟨opOk_bare (b3 o ho), Int.le_refl _⟩
    · have := h.mop e he
      exact ⟨this.1, by show e.batch ≤ s.batch + 1; omega⟩
  · show (0 : Int) ≤ s.batch + 1; omega
  · show s.batch + 1 ≤ ((n + l.length : Nat) : Int); omega
  · rw [← v3 k]
    have e : (withB s l).layers.flatten = flatM (doM (s.batch + 1) s.lastSnap s.mem l) ++ (newF s.tabs).flatten := by simp [Ls.layers, withB]
    rw [e]; rfl
  · have := h.tok x hx e he
    exact ⟨this.1, by show e.batch ≤ s.batch + 1; omega⟩
  · show entsT s.tabs + (flatM (doM (s.batch + 1) s.lastSnap s.mem l)).length ≤ _; omega
  · rw [hmz]
    have := h.lev x hx
    show x.level + s.tabs.length + 1 ≤ _
    omega
  · rw [hmz]; show s.tabs.length + 1 ≤ _; omega
  · rw [hmz]
    have := h.log
    show s.log + 1 ≤ _; omega
  · rcases doM_mem he with ⟨o, ho, rfl⟩ | he
    · exact bareE_bare o _
    · exact h.mbar e he
  · show 0 < s.len + (encode l).length; omega
theorem Lsu.sync {d : Dk} {s : Ls} {M : Mp} {n c : Nat} (h : Lsu d s M n c) (hn : n ≤ 110) (hlo : s.loose = true) : (d.sync (lgN s.log)).1 = 0 ∧ Lsu (d.sync (lgN s.log)).2 { s with loose := false } M n c := by
  obtain ⟨bs, m, hl, hlen, hbs⟩ := h.lin
  have hlt := h.lo hlo
  have hsome : (getF (lgN s.log) d.files).isSome = true := by
    have := hl.dur.says.log
    simp only [manOf] at this
    rcases this with ⟨_, e, _⟩ | ⟨f, e, _⟩
    · rw [e] at hlen; simp [logOf] at hlen; omega
    · rw [e]; rfl
  obtain ⟨r1, r2⟩ := h.room hn
  have hfew := h.few
  obtain ⟨w1, w2, w3, w4, _⟩ := Rm.sync (d := d) (b := 0) (c := 0) (n := lgN s.log) ⟨h.ok, h.stl, by rw [h.qu]; omega, h.our, by omega⟩ hsome
  have hL : Lin (d.sync (lgN s.log)).2 s bs bs.length := by
    rcases hl.sync with ⟨_, x⟩ | ⟨x, _⟩
    · exact x
    · exact absurd w1 x
  exact ⟨w1, ⟨⟨bs, bs.length, ⟨hL.dur, hL.cln, hL.rise⟩, hlen, hbs⟩, w2.ok, w2.stl, w3.trans h.qu, h.turn.trans w4.symm, h.pol, h.sn, h.stk, h.mok, h.mop, h.bat, h.rise, h.view, h.srt, h.tok, h.ne, h.lv, h.ents, h.lev, h.few, h.log, h.next, h.mbar, h.tbar, fun e => by cases e⟩⟩
theorem Lsu.settle {d : Dk} {s : Ls} {M : Mp} {n c : Nat} (h : Lsu d s M n c) (hn : n ≤ 110) (hc : c ≤ 1000000000) : (settleX d s s.tabs s.log).1 = 0 ∧ Lsu (settleX d s s.tabs s.log).2.1 (settleX d s s.tabs s.log).2.2 M n (c + 1) := by
  obtain ⟨_, c1, c2, _⟩ := h.commit hn hc h.shape
  unfold settleX
  simp only
  rw [h.kept]
  split
  · exact ⟨rfl, h.up (by omega)⟩
  · rw [if_neg (by rw [c1]; simp)]
    exact ⟨c1, c2⟩
theorem Lsu.flush {d : Dk} {s : Ls} {M : Mp} {n c : Nat} (h : Lsu d s M n c) (hn : n ≤ 110) (hc : c ≤ 1000000000) : (flushX d s).1 = 0 ∧ Lsu (flushX d s).2.1 (flushX d s).2.2 M n (c + 1) := by
  by_cases hm : s.mem = []
  · have e : flushX d s = settleX d s s.tabs s.log := by unfold flushX; rw [if_pos (by simp [hm])]
    rw [e]
    exact h.settle hn hc
  · obtain ⟨_, c1, c2, _⟩ := h.commit hn hc (h.flushC hm)
    have e : flushX d s = commitX d s (shapedX s.policy [] (tabF0 s)) (s.log + 1) := by
      unfold flushX
      rw [if_neg (by simpa using hm)]
      simp only
      have e1 : (if (needL s.kept s.tabs.isEmpty (mergeL [flatM s.mem])).isEmpty then s.tabs else s.tabs ++ [⟨0, 0, needL s.kept s.tabs.isEmpty (mergeL [flatM s.mem])⟩]) = tabF0 s := rfl
      rw [e1]
      unfold settleX
      simp only
      rw [h.kept, if_neg (by omega), if_neg (by rw [c1]; simp)]
    rw [e]
    exact ⟨c1, c2⟩
theorem Lsu.tend {d : Dk} {s : Ls} {M : Mp} {n c : Nat} (h : Lsu d s M n c) (hn : n ≤ 110) (hc : c ≤ 1000000000) : (tendX d s).1 = 0 ∧ Lsu (tendX d s).2.1 (tendX d s).2.2 M n (c + 1) := by
  unfold tendX
  simp only
  split
  · obtain ⟨a, b⟩ := h.flush hn hc
    rw [if_neg (by rw [a]; simp)]
    exact ⟨a, b⟩
  · obtain ⟨a, b⟩ := h.settle hn hc
    rw [if_neg (by rw [a]; simp)]
    exact ⟨a, b⟩
theorem Lsu.ready {d : Dk} {s : Ls} {M : Mp} {n c : Nat} (h : Lsu d s M n c) : s.readyX d = 0 := by
  unfold Ls.readyX
  rw [if_neg (by simp [h.turn]), if_neg (by rw [h.stl.al]; simp)]
theorem Lsu.writ {d : Dk} {s : Ls} {M : Mp} {n c : Nat} (h : Lsu d s M n c) : s.writX d = 0 := by
  unfold Ls.writX
  rw [h.ready, h.stk]; simp
end Go.Proofs.YtoabedkcieindaaGreatDoor
