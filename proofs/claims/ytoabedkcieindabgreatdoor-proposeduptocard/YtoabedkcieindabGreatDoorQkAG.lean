import Derived.Test.YtoabedkcieindabGreatDoorQkAF
import Derived.Laws.AppendOwnNone
import Derived.Lib.AppendZerosOnto
import Derived.StillTactics
namespace Go.Proofs.YtoabedkcieindabGreatDoor
open Go.RowKit Go.Maps Go.Sort
section
variable {α : Type} {fl : α → List Value} {sz : Nat}
def Rp (fl : α → List Value) (sz : Nat) (w : World) (q : Option Addr) (l : List α) : Prop := ∀ i (h : i < l.length) j u, (fl l[i])[j]? = some u → ∃ g off, q = some ⟨g, off, none⟩ ∧ w.cell? ⟨g, off + (i * sz + j), none⟩ = some u
def OwnR (t : TypeId) (fl : α → List Value) (sz : Nat) (w : World) (base : Nat) (v : Value) (l : List α) : Prop := w.ownsRow base t sz v l.length (l.flatMap fl)
theorem flatR_at (hfl : ∀ x, (fl x).length = sz) : ∀ (l : List α) (i j : Nat) (h : i < l.length), j < sz → (l.flatMap fl)[i * sz + j]? = (fl l[i])[j]?
  | [], i, j, h, _ => by simp at h
  | x :: r, 0, j, _, hj => by
    rw [List.flatMap_cons, Nat.zero_mul, Nat.zero_add, List.getElem?_append_left (by rw [hfl]; exact hj)]
    rfl
  | x :: r, i + 1, j, h, hj => by
    rw [List.flatMap_cons, List.getElem?_append_right (by rw [hfl, Nat.add_mul]; omega), hfl, show (i + 1) * sz + j - sz = i * sz + j by rw [Nat.add_mul]; omega]
    exact flatR_at hfl r i j (by simpa using h) hj
theorem flatR_len (hfl : ∀ x, (fl x).length = sz) (l : List α) : (l.flatMap fl).length = l.length * sz := by
  induction l with
  | nil => simp
  | cons x r ih => rw [List.flatMap_cons, List.length_append, ih, hfl, List.length_cons, Nat.add_mul]; omega
theorem Rp.below {w w' : World} {q : Option Addr} {l : List α} (h : Rp fl sz w q l) (hb : Below w.heap.size w w') : Rp fl sz w' q l := fun i hi j u hu => by
  obtain ⟨g, off, e, h1⟩ := h i hi j u hu
  exact ⟨g, off, e, cell_below hb h1⟩
theorem Rp.cells (hfl : ∀ x, (fl x).length = sz) (hz : 0 < sz) {w : World} {g off : Nat} {l : List α} (h : Rp fl sz w (some ⟨g, off, none⟩) l) : ∀ j u, (l.flatMap fl)[j]? = some u → w.cell? ((⟨g, off, none⟩ : Addr).add j) = some u := by
  intro j u hu
  have hj : j < l.length * sz := by rw [← flatR_len hfl l]; exact (List.getElem?_eq_some_iff.1 hu).1
  have hi : j / sz < l.length := Nat.div_lt_of_lt_mul (by rw [Nat.mul_comm]; exact hj)
  have e : j = j / sz * sz + j % sz := by rw [Nat.mul_comm]; exact (Nat.div_add_mod j sz).symm
  rw [e, flatR_at hfl l _ _ hi (Nat.mod_lt _ hz)] at hu
  obtain ⟨g', off', e', hc⟩ := h _ hi _ _ hu
  simp only [Option.some.injEq, Addr.mk.injEq] at e'
  obtain ⟨rfl, rfl, _⟩ := e'
  rw [← e] at hc
  rw [Addr.add_lit]
  exact hc
theorem OwnR.rp {t : TypeId} (hfl : ∀ x, (fl x).length = sz) {w : World} {base : Nat} {v : Value} {l : List α} (h : OwnR t fl sz w base v l) : ∃ q cap, v = .slice q l.length cap ∧ l.length ≤ cap ∧ Rp fl sz w q l ∧ (q = none → cap = 0 ∧ l = []) ∧ ∀ a, q = some a → base ≤ a.block ∧ a.block < w.heap.size := by
  rcases h.2 with ⟨hv, hn⟩ | ⟨g, cap, cur, hv, hb, hgg, hnc, _⟩
  · exact ⟨none, 0, by rw [hv, hn], by omega, fun i hi => by omega, fun _ => ⟨rfl, List.eq_nil_of_length_eq_zero hn⟩, fun a ha => by cases ha⟩
  · refine ⟨_, cap, hv, hnc, fun i hi j u hu => ?_, fun e => (by cases e), fun a ha => by cases ha; exact ⟨hb, lt_of_block hgg⟩⟩
    have hj : j < sz := by rw [← hfl l[i]]; exact (List.getElem?_eq_some_iff.1 hu).1
    have hc := World.ownsRow.cells h (g := g) (by rw [hv]; rfl) (i * sz + j) u (by rw [flatR_at hfl l i j hi hj]; exact hu)
    rw [Addr.add_lit] at hc
    exact ⟨g, 0, rfl, hc⟩
theorem OwnR.nil (t : TypeId) (fl : α → List Value) (sz : Nat) (w : World) (base : Nat) : OwnR t fl sz w base (.slice none 0 0) [] := World.ownsRow_nil _ _ _ _
theorem OwnR.kept {t : TypeId} {w w' : World} {base : Nat} {v : Value} {l : List α} {S : Nat → Prop} (h : OwnR t fl sz w base v l) (k : Kp S w w') (hs : ∀ g, v.ownBlock = some g → ¬ S g) : OwnR t fl sz w' base v l := k.row h hs
theorem OwnR.alloc {t : TypeId} {w : World} {base : Nat} {v : Value} {l : List α} (h : OwnR t fl sz w base v l) (o : Obj) : OwnR t fl sz (w.alloc o) base v l := h.kept (S := fun _ => False) ((Kp.refl _ _).alloc o) (fun _ _ f => f)
theorem OwnR.drew {t : TypeId} {w : World} {base : Nat} {v : Value} {l : List α} (h : OwnR t fl sz w base v l) : OwnR t fl sz w.drew base v l := h.kept (S := fun _ => False) ((Kp.refl _ _).drew) (fun _ _ f => f)
theorem OwnR.below {t : TypeId} {w w' : World} {base : Nat} {v : Value} {l : List α} (h : OwnR t fl sz w base v l) (k : Below w.heap.size w w') : OwnR t fl sz w' base v l := h.kept (S := fun _ => False) (Kp.of_below k) (fun _ _ f => f)
theorem OwnR.shape {t : TypeId} {w : World} {base : Nat} {v : Value} {l : List α} (h : OwnR t fl sz w base v l) : ∃ a cap, v = .slice a l.length cap := by
  rcases h.2 with ⟨hv, hn⟩ | ⟨g, cap, cur, hv, _⟩
  · exact ⟨none, 0, by rw [hv, hn]⟩
  · exact ⟨_, _, hv⟩
theorem _root_.Go.World.ownsRow.shapeE {w : World} {base : Nat} {e : TypeId} {size : Nat} {v : Value} {n : Nat} {xs : List Value} (h : w.ownsRow base e size v n xs) : v = .slice none 0 0 ∨ ∃ g cap, v = .slice (some ⟨g, 0, none⟩) n cap := by
  rcases h.2 with ⟨hv, _⟩ | ⟨g, cap, cur, hv, _⟩
  · exact .inl hv
  · exact .inr ⟨g, cap, hv⟩
theorem OwnR.belowOwn {t : TypeId} {w w' : World} {v : Value} {l : List α} {n0 : Nat} (hn0 : n0 ≤ w.heap.size) (ho : OwnR t fl sz w n0 v l) (k : Kp (fun i => v.ownBlock = some i) w w') : Below n0 w w' :=
  ⟨k.os, k.tape, k.output, k.size, fun i hi => k.block i (by omega) (fun e => by have := (World.ownsRow.lt ho i e).1; omega)⟩
theorem wpList_appR (w : World) {ops : Array Oper} {rest : List Oper} {o : Oper} {ac : Act} {Q : Exit → Act → World → Prop} (hgd : o.guard = none) (s x : Operand) (t ts : TypeId) {z : Value} {bytes : Nat}
    (hinfo : (Tryz.prog.info? t).map (fun i => (i.zero, i.size, i.bytes)) = some (some z, sz, bytes)) (hzs : z.cells.size = sz) (hsz : 0 < sz) (hts : Tryz.prog.underlying ts = some (.slice t)) (hfl : ∀ x, (fl x).length = sz) (hone : ∀ x, ∀ u ∈ fl x, u.oneCell' = true)
    (ho : o.op = .call { callee := .builtin .append, args := #[s, x], argTypes := #[ts, ts] })
    (n0 : Nat) (v : Value) (l c : List α) (q : Option Addr) (qc : Nat) (hs : ac.eval s = v) (hx : ac.eval x = .slice q c.length qc) (hn0 : n0 ≤ w.heap.size) (hown : OwnR t fl sz w n0 v l) (hqn : q = none → qc = 0 ∧ c = []) (hqa : ∀ a, q = some a → ∃ g off, a = ⟨g, off, none⟩) (hc : Rp fl sz w q c) (hby : (l.length + c.length) * bytes ≤ 140737488355328) (hml : l.length + c.length ≤ 4611686018427387904)
    (h : ∀ v' w', OwnR t fl sz w' n0 v' (l ++ c) → Kp (fun i => v.ownBlock = some i) w w' → wpList Tryz.prog ops Q rest (ac.put o.dst v') w') : wpList Tryz.prog ops Q (o :: rest) ac w := by
  obtain ⟨i0, hi, hz0, hz1, hz2⟩ := info_parts hinfo
  cases q with
  | none =>
    obtain ⟨rfl, rfl⟩ := hqn rfl
    refine wpList_append_own_none hgd s x ts ho n0 t i0 sz hts hi v l.length (l.flatMap fl) hs hown hx ?_
    have := h v w (by rw [List.append_nil]; exact hown) (Kp.refl _ _)
    exact this
  | some a =>
    obtain ⟨g, off, rfl⟩ := hqa a rfl
    refine wpList_append_own _ hgd s x ts ho n0 t i0 _ sz bytes hts hi hz0 hz1 hz2 hzs hsz v l.length (l.flatMap fl) hs hown ⟨g, off, none⟩ c.length qc (c.flatMap fl) hx (flatR_len hfl c) (hc.cells hfl hsz) (fun u hu => ?_) (by unfold maxLen; omega) hby hn0 ?_
    · obtain ⟨y, _, hy⟩ := List.mem_flatMap.1 hu
      exact hone y u hy
    · intro v' w' ho' hg' _
      refine h v' w' ?_ ((Kp.refl _ _).grown hg' (fun k hk _ => hk))
      unfold OwnR
      rw [List.length_append, List.flatMap_append]
      exact ho'
end
def enC (e : En) : List Value := [str e.op.key, str e.op.val, .bool e.op.gone, .int .i64 e.batch]
theorem enC_len (e : En) : (enC e).length = 4 := rfl
theorem enC_one (e : En) : ∀ u ∈ enC e, u.oneCell' = true := by intro u hu; simp [enC] at hu; rcases hu with rfl | rfl | rfl | rfl <;> rfl
theorem Enp.rp {w : World} {q : Option Addr} {l : Ly} (h : Enp w q l) : Rp enC 4 w q l := by
  intro i hi j u hu
  obtain ⟨g, off, rfl, c0, c1, c2, c3⟩ := h i hi
  refine ⟨g, off, rfl, ?_⟩
  match j, hu with
  | 0, hu => simp [enC] at hu; subst hu; exact c0
  | 1, hu => simp [enC] at hu; subst hu; exact c1
  | 2, hu => simp [enC] at hu; subst hu; exact c2
  | 3, hu => simp [enC] at hu; subst hu; exact c3
theorem Rp.enp {w : World} {q : Option Addr} {l : Ly} (h : Rp enC 4 w q l) : Enp w q l := by
  intro i hi
  obtain ⟨g, off, rfl, c0⟩ := h i hi 0 _ rfl
  obtain ⟨_, _, e1, c1⟩ := h i hi 1 _ rfl
  obtain ⟨_, _, e2, c2⟩ := h i hi 2 _ rfl
  obtain ⟨_, _, e3, c3⟩ := h i hi 3 _ rfl
  cases e1; cases e2; cases e3
  exact ⟨g, off, rfl, c0, c1, c2, c3⟩
abbrev OwnE (w : World) (base : Nat) (v : Value) (l : Ly) : Prop := OwnR 226 enC 4 w base v l
end Go.Proofs.YtoabedkcieindabGreatDoor

namespace Go.Proofs.YtoabedkcieindabGreatDoor
open Go.RowKit Go.Maps Go.Sort
set_option maxHeartbeats 2000000 in
set_option maxRecDepth 20000 in
theorem growE_nil (n : Nat) (w : World) (hn : n ≤ 1000000) :
    Calls Tryz.prog 236 #[.slice none 0 0, .int .i64 n] w fun e w' => ∃ v, e = .returned v ∧ Below w.heap.size w w' ∧ OwnE w' w.heap.size v [] := by
  by_cases h0 : n = 0
  · subst h0
    go_enter Tryz.func236, Tryz.ntmps236
    go_wp2
    go_ret
    exact ⟨_, rfl, Below.refl _ _, OwnR.nil _ _ _ _ _⟩
  · obtain ⟨i0, hi, hz0, hz1, hz2⟩ := info_parts Tryz.info226
    have hold : (Builtin.firstCells i0.size 0 (.slice none 0 0)).run Tryz.prog w.drew = .ok ([] : List Value).toArray w.drew := run_firstCells_none w.drew i0.size 0 0 0
    have hrz := fun ty => Lib.run_append_grow_zeros w 112 3 ty 226 i0 _ .i64 .i64 Tryz.underlying112 Tryz.underlying3 hi hz0 none 0 0 [] hold n (by omega) (by omega) (by omega) (by omega) (by rw [hz2]; omega) (growslice_fits (by omega) (by rw [hz2]; omega))
    rw [Nat.zero_add] at hrz
    have hGn := grownCap_ge w n 0 226
    have hGm := grownCap_le_maxLen w n 0 226 (by unfold maxLen; omega)
    generalize grownCap w n 0 226 = G at *
    have hGi : G ≤ 9223372036854775807 := by unfold maxLen at hGm; omega
    go_enter Tryz.func236, Tryz.ntmps236
    go_wp2_with (at_builtin; refine Lib.wpList_append_run _ rfl _ _ _ _ rfl _ _ rfl rfl _ _ (hrz _) ?_)
    all_goals go_ret
    all_goals exact ⟨_, rfl, ((Below.refl _ w).alloc (Nat.le_refl _) _).drew, OwnR.drew (World.ownsRow_made (e := 226) (size := 4) w _ G (Nat.le_refl _) hGm (by simp [size_zeroCells]; omega))⟩
abbrev Sl := Option Addr × Nat × Nat
abbrev slV (s : Sl) : Value := .slice s.1 s.2.1 s.2.2
def slC (s : Sl) : List Value := [slV s]
theorem slC_len (s : Sl) : (slC s).length = 1 := rfl
theorem slC_one (s : Sl) : ∀ u ∈ slC s, u.oneCell' = true := by intro u hu; simp [slC] at hu; subst hu; rfl
structure SlAt (w : World) (s : Sl) (l : Ly) : Prop where
  len : s.2.1 = l.length
  cap : l.length ≤ s.2.2
  nil : s.1 = none → s.2.2 = 0 ∧ l = []
  pl : ∀ a, s.1 = some a → ∃ g off, a = ⟨g, off, none⟩
  row : Enp w s.1 l
theorem SlAt.below {w w' : World} {s : Sl} {l : Ly} (h : SlAt w s l) (k : Below w.heap.size w w') : SlAt w' s l := ⟨h.len, h.cap, h.nil, h.pl, h.row.below k⟩
theorem OwnR.slAt {w : World} {base : Nat} {v : Value} {l : Ly} (h : OwnE w base v l) : ∃ s : Sl, v = slV s ∧ SlAt w s l ∧ ∀ a, s.1 = some a → base ≤ a.block ∧ a.block < w.heap.size := by
  obtain ⟨q, cap, rfl, hc, hr, hn, hb⟩ := h.rp enC_len
  refine ⟨(q, l.length, cap), rfl, ⟨rfl, hc, hn, fun a ha => ?_, hr.enp⟩, hb⟩
  rcases World.ownsRow.shapeE h with h' | ⟨g, c, h'⟩
  · cases (Value.slice.inj h').1; cases ha
  · have := (Value.slice.inj h').1
    rw [show q = some a from ha] at this
    cases this
    exact ⟨g, 0, rfl⟩
structure Lyp (w : World) (q : Option Addr) (xs : List (Sl × Ly)) : Prop where
  row : Rp slC 1 w q (xs.map (·.1))
  each : ∀ x ∈ xs, SlAt w x.1 x.2
theorem Lyp.below {w w' : World} {q : Option Addr} {xs : List (Sl × Ly)} (h : Lyp w q xs) (k : Below w.heap.size w w') : Lyp w' q xs := ⟨h.row.below k, fun x hx => (h.each x hx).below k⟩
theorem Lyp.at {w : World} {q : Option Addr} {xs : List (Sl × Ly)} (h : Lyp w q xs) (i : Nat) (hi : i < xs.length) : ∃ g off, q = some ⟨g, off, none⟩ ∧ w.cell? ⟨g, off + i, none⟩ = some (slV xs[i].1) := by
  obtain ⟨g, off, e, hc⟩ := h.row i (by simpa using hi) 0 (slV xs[i].1) (by simp [slC])
  exact ⟨g, off, e, by simpa using hc⟩
def sumL (xs : List (Sl × Ly)) : Nat := (xs.map fun x => x.2.length).sum
def catL (xs : List (Sl × Ly)) : Ly := xs.flatMap (·.2)
theorem sumL_snoc {xs : List (Sl × Ly)} {k : Nat} (h : k < xs.length) : sumL (xs.take (k + 1)) = sumL (xs.take k) + xs[k].2.length := by
  unfold sumL; rw [List.take_succ_eq_append_getElem h]; simp only [List.map_append, List.sum_append, List.map_cons, List.map_nil, List.sum_cons, List.sum_nil]; omega
theorem sumL_take (xs : List (Sl × Ly)) (k : Nat) : sumL (xs.take k) ≤ sumL xs := by
  conv => rhs; rw [← List.take_append_drop k xs]
  simp only [sumL, List.map_append, List.sum_append]; omega
theorem catL_snoc {xs : List (Sl × Ly)} {k : Nat} (h : k < xs.length) : catL (xs.take (k + 1)) = catL (xs.take k) ++ xs[k].2 := by
  unfold catL; rw [List.take_succ_eq_append_getElem h, List.flatMap_append, List.flatMap_singleton]
theorem catL_len (xs : List (Sl × Ly)) : (catL xs).length = sumL xs := by simp [catL, sumL]
set_option maxHeartbeats 2000000 in
set_option maxRecDepth 20000 in
theorem concatE_any (q : Option Addr) (qc : Nat) (xs : List (Sl × Ly)) (w : World) (hp : Lyp w q xs) (hl : xs.length ≤ 1000000) (hs : sumL xs ≤ 1000000) :
    Calls Tryz.prog 170 #[.slice q xs.length qc] w fun e w' => ∃ v, e = .returned v ∧ Below w.heap.size w w' ∧ OwnE w' w.heap.size v (catL xs) := by
  go_enter Tryz.func170, Tryz.ntmps170
  go_wp2
  go_loop [3, 11] (fun n i => ∃ k : Nat, k ≤ xs.length ∧ i = .int .i64 k ∧ n = .int .i64 (sumL (xs.take k))) (fun _ i => xs.length - (intOf i).toNat)
  case atStart => exact ⟨0, Nat.zero_le _, rfl, rfl⟩
  case round =>
    obtain ⟨k, hk, rfl, rfl⟩ := hrel
    by_cases hlt : k < xs.length
    · obtain ⟨g, off, rfl, c0⟩ := hp.at k hlt
      have hsl := hp.each _ (List.getElem_mem hlt)
      have hln := hsl.len
      have HS : Hid (sumL (xs.take (k + 1)) = sumL (xs.take k) + xs[k].1.2.1) := by show _ = _; rw [sumL_snoc hlt, hln]
      have hle : sumL (xs.take k) + xs[k].1.2.1 ≤ 1000000 := by rw [← HS.out]; exact Nat.le_trans (sumL_take _ _) hs
      generalize hN : sumL (xs.take k) = N at *
      go_wp2
      go_round
      case rel => exact ⟨k + 1, by omega, by go_num, by rw [HS.out]; go_num⟩
      case measure => simp [intOf]; omega
    · have E : Hid (xs.take k = xs) := List.take_of_length_le (by omega)
      rw [E.out]
      have hG := growE_nil (sumL xs) w hs
      generalize hN : sumL xs = N at *
      go_wp2_with (go_at_call 236; refine hG.mono ?_; rintro e w1 ⟨v1, rfl, hb1, hown1⟩; obtain ⟨a1, cap1, rfl⟩ := hown1.shape)
      have hs1 := hb1.size
      have hp1 := hp.below hb1
      go_loopw [6, 27] (fun v i wr => ∃ j : Nat, j ≤ xs.length ∧ i = .int .i64 j ∧ OwnE wr w.heap.size v (catL (xs.take j)) ∧ Below w.heap.size w wr) (fun _ i _ => xs.length - (intOf i).toNat)
      case atStart => exact ⟨0, Nat.zero_le _, rfl, hown1, hb1⟩
      case round =>
        obtain ⟨j, hj, rfl, hown, hb⟩ := hrel
        have hsr := hb.size
        by_cases hlt : j < xs.length
        · have hpr := hp.below hb
          obtain ⟨g, off, rfl, c0⟩ := hpr.at j hlt
          have hsl := hpr.each _ (List.getElem_mem hlt)
          have hC := catL_snoc hlt
          have HC : Hid (catL (xs.take (j + 1)) = catL (xs.take j) ++ xs[j].2) := hC
          have hle : (catL (xs.take j)).length + xs[j].2.length ≤ 1000000 := by rw [← List.length_append, ← hC, catL_len]; exact Nat.le_trans (sumL_take _ _) (by omega)
          clear hC
          obtain ⟨a2, cap2, rfl⟩ := hown.shape
          go_wp2_with (at_builtin; refine wpList_appR _ rfl (.tmp 31) (.tmp 32) 226 112 Tryz.info226 rfl (by decide) Tryz.underlying112 enC_len enC_one rfl w.heap.size _ _ xs[j].2 xs[j].1.1 xs[j].1.2.2 rfl (by rw [← hsl.len]; rfl) hsr hown hsl.nil hsl.pl hsl.row.rp (by omega) (by omega) ?_; intro v3 w3 hown3 kp3; have hb3 := hown.belowOwn hsr kp3; obtain ⟨a3, cap3, rfl⟩ := hown3.shape)
          go_roundw
          case rel => exact ⟨j + 1, by omega, by go_num, by rw [HC.out]; rwa [List.length_append] at hown3, hb.trans hb3⟩
          case measure => simp [intOf]; omega
        · have E2 : Hid (xs.take j = xs) := List.take_of_length_le (by omega)
          rw [E2.out] at hown
          obtain ⟨a2, cap2, rfl⟩ := hown.shape
          go_wp2
          go_ret
          exact ⟨_, rfl, hb, hown⟩
end Go.Proofs.YtoabedkcieindabGreatDoor

namespace Go.Proofs.YtoabedkcieindabGreatDoor
open Go.RowKit Go.Maps Go.Sort
theorem mixedP : Tryz.prog.follows .mixedOrders = true := by kernel_rfl
def LeastK (ls : List Ly) (k i : Nat) : Prop :=
  i < k ∧ ∃ e, (ls.getD i []).head? = some e ∧ (∀ j f, j < k → (ls.getD j []).head? = some f → bytesBefore f.op.key e.op.key = false) ∧
    (∀ j f, j < i → (ls.getD j []).head? = some f → bytesBefore e.op.key f.op.key = true)
def FirstK (ls : List Ly) (k : Nat) (v : Int) : Prop := (v = -1 ∧ ∀ j, j < k → ls.getD j [] = []) ∨ ∃ i : Nat, v = i ∧ LeastK ls k i
def firstV (ls : List Ly) : Int := match leastI ls with | none => -1 | some i => i
theorem FirstK.end {ls : List Ly} {v : Int} (h : FirstK ls ls.length v) : v = firstV ls := by
  unfold firstV
  rcases h with ⟨rfl, hn⟩ | ⟨i, rfl, hi, e, h1, h2, h3⟩
  · cases hl : leastI ls with
    | none => rfl
    | some i =>
      exfalso
      obtain ⟨e, h1, _⟩ := leastI_is hl
      by_cases hi : i < ls.length
      · rw [hn i hi] at h1; cases h1
      · simp [List.getD, List.getElem?_eq_none (by omega : ls.length ≤ i)] at h1
  · rw [leastI_of (i := i) ⟨e, h1, fun j f hf => ?_, h3⟩]
    by_cases hj : j < ls.length
    · exact h2 j f hj hf
    · simp [List.getD, List.getElem?_eq_none (by omega : ls.length ≤ j)] at hf
theorem FirstK.skip {ls : List Ly} {k : Nat} {v : Int} (h : FirstK ls k v) (hk : ls.getD k [] = []) : FirstK ls (k + 1) v := by
  rcases h with ⟨rfl, hn⟩ | ⟨i, rfl, hi, e, h1, h2, h3⟩
  · exact .inl ⟨rfl, fun j hj => by rcases Nat.lt_or_ge j k with h | h; exact hn j h; obtain rfl : j = k := by omega
                                    exact hk⟩
  · refine .inr ⟨i, rfl, by omega, e, h1, fun j f hj hf => ?_, h3⟩
    rcases Nat.lt_or_ge j k with h | h
    · exact h2 j f h hf
    · obtain rfl : j = k := by omega
      rw [hk] at hf; cases hf
theorem FirstK.stay {ls : List Ly} {k i : Nat} {e f : En} {t : Ly} (h : LeastK ls k i) (hk : ls.getD k [] = f :: t) (he : (ls.getD i []).head? = some e) (hb : bytesBefore f.op.key e.op.key = false) : FirstK ls (k + 1) i := by
  obtain ⟨hi, e', h1, h2, h3⟩ := h
  rw [he] at h1; cases h1
  refine .inr ⟨i, rfl, by omega, e, he, fun j g hj hg => ?_, h3⟩
  rcases Nat.lt_or_ge j k with h | h
  · exact h2 j g h hg
  · obtain rfl : j = k := by omega
    rw [hk] at hg; cases hg; exact hb
theorem FirstK.less {ls : List Ly} {k i : Nat} {e f : En} {t : Ly} (h : LeastK ls k i) (hk : ls.getD k [] = f :: t) (he : (ls.getD i []).head? = some e) (hb : bytesBefore f.op.key e.op.key = true) : FirstK ls (k + 1) k := by
  obtain ⟨hi, e', h1, h2, h3⟩ := h
  rw [he] at h1; cases h1
  refine .inr ⟨k, rfl, by omega, f, by rw [hk]; rfl, fun j g hj hg => ?_, fun j g hj hg => lt_le_trans hb (h2 j g hj hg)⟩
  rcases Nat.lt_or_ge j k with h | h
  · exact lt_asymm (lt_le_trans hb (h2 j g h hg))
  · obtain rfl : j = k := by omega
    rw [hk] at hg; cases hg; exact WideAt.bytes_irrefl _
theorem FirstK.one {ls : List Ly} {k : Nat} {f : En} {t : Ly} (hn : ∀ j, j < k → ls.getD j [] = []) (hk : ls.getD k [] = f :: t) : FirstK ls (k + 1) k := by
  refine .inr ⟨k, rfl, by omega, f, by rw [hk]; rfl, fun j g hj hg => ?_, fun j g hj hg => ?_⟩
  · rcases Nat.lt_or_ge j k with h | h
    · rw [hn j h] at hg; cases hg
    · obtain rfl : j = k := by omega
      rw [hk] at hg; cases hg; exact WideAt.bytes_irrefl _
  · rw [hn j hj] at hg; cases hg
theorem SlAt.head {w : World} {s : Sl} {e : En} {t : Ly} (h : SlAt w s (e :: t)) : ∃ g off, s.1 = some ⟨g, off, none⟩ ∧ w.cell? ⟨g, off, none⟩ = some (str e.op.key) ∧ w.cell? ⟨g, off + 1, none⟩ = some (str e.op.val) ∧ w.cell? ⟨g, off + 2, none⟩ = some (.bool e.op.gone) ∧ w.cell? ⟨g, off + 3, none⟩ = some (.int .i64 e.batch) := by
  obtain ⟨g, off, hq, c0, c1, c2, c3⟩ := h.row 0 (by simp)
  exact ⟨g, off, hq, by simpa using c0, by simpa using c1, by simpa using c2, by simpa using c3⟩
theorem sndAt (xs : List (Sl × Ly)) (k : Nat) (h : k < xs.length) : (xs.map (·.2)).getD k [] = xs[k].2 := by simp [List.getD, h]
set_option maxHeartbeats 1600000 in
set_option maxRecDepth 20000 in
theorem first_any (q : Option Addr) (qc : Nat) (xs : List (Sl × Ly)) (w : World) (hp : Lyp w q xs) (hl : xs.length ≤ 1000000) :
    Calls Tryz.prog 197 #[.slice q xs.length qc] w fun e w' => e = .returned (.int .i64 (firstV (xs.map (·.2)))) ∧ Below w.heap.size w w' := by
  go_enter Tryz.func197, Tryz.ntmps197
  go_wp2
  go_loopw [3, 8] (fun v i wr => ∃ (k : Nat) (a : Int), k ≤ xs.length ∧ i = .int .i64 k ∧ v = .int .i64 a ∧ FirstK (xs.map (·.2)) k a ∧ Below w.heap.size w wr) (fun _ i _ => xs.length - (intOf i).toNat)
  case atStart => exact ⟨0, -1, Nat.zero_le _, rfl, rfl, .inl ⟨rfl, fun j hj => by omega⟩, Below.refl _ _⟩
  case round =>
    obtain ⟨k, a, hk, rfl, rfl, hF, hb⟩ := hrel
    by_cases hlt : k < xs.length
    · have hpr := (hp.below hb)
      obtain ⟨g, off, rfl, c0⟩ := hpr.at k hlt
      have hsl := hpr.each _ (List.getElem_mem hlt)
      have HG := sndAt xs k hlt
      generalize hxk : xs[k] = x at *
      obtain ⟨⟨sa, sn, sc⟩, V⟩ := x
      simp only at HG hsl c0
      have hln : sn = V.length := hsl.len
      subst hln
      replace c0 : wr.cell? ⟨g, off + k, none⟩ = some (.slice sa V.length sc) := c0
      cases V with
      | nil =>
        have HF : Hid (FirstK (xs.map (·.2)) (k + 1) a) := hF.skip HG
        clear hF
        go_wp2
        go_region
        go_wp2
        go_roundw
        case rel => exact ⟨k + 1, a, by omega, by go_num, rfl, HF.out, hb.drew⟩
        case measure => simp [intOf]; omega
      | cons f t =>
        obtain ⟨g1, off1, hq1, d0, d1, d2, d3⟩ := hsl.head
        simp only at hq1
        subst hq1
        rcases hF with ⟨rfl, hn⟩ | ⟨i, rfl, hL⟩
        · have HF : Hid (FirstK (xs.map (·.2)) (k + 1) k) := FirstK.one hn HG
          clear hn
          go_wp2
          go_region
          go_wp2
          go_roundw
          case rel => exact ⟨k + 1, k, by omega, by go_num, rfl, HF.out, hb.drew⟩
          case measure => simp [intOf]; omega
        · have hi := hL.1
          obtain ⟨_, e, he, _⟩ := id hL
          have hil : i < xs.length := by omega
          obtain ⟨g', off', e', c1⟩ := hpr.at i hil
          cases e'
          have hsl2 := hpr.each _ (List.getElem_mem hil)
          have HG2 := sndAt xs i hil
          generalize hxi : xs[i] = y at *
          obtain ⟨⟨ta, tn, tc⟩, U⟩ := y
          simp only at HG2 hsl2 c1
          have hln2 : tn = U.length := hsl2.len
          subst hln2
          replace c1 : wr.cell? ⟨g, off + i, none⟩ = some (.slice ta U.length tc) := c1
          have he' := he
          rw [HG2] at he'
          cases U with
          | nil => cases he'
          | cons e1 t1 =>
            cases he'
            obtain ⟨g2, off2, hq2, p0, p1, p2, p3⟩ := hsl2.head
            simp only at hq2
            subst hq2
            cases hbb : bytesBefore f.op.key e.op.key with
            | true =>
              have HF : Hid (FirstK (xs.map (·.2)) (k + 1) k) := FirstK.less hL HG he hbb
              rw [← less_before] at hbb
              clear hL he
              go_wp2
              refine wp_region_still_lit mixedP (by kernel_rfl) ?_
              (iterate 23 still_step)
              refine wpStill_nil ?_
              go_wp2
              go_roundw
              case rel => exact ⟨k + 1, k, by omega, by go_num, rfl, HF.out, hb.drew⟩
              case measure => simp [intOf]; omega
            | false =>
              have HF : Hid (FirstK (xs.map (·.2)) (k + 1) i) := FirstK.stay hL HG he hbb
              rw [← less_before] at hbb
              clear hL he
              go_wp2
              refine wp_region_still_lit mixedP (by kernel_rfl) ?_
              (iterate 23 still_step)
              refine wpStill_nil ?_
              go_wp2
              go_roundw
              case rel => exact ⟨k + 1, i, by omega, by go_num, rfl, HF.out, hb.drew⟩
              case measure => simp [intOf]; omega
    · have hkk : k = xs.length := by omega
      subst hkk
      have E : Hid (a = firstV (xs.map (·.2))) := FirstK.end (by rw [List.length_map]; exact hF)
      clear hF
      go_wp2
      go_ret
      exact ⟨ret_int E.out, hb⟩
end Go.Proofs.YtoabedkcieindabGreatDoor

namespace Go.Proofs.YtoabedkcieindabGreatDoor
open Go.RowKit Go.Maps Go.Sort
theorem sCl {n : Nm} (h : n.length ≤ 281474976710656) (w : World) : Calls Tryz.prog 59 #[str n] w fun e w' => e = .returned (str n) ∧ Below w.heap.size w w' := sClone_any ⟨n.toArray⟩ w h
structure Og (w W : World) (o : Ox) : Prop where
  box : W.heap[w.heap.size]? = some (.cells #[str o.key, str o.val, .bool o.gone] 103)
  res : W.heap[w.heap.size + 1]? = some (.cells #[.string ⟨#[]⟩, .string ⟨#[]⟩, .bool false] 103)
  bel : Below w.heap.size w W
theorem Og.start (w : World) (o : Ox) : Og w ((w.alloc (.cells #[str o.key, str o.val, .bool o.gone] 103)).alloc (.cells #[.string ⟨#[]⟩, .string ⟨#[]⟩, .bool false] 103)) o :=
  ⟨block_alloc (block_new w _), by have := block_new (w.alloc (.cells #[str o.key, str o.val, .bool o.gone] 103)) (.cells #[.string ⟨#[]⟩, .string ⟨#[]⟩, .bool false] 103); rwa [World.size_alloc] at this, ((Below.refl _ _).alloc (Nat.le_refl _) _).alloc (by simp) _⟩
theorem Og.below {w W W' : World} {o : Ox} (h : Og w W o) (k : Below W.heap.size W W') : Og w W' o := ⟨(k.block _ (lt_of_block h.box)).trans h.box, (k.block _ (lt_of_block h.res)).trans h.res, h.bel.trans (k.mono h.bel.size)⟩
theorem Og.drew {w W : World} {o : Ox} (h : Og w W o) : Og w W.drew o := ⟨h.box, h.res, h.bel.drew⟩
theorem Og.set {w W : World} {o : Ox} (h : Og w W o) (a b c : Value) : (((W.setCell ⟨w.heap.size + 1, 0, none⟩ a).setCell ⟨w.heap.size + 1, 1, none⟩ b).setCell ⟨w.heap.size + 1, 2, none⟩ c).heap[w.heap.size + 1]? = some (.cells #[a, b, c] 103) ∧ Below w.heap.size w (((W.setCell ⟨w.heap.size + 1, 0, none⟩ a).setCell ⟨w.heap.size + 1, 1, none⟩ b).setCell ⟨w.heap.size + 1, 2, none⟩ c) := by
  refine ⟨by rw [block_set (block_set (block_set h.res _) _)]; rfl, ?_⟩
  have k := (((Kp.of_below (S := fun i => w.heap.size ≤ i) (w := W) (w' := W) (Below.refl _ _)).put (g := w.heap.size + 1) (o := 0) (by omega) a).put (g := w.heap.size + 1) (o := 1) (by omega) b).put (g := w.heap.size + 1) (o := 2) (by omega) c
  exact ⟨k.os.trans h.bel.os, k.tape.trans h.bel.tape, k.output.trans h.bel.output, Nat.le_trans h.bel.size k.size, fun i hi => (k.block i (Nat.lt_of_lt_of_le hi h.bel.size) (by omega)).trans (h.bel.block i hi)⟩
set_option maxHeartbeats 1000000 in
set_option maxRecDepth 20000 in
theorem own_any (o : Ox) (w : World) (hk : o.key.length ≤ 1099511627776) (hv : o.gone = false → o.val.length ≤ 1099511627776) :
    Calls Tryz.prog 169 #[aggOp o] w fun e w' => e = .returned (aggOp (bare o)) ∧ Below w.heap.size w w' := by
  have hc1 := fun w => sCl (n := o.key) (by omega) w
  have hF := Og.start w o
  cases hg : o.gone
  · have hc2 := fun w => sCl (n := o.val) (by have := hv hg; omega) w
    have HB : Hid (aggOp (bare o) = .agg #[str o.key, str o.val, .bool false]) := by show _ = _; simp [bare, hg]
    rw [hg] at hF
    clear hv
    go_enter Tryz.func169, Tryz.ntmps169
    go_wp2
    replace hF := hF.drew
    go_region_with (go_at_call 59; (first | refine (hc1 _).mono ?_ | refine (hc2 _).mono ?_); rintro e w1 ⟨rfl, hb1⟩; replace hF := hF.below hb1; have hF1 := hF.box; have hF2 := hF.res; rw [hg] at hF1; obtain ⟨p0, p1, p2, _⟩ := cells3 hF1; obtain ⟨q0, q1, q2, f0, f1, f2⟩ := cells3 hF2)
    all_goals go_wp2
    all_goals
      obtain ⟨s1, s2⟩ := hF.set (str o.key) (str o.val) (.bool false)
      refine bodyPost_ret (results_cell_row rfl _ _ _ _ _ _ _ rfl s1 Tryz.underlying103 rfl rfl) rfl ⟨?_, s2⟩
      rw [HB.out]
  · have HB : Hid (aggOp (bare o) = .agg #[str o.key, str [], .bool true]) := by show _ = _; simp [bare, hg]
    rw [hg] at hF
    clear hv
    go_enter Tryz.func169, Tryz.ntmps169
    go_wp2_with (go_at_call 59; refine (hc1 _).mono ?_; rintro e w1 ⟨rfl, hb1⟩; replace hF := hF.below hb1; have hF2 := hF.res; obtain ⟨q0, q1, q2, f0, f1, f2⟩ := cells3 hF2)
    obtain ⟨s1, s2⟩ := hF.set (str o.key) (str []) (.bool true)
    refine bodyPost_ret (results_cell_row rfl _ _ _ _ _ _ _ rfl s1 Tryz.underlying103 rfl rfl) rfl ⟨?_, s2⟩
    rw [HB.out]
end Go.Proofs.YtoabedkcieindabGreatDoor

namespace Go.Proofs.YtoabedkcieindabGreatDoor
open Go.RowKit Go.Maps Go.Sort
theorem Enp.kept {w w' : World} {S : Nat → Prop} {q : Option Addr} {l : Ly} (h : Enp w q l) (k : Kp S w w') (hs : ∀ a, q = some a → 0 < l.length → ¬ S a.block) : Enp w' q l := fun i hi => by
  obtain ⟨g, off, rfl, c0, c1, c2, c3⟩ := h i hi
  have hb := k.block g (World.block_lt_of_cell? w ⟨g, off + i * 4, none⟩ c0) (hs _ rfl (by omega))
  have hc : ∀ o, w'.cell? ⟨g, o, none⟩ = w.cell? ⟨g, o, none⟩ := fun o => by simp only [World.cell?, hb]
  exact ⟨g, off, rfl, (hc _).trans c0, (hc _).trans c1, (hc _).trans c2, (hc _).trans c3⟩
theorem SlAt.kept {w w' : World} {S : Nat → Prop} {s : Sl} {l : Ly} (h : SlAt w s l) (k : Kp S w w') (hs : ∀ a, s.1 = some a → 0 < l.length → ¬ S a.block) : SlAt w' s l := ⟨h.len, h.cap, h.nil, h.pl, h.row.kept k hs⟩
theorem Enp.noMap {w : World} {bm : Nat} {es : Array MapEntry} {c : Nat} {q : Option Addr} {l : Ly} (h : Enp w q l) (hm : w.heap[bm]? = some (.map es c)) : ∀ a, q = some a → 0 < l.length → a.block ≠ bm := by
  rintro a rfl hl rfl
  obtain ⟨g, off, e, c0, _⟩ := h 0 hl
  cases e
  simp [World.cell?, hm] at c0
def Rs : Value → Option (DataW Sl × List MemPlace)
  | .slice a n c => some (.held (a, n, c), [])
  | _ => none
theorem Rs_held {v : Value} {s : Sl} {z : List MemPlace} (h : Rs v = some (.held s, z)) : v = slV s := by
  unfold Rs at h; split at h
  · simp only [Option.some.injEq, Prod.mk.injEq, DataW.held.injEq] at h; rw [← h.1]
  · cases h
abbrev MX := List (Nm × (Sl × Ly))
def entX (x : Nm × (Sl × Ly)) : Lit × DataW Sl := (.string x.1, .held x.2.1)
def datX (xs : MX) : DataW Sl := .map (xs.map entX)
def mmOf (xs : MX) : Mm := xs.map fun x => (x.1, x.2.2)
theorem mm_get (n : Nm) : ∀ xs : MX, getF n (mmOf xs) = (getF n xs).map (·.2)
  | [] => rfl
  | x :: r => by
    show getF n ((x.1, x.2.2) :: mmOf r) = _
    rw [getF, getF]
    split
    · rfl
    · exact mm_get n r
theorem mm_del (n : Nm) (xs : MX) : del n (mmOf xs) = mmOf (del n xs) := by
  simp only [mmOf, del, List.filter_map]
  rfl
theorem mm_ins (n : Nm) (s : Sl) (l : Ly) : ∀ xs : MX, ins (n, l) (mmOf xs) = mmOf (ins (n, (s, l)) xs)
  | [] => rfl
  | x :: r => by
    show ins (n, l) ((x.1, x.2.2) :: mmOf r) = _
    rw [ins, ins]
    split
    · rfl
    · rw [mm_ins n s l r]; rfl
theorem at_datX (n : Nm) (z : DataW Sl) : ∀ xs : MX, (datX xs).atKey (.string n) z = match getF n xs with | none => z | some p => .held p.1
  | [] => rfl
  | x :: r => by
    have ih := at_datX n z r
    simp only [datX, DataW.atKey, List.map_cons, List.find?_cons] at ih ⊢
    rw [getF]
    by_cases e : x.1 = n
    · simp [entX, same_str, e]
    · have : (Lit.string x.1).sameKey (.string n) = false := by rw [same_str]; simpa using e
      simp only [entX, this, if_neg e]
      exact ih
theorem del_datX (n : Nm) (xs : MX) : (datX xs).del (.string n) = datX (del n xs) := by
  simp only [datX, DataW.del, del, List.filter_map]
  congr 2
theorem ins_datX (x : Nm × (Sl × Ly)) : ∀ xs : MX, DataW.insert (entX x) (xs.map entX) = (ins x xs).map entX
  | [] => rfl
  | y :: r => by
    rw [List.map_cons, DataW.insert, ins]
    show (if bytesBefore x.1 y.1 then _ else _) = _
    split
    · rfl
    · rw [List.map_cons, ins_datX x r]
theorem put_datX (n : Nm) (p : Sl × Ly) (xs : MX) : (datX xs).put (.string n) (.held p.1) = datX (ins (n, p) (del n xs)) := by
  have h1 := del_datX n xs
  simp only [datX, DataW.del, DataW.map.injEq] at h1
  simp only [datX, DataW.put]
  rw [h1]
  exact congrArg _ (ins_datX (n, p) (del n xs))
theorem tightX {w : World} {bm k : Nat} {xs : MX} (h : w.ownsMap Tryz.prog 9 Rs bm k (datX xs)) : w.ownsMap Tryz.prog 9 Rs bm xs.length (datX xs) := by
  obtain ⟨es, c, h1, F, h3, h4⟩ := h
  refine ⟨es, c, h1, F, ?_, h4⟩
  have := congrArg Maps.size h4
  simp only [datX, Maps.size, List.length_map, length_sorted, Array.length_toList] at this
  omega
def MemAt (w : World) (E : Nat → Prop) (bm : Nat) (m : Mm) : Prop :=
  ∃ xs : MX, mmOf xs = m ∧ w.ownsMap Tryz.prog 9 Rs bm xs.length (datX xs) ∧ ∀ x ∈ xs, SlAt w x.2.1 x.2.2 ∧ ∀ a, x.2.1.1 = some a → E a.block
theorem MemAt.lt {w : World} {E : Nat → Prop} {bm : Nat} {m : Mm} (h : MemAt w E bm m) : bm < w.heap.size := by
  obtain ⟨_, _, h, _⟩ := h; exact h.lt
theorem MemAt.isMap {w : World} {E : Nat → Prop} {bm : Nat} {m : Mm} (h : MemAt w E bm m) : ∃ es c, w.heap[bm]? = some (.map es c) := by
  obtain ⟨_, _, ⟨es, c, h, _⟩, _⟩ := h; exact ⟨es, c, h⟩
theorem MemAt.ne {w : World} {E : Nat → Prop} {bm b : Nat} {m : Mm} {cs : Array Value} {t : TypeId} {z : Nat × Nat} (h : MemAt w E bm m) (hb : w.heap[b]? = some (.cells cs t z)) : b ≠ bm := by
  rintro rfl
  obtain ⟨es, c, h1⟩ := h.isMap
  rw [h1] at hb; cases hb
theorem MemAt.kept {w w' : World} {E S : Nat → Prop} {bm : Nat} {m : Mm} (h : MemAt w E bm m) (k : Kp S w w') (h1 : ¬ S bm) (h2 : ∀ i, E i → ¬ S i) : MemAt w' E bm m := by
  obtain ⟨xs, e, hm, hx⟩ := h
  exact ⟨xs, e, ownsMap_of_block hm (k.block bm hm.lt h1), fun x hxx => ⟨(hx x hxx).1.kept k (fun a ha _ => h2 _ ((hx x hxx).2 a ha)), (hx x hxx).2⟩⟩
theorem MemAt.below {w w' : World} {E : Nat → Prop} {bm : Nat} {m : Mm} (h : MemAt w E bm m) (k : Below w.heap.size w w') : MemAt w' E bm m := h.kept (S := fun _ => False) (Kp.of_below k) (fun f => f) (fun _ _ f => f)
theorem MemAt.alloc {w : World} {E : Nat → Prop} {bm : Nat} {m : Mm} (h : MemAt w E bm m) (o : Obj) : MemAt (w.alloc o) E bm m := h.below ((Below.refl _ _).alloc (Nat.le_refl _) _)
theorem MemAt.mono {w : World} {E F : Nat → Prop} {bm : Nat} {m : Mm} (h : MemAt w E bm m) (hE : ∀ k, E k → F k) : MemAt w F bm m := by
  obtain ⟨xs, e, hm, hx⟩ := h
  exact ⟨xs, e, hm, fun x hxx => ⟨(hx x hxx).1, fun a ha => hE _ ((hx x hxx).2 a ha)⟩⟩
theorem MemAt.look {w : World} {E : Nat → Prop} {bm : Nat} {m : Mm} (h : MemAt w E bm m) (n : Nm) (hn : n.length ≤ maxLen) :
    ∃ s : Sl, (Instr.lookup 107 (.map (some bm)) (str n) false).run Tryz.prog w = .ok (slV s) w ∧ SlAt w s ((getF n m).getD []) ∧ ∀ a, s.1 = some a → E a.block := by
  obtain ⟨xs, rfl, hm, hx⟩ := h
  obtain ⟨v, z, hrun, hv⟩ := hm.lookup keyedS Tryz.underlying107 (Tryz.zeroValue112 w) (zd := .held (none, 0, 0)) (zp := []) rfl (keyS hn)
  rw [at_datX] at hv
  rw [mm_get]
  cases hg : getF n xs with
  | none =>
    rw [hg] at hv
    exact ⟨(none, 0, 0), by rw [hrun, Rs_held hv], ⟨rfl, Nat.le_refl _, fun _ => ⟨rfl, rfl⟩, fun a ha => (by cases ha), Enp.nil _ _⟩, fun a ha => by cases ha⟩
  | some p =>
    rw [hg] at hv
    have hmem := getF_mem hg
    exact ⟨p.1, by rw [hrun, Rs_held hv], (hx _ hmem).1, (hx _ hmem).2⟩
theorem mem_insF {α : Type} {x y : Nm × α} : ∀ {l : List (Nm × α)}, y ∈ ins x l → y = x ∨ y ∈ l
  | [], h => by simp [ins] at h; exact .inl h
  | z :: r, h => by
    rw [ins] at h
    split at h
    · simpa using h
    · rcases List.mem_cons.1 h with rfl | h
      · exact .inr (by simp)
      · rcases mem_insF h with rfl | h
        · exact .inl rfl
        · exact .inr (by simp [h])
theorem MemAt.put {w : World} {E : Nat → Prop} {bm : Nat} {m : Mm} (h : MemAt w E bm m) (n : Nm) (s : Sl) (l : Ly) (hn : n.length ≤ maxLen) (hl : m.length < maxLen) (hs : SlAt w s l) (hE : ∀ a, s.1 = some a → E a.block) :
    ∃ w', (Instr.mapUpdate 107 (.map (some bm)) (str n) (slV s)).run Tryz.prog w = .ok () w' ∧ MemAt w' E bm (ins (n, l) (del n m)) ∧ Kp (fun i => i = bm) w w' := by
  obtain ⟨es, c, hM⟩ := h.isMap
  obtain ⟨xs, rfl, hm, hx⟩ := h
  obtain ⟨w', h1, h2, h3⟩ := hm.update keyedS Tryz.underlying107 (by simpa [mmOf] using hl) (keyS hn) (d := .held s) (ps := []) (val := slV s) rfl
  have kp : Kp (fun i => i = bm) w w' := (Kp.refl _ _).grown h3 (fun k hk _ => by cases hk; rfl)
  have keep : ∀ {s : Sl} {l : Ly}, SlAt w s l → SlAt w' s l := fun hs => hs.kept kp (hs.row.noMap hM)
  have h2' := put_datX n (s, l) xs
  rw [h2'] at h2
  refine ⟨w', h1, ⟨ins (n, (s, l)) (del n xs), ?_, tightX h2, fun x hxx => ?_⟩, kp⟩
  · rw [mm_del, mm_ins n s l]
  · rcases mem_insF hxx with rfl | hd
    · exact ⟨keep hs, hE⟩
    · have := (List.mem_filter.1 (show x ∈ xs.filter _ from hd)).1
      exact ⟨keep (hx x this).1, (hx x this).2⟩
end Go.Proofs.YtoabedkcieindabGreatDoor
