/- The statement's own small functions: givenInts, stillInts. -/
import Derived.Test.YtoabedkcieindaaGreatDoorLawA
namespace Go.Proofs.YtoabedkcieindaaGreatDoor
open Go.RowKit Go.Maps Go.Sort

theorem Tryz.info3 : (Tryz.prog.info? 3).map (fun i => (i.zero, i.size, i.bytes)) = some (some (.int .i64 0), 1, 8) := by kernel_rfl

def encI (n : Int) : Value := .int .i64 n
def marks3 : List Int := [-77, -77, -77]
theorem marks_at (i : Nat) (h : i < marks3.length) : marks3[i] = -77 := by
  match i, h with
  | 0, _ => rfl
  | 1, _ => rfl
  | 2, _ => rfl
  | n + 3, h => exact absurd h (by simp [marks3])

theorem three_at (w : World) (x y z : Value) (t : TypeId) : ∀ i u, [x, y, z][i]? = some u → (w.alloc (.cells #[x, y, z] t)).cell? ((⟨w.heap.size, 0, none⟩ : Addr).add i) = some u := by
  intro i u hu
  match i, hu with
  | 0, hu => simp at hu; subst hu; simp [Addr.add]
  | 1, hu => simp at hu; subst hu; simp [Addr.add]
  | 2, hu => simp at hu; subst hu; simp [Addr.add]

theorem encI_one (l : List Int) : ∀ u ∈ l.map encI, u.oneCell' = true := by
  intro u hu
  obtain ⟨c, _, rfl⟩ := List.mem_map.1 hu
  rfl

theorem intp_at {w : World} {a : Addr} {ks : List Int} (h : Intp w (some a) ks) : ∀ j u, (ks.map encI)[j]? = some u → w.cell? (a.add j) = some u := by
  intro j u hu
  have hj : j < ks.length := by have := (List.getElem?_eq_some_iff.1 hu).1; simpa using this
  obtain ⟨g', off', e, hc⟩ := h j hj
  obtain rfl := Option.some.inj e
  rw [Addr.add_lit, hc]
  rw [List.getElem?_eq_getElem (by simpa using hj)] at hu
  simpa [encI] using hu

theorem row_pos {w : World} {base size n : Nat} {e : TypeId} {v : Value} {xs : List Value} (h : w.ownsRow base e size v n xs) (hn : 0 < n) : ∃ g cap, v = .slice (some ⟨g, 0, none⟩) n cap ∧ base ≤ g ∧ n ≤ cap ∧ cap ≤ maxLen := by
  rcases h.2 with ⟨_, h0⟩ | ⟨g, cap, cur, rfl, hb, _, h1, h2, _⟩
  · omega
  · exact ⟨g, cap, rfl, hb, h1, h2⟩

set_option maxHeartbeats 1000000 in
set_option maxRecDepth 20000 in
theorem givenInts_any (q : Option Addr) (qc : Nat) (ks : List Int) (w : World) (hl : ks.length ≤ 4194304) (hi : Intp w q ks) (hq0 : q = none → ks = [] ∧ qc = 0) :
    Calls Tryz.prog 132 #[.slice q ks.length qc] w fun e w' => ∃ g cap, e = .returned (.slice (some ⟨g, 0, none⟩) ks.length cap) ∧ Below w.heap.size w w' ∧ w.heap.size ≤ g ∧ w'.ownsRow 0 3 1 (.slice (some ⟨g, 0, none⟩) (ks.length + 3) cap) (ks.length + 3) ((ks ++ marks3).map encI) := by
  obtain ⟨i0, hi0, hz0, hz1, hz2⟩ := info_parts Tryz.info3
  cases q with
  | none =>
    obtain ⟨rfl, rfl⟩ := hq0 rfl
    clear hi hq0
    go_enter Tryz.func132, Tryz.ntmps132
    go_wp2_with (first
      | (at_builtin; refine wpList_append_own _ rfl (.tmp 7) (.tmp 8) 27 rfl w.heap.size 3 i0 _ 1 8 Tryz.underlying27 hi0 hz0 hz1 hz2 rfl (by decide) _ _ _ rfl (World.ownsRow_nil _ _ _ _) ⟨w.heap.size, 0, none⟩ 3 3 [.int .i64 (-77), .int .i64 (-77), .int .i64 (-77)] rfl rfl (three_at _ _ _ _ _) (by intro u hu; simp at hu; subst hu; rfl) (by unfold maxLen; omega) (by omega) (by simp; try omega) ?_; intro v1 w1 hown1 hgrow1 _; obtain ⟨g1, cap1, rfl, hg1, hc1, hc2⟩ := row_pos hown1 (by omega); unfold maxLen at hc2)
      | go_in)
    go_ret
    refine ⟨g1, cap1, rfl, ((Below.refl _ _).alloc (Nat.le_refl _) _).grown hgrow1 (by simp) (fun k hk => by cases hk), hg1, ?_⟩
    exact ownsRow_base hown1 (Nat.zero_le _)
  | some a =>
    clear hq0
    have hks : (ks.map encI).length = ks.length * 1 := by simp
    go_enter Tryz.func132, Tryz.ntmps132
    go_wp2_with (first
      | (at_builtin; refine wpList_append_own _ rfl (.tmp 4) (.tmp 5) 27 rfl w.heap.size 3 i0 _ 1 8 Tryz.underlying27 hi0 hz0 hz1 hz2 rfl (by decide) _ _ _ rfl (World.ownsRow_nil _ _ _ _) a ks.length qc (ks.map encI) rfl hks (intp_at hi) (encI_one ks) (by unfold maxLen; omega) (by omega) (Nat.le_refl _) ?_; intro v0 w0 hown0 hgrow0 _; simp only [Nat.zero_add, List.nil_append] at hown0; have hbl0 : Below w.heap.size w w0 := (Below.refl _ _).grown hgrow0 (Nat.le_refl _) (fun k hk => by cases hk); have hs0 := hbl0.size)
      | (at_builtin; refine wpList_append_own _ rfl (.tmp 7) (.tmp 8) 27 rfl w.heap.size 3 i0 _ 1 8 Tryz.underlying27 hi0 hz0 hz1 hz2 rfl (by decide) _ _ _ rfl (hown0.alloc _) ⟨w0.heap.size, 0, none⟩ 3 3 [.int .i64 (-77), .int .i64 (-77), .int .i64 (-77)] rfl rfl (three_at _ _ _ _ _) (by intro u hu; simp at hu; subst hu; rfl) (by unfold maxLen; omega) (by omega) (by simp; try omega) ?_; intro v1 w1 hown1 hgrow1 _; obtain ⟨g1, cap1, rfl, hg1, hc1, hc2⟩ := row_pos hown1 (by omega); unfold maxLen at hc2)
      | go_in)
    go_ret
    refine ⟨g1, cap1, rfl, (hbl0.alloc hs0 _).grown hgrow1 (by simp; omega) (fun k hk => (hown0.lt k hk).1), hg1, ?_⟩
    rw [List.map_append]
    exact ownsRow_base hown1 (Nat.zero_le _)

/-- Behind j rounds of stillInts. -/
def overK (l : List Int) (j : Nat) : List Int := List.replicate j (-77) ++ l.drop j
theorem overK_len (l : List Int) (j : Nat) (h : j ≤ l.length) : (overK l j).length = l.length := by simp [overK]; omega
theorem overK_at (l : List Int) (j : Nat) (h : j < l.length) : (overK l j)[j]'(by rw [overK_len l j (by omega)]; exact h) = l[j] := by
  unfold overK
  rw [List.getElem_append_right (by simp)]
  simp
theorem overK_succ (l : List Int) (j : Nat) (h : j < l.length) : (overK l j).set j (-77) = overK l (j + 1) := by
  unfold overK
  rw [List.set_append_right _ _ (by simp), List.length_replicate, Nat.sub_self, List.drop_eq_getElem_cons h, List.set_cons_zero, List.replicate_succ', List.append_assoc]
  rfl

set_option maxHeartbeats 1000000 in
set_option maxRecDepth 20000 in
theorem stillInts_any (g cap : Nat) (q : Option Addr) (qc : Nat) (ks : List Int) (w : World) (hl : ks.length ≤ 4194304) (hi : Intp w q ks) (hq : ∀ a, q = some a → 0 < ks.length → a.block ≠ g)
    (hown : w.ownsRow 0 3 1 (.slice (some ⟨g, 0, none⟩) (ks.length + 3) cap) (ks.length + 3) ((ks ++ marks3).map encI)) :
    Calls Tryz.prog 133 #[.slice (some ⟨g, 0, none⟩) ks.length cap, .slice q ks.length qc] w fun e w' => e = .returned (.bool true) ∧ Kp (fun i => i = g) w w' := by
  obtain ⟨g', cap', e', _, hc1, hc2⟩ := row_pos hown (by omega)
  obtain ⟨rfl, rfl⟩ : g = g' ∧ cap = cap' := by simpa using e'
  unfold maxLen at hc2
  have hll : (ks ++ marks3).length = ks.length + 3 := by simp [marks3]
  go_enter Tryz.func133, Tryz.ntmps133
  go_wp2
  go_loopw [6] (fun i wr => ∃ j : Nat, j ≤ ks.length + 3 ∧ i = .int .i64 j ∧ Kp (fun i => i = g) w wr ∧ wr.ownsRow 0 3 1 (.slice (some ⟨g, 0, none⟩) (ks.length + 3) cap) (ks.length + 3) ((overK (ks ++ marks3) j).map encI)) (fun i _ => ks.length + 3 - (intOf i).toNat)
  case atStart => exact ⟨0, Nat.zero_le _, rfl, Kp.refl _ _, by simpa [overK] using hown⟩
  case round =>
    obtain ⟨j, hj, rfl, kp, hor⟩ := hrel
    by_cases hlt : j < ks.length + 3
    · have hlt' : j < (ks ++ marks3).length := by omega
      have hc := hor.cellAt j (by omega)
      rw [List.getElem?_map, List.getElem?_eq_getElem (by rw [overK_len _ _ (by omega)]; exact hlt'), overK_at _ j hlt'] at hc
      simp only [Option.map_some, encI] at hc
      have hz := hor.frozenAt j
      have hst := (hor.stored j (.int .i64 (-77))).1
      rw [show (Value.int .i64 (-77)) = encI (-77) from rfl, ← List.map_set, overK_succ _ j hlt'] at hst
      have HST : Hid ((wr.setCell ⟨g, j, none⟩ (encI (-77))).ownsRow 0 3 1 (.slice (some ⟨g, 0, none⟩) (ks.length + 3) cap) (ks.length + 3) ((overK (ks ++ marks3) (j + 1)).map encI)) := hst
      have hir := hi.kept kp hq
      clear hst hown hor
      by_cases hjk : j < ks.length
      · obtain ⟨gk, ok, rfl, hck⟩ := hir j hjk
        have hv : (ks ++ marks3)[j] = ks[j] := List.getElem_append_left hjk
        rw [hv] at hc
        clear hir hi hv
        go_wp2
        all_goals go_roundw
        case rel => exact ⟨j + 1, by omega, by go_num, kp.put rfl _, HST.out⟩
        case measure => simp [intOf]; omega
      · have hv : (ks ++ marks3)[j] = -77 := by
          rw [List.getElem_append_right (by omega)]
          exact marks_at _ _
        rw [hv] at hc
        clear hir hi hv
        go_wp2
        all_goals go_roundw
        case rel => exact ⟨j + 1, by omega, by go_num, kp.put rfl _, HST.out⟩
        case measure => simp [intOf]; omega
    · clear hi hown hor
      go_wp2
      go_ret
      exact ⟨rfl, kp⟩

end Go.Proofs.YtoabedkcieindaaGreatDoor
