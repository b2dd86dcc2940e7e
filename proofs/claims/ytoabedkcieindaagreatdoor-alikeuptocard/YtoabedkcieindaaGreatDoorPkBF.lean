import Derived.Test.YtoabedkcieindaaGreatDoorPkBE
import Derived.Test.YtoabedkcieindaaGreatDoorLayI
import Derived.Sort.OwnSortedInts
namespace Go.Proofs.YtoabedkcieindaaGreatDoor
open Go.RowKit Go.Maps Go.Sort Go.Shelf
abbrev eI (n : Int) : Value := .int .i64 n
def OwnZ (w : World) (base : Nat) (v : Value) (l : List Int) : Prop := w.ownsRow base 3 1 v l.length (l.map eI)
theorem OwnZ.at {w : World} {base : Nat} {v : Value} {l : List Int} (h : OwnZ w base v l) : ∃ q cap, v = .slice q l.length cap ∧ ∀ i (hi : i < l.length), ∃ g, q = some ⟨g, 0, none⟩ ∧ w.cell? ⟨g, i, none⟩ = some (eI l[i]) := by
  rcases h.2 with ⟨hv, hn⟩ | ⟨g, cap, cur, hv, hb, hgg, _⟩
  · exact ⟨none, 0, by rw [hv, hn], fun i hi => by omega⟩
  · refine ⟨_, cap, hv, fun i hi => ⟨g, rfl, ?_⟩⟩
    have hc := World.ownsRow.cells h (g := g) (by rw [hv]; rfl) i (eI l[i]) (by simp [hi])
    rwa [Addr.add_lit, Nat.zero_add] at hc
theorem sortI_any (v : Value) (base : Nat) (ss : List Int) (w : World) (h : OwnZ w base v ss) (hl : ss.length ≤ 4194304) :
    Calls Tryz.prog 237 #[v] w fun e w' => e = .returned (.tuple #[]) ∧ OwnZ w' base v (ss.mergeSort (fun x y => decide (x ≤ y))) ∧ Kp (fun i => v.ownBlock = some i) w w' := by
  rcases h.2 with ⟨rfl, hn⟩ | ⟨g, cap, cur, rfl, hbase, hb, h1, h2, h3, h4⟩
  · have hnil : ss = [] := List.eq_nil_of_length_eq_zero hn
    subst hnil
    refine (AnyM.slices_Sort_int_none Tryz.sortI237 none 0 w).mono ?_
    rintro e w' ⟨rfl, rfl⟩
    exact ⟨rfl, by rw [List.mergeSort_nil]; exact World.ownsRow_nil _ _ _ _, Kp.refl _ _⟩
  · have hH : Holds (Value.int .i64) w g 0 ss.toArray := holds_of_blockI hb (by have h5 : cur.toList.take (ss.length * 1) = ss.map eI := h4; simpa using h5)
    refine (AnyM.slices_Sort_int Tryz.sortI237 g 0 cap ss w hH (lt_of_block hb) (by omega)).mono ?_
    rintro e w' ⟨rfl, nn, os, rfl⟩
    refine ⟨rfl, ?_, (Kp.refl _ _).grown (grownBy_sortedI _) (fun k hk _ => by cases hk; rfl)⟩
    have := ownsRow_sortedI (n := nn) (os := os) (ss := ss) (ts := ss.mergeSort (fun x y => decide (x ≤ y))) (by simp) hbase hb h1 h2 h3
    unfold OwnZ
    rw [List.length_mergeSort]
    exact this
def spanR (I : List Int) : Int × Int := if 0 ≤ I.getD 0 0 ∧ ∀ i, i < I.length → I.getD i 0 = I.getD 0 0 + i then (I.getD 0 0, I.getD 0 0 + I.length) else (0, 0)
theorem spanR_no {I : List Int} {k : Nat} (hk : k < I.length) (h : I.getD 0 0 < 0 ∨ I.getD k 0 ≠ I.getD 0 0 + k) : spanR I = (0, 0) := by
  unfold spanR
  rw [if_neg]
  rintro ⟨h1, h2⟩
  rcases h with h | h
  · omega
  · exact h (h2 k hk)
theorem spanR_yes {I : List Int} (h : ∀ i, i < I.length → 0 ≤ I.getD 0 0 ∧ I.getD i 0 = I.getD 0 0 + i) (h0 : 0 < I.length) : spanR I = (I.getD 0 0, I.getD 0 0 + I.length) := by
  unfold spanR
  rw [if_pos ⟨(h 0 h0).1, fun i hi => (h i hi).2⟩]
def idxs (st : Ls) (ns : List Nat) : List Int := ns.map fun n : Nat => idxF (st.tabs.map (·.number)) (n : Int) 0
theorem idxF_bnd (n : Int) : ∀ (l : List Nat) (k : Int), -1 ≤ k → -1 ≤ idxF l n k ∧ idxF l n k ≤ max (-1) (k + l.length)
  | [], k, h => by simp [idxF]; omega
  | x :: r, k, h => by
    have ih := idxF_bnd n r (k + 1) (by omega)
    rw [idxF]
    split
    · simp; omega
    · simp only [List.length_cons]; omega
set_option maxHeartbeats 1000000 in
set_option maxRecDepth 20000 in
theorem span_any (T bd bm bsn : Nat) (s : Sl) (l : List Tr) (st : Ls) (E : Nat → Prop) (q : Option Addr) (qc : Nat) (ns : List Nat) (w : World) (hL : LsAt w E T bd bm bsn s l st) (hll : l.length ≤ 1000) (hn : Inp w q ns) (h1 : 1 ≤ ns.length) (h2 : ns.length ≤ l.length) :
    Calls Tryz.prog 180 #[.pointer (some ⟨T, 0, none⟩), .slice q ns.length qc] w fun e w' => e = .returned (.tuple #[.int .i64 (spanR ((idxs st ns).mergeSort (fun x y => decide (x ≤ y)))).1, .int .i64 (spanR ((idxs st ns).mergeSort (fun x y => decide (x ≤ y)))).2]) ∧ Below w.heap.size w w' := by
  obtain ⟨i0, hi0, hz0, hz1, hz2⟩ := info_parts Tryz.infoN
  have hIx := fun (n : Int) w1 (hb : Below w.heap.size w w1) => indexOf_any T bd bm bsn s l st E n w1 (hL.below hb) hll
  obtain ⟨sq, sn, sc⟩ := s
  obtain rfl : sn = l.length := hL.tab.len
  have c4 : w.cell? ⟨T, 4, none⟩ = some (.slice sq l.length sc) := hL.cell 4
  obtain ⟨m, hm⟩ : ∃ m, ns.length = m := ⟨_, rfl⟩
  obtain ⟨M, hM⟩ : ∃ M, l.length = M := ⟨_, rfl⟩
  rw [hm] at h1 h2
  rw [hm]
  rw [hM] at c4 h2
  have hne : ¬ ((m : Int) = 0) := by omega
  have hne2 : ¬ ((M : Int) < (m : Int)) := by omega
  go_enter Tryz.func180, Tryz.ntmps180
  go_wp2
  clear c4
  go_loopw [6, 26] (fun v i wr => ∃ k : Nat, k ≤ m ∧ i = .int .i64 k ∧ OwnZ wr w.heap.size v (idxs st (ns.take k)) ∧ Below w.heap.size w wr) (fun _ i _ => m - (intOf i).toNat)
  case atStart => exact ⟨0, Nat.zero_le _, rfl, World.ownsRow_nil _ _ _ _, Below.refl _ _⟩
  case round =>
    obtain ⟨k, hk, rfl, hown, hb⟩ := hrel
    have hs := hb.size
    by_cases hlt' : k < m
    · have hlt : k < ns.length := by omega
      obtain ⟨g, off, rfl, c0⟩ := hn.below hb k hlt
      have HT : Hid (idxs st (ns.take (k + 1)) = idxs st (ns.take k) ++ [idxF (st.tabs.map (·.number)) ns[k] 0]) := by show _ = _; unfold idxs; rw [List.take_succ_eq_append_getElem hlt, List.map_append]; rfl
      have hlk : (idxs st (ns.take k)).length = k := by simp [idxs]; omega
      have hI := hIx ns[k] wr hb
      generalize idxF (st.tabs.map (·.number)) ns[k] 0 = ix at *
      generalize idxs st (ns.take k) = L at *
      subst hlk
      go_wp2_with (first
        | (go_at_call 236; refine hI.mono ?_; rintro e w1 ⟨rfl, hb1⟩; have hown1 : OwnZ w1 w.heap.size _ L := ownsRow_of_block hown (fun q hq => hb1.block q (World.ownsRow.lt hown q hq).2))
        | (at_builtin; refine wpList_append_own _ rfl (.tmp 30) (.tmp 34) 27 rfl w.heap.size 3 i0 _ 1 8 Tryz.underlying27 hi0 hz0 hz1 hz2 rfl (by decide) _ L.length (L.map eI) rfl (World.ownsRow.alloc hown1 _) ⟨w1.heap.size, 0, none⟩ 1 1 [eI ix] rfl rfl ?_ (by simp [Value.oneCell']) (by unfold maxLen; omega) (by omega) (by have := hb1.size; simp; omega) ?_; rotate_left; intro v' w2 hown' hgrow _)
        | go_in)
      · go_roundw
        case rel => exact ⟨L.length + 1, by omega, by go_num, by rw [HT.out]; unfold OwnZ; rw [List.length_append, List.map_append]; exact hown', ((hb.trans (hb1.mono hs)).alloc (by have := hb1.size; omega) _).grown hgrow (by have := hb1.size; simp; omega) (fun k hk => (World.ownsRow.lt hown k hk).1)⟩
        case measure => simp [intOf]; omega
      · intro j u hu
        rw [Addr.add_lit, Nat.zero_add]
        rw [cell_block (block_new w1 (.cells #[eI ix] 3))]
        simpa using hu
    · have E : Hid (ns.take k = ns) := List.take_of_length_le (by omega)
      rw [E.out] at hown
      have hil : (idxs st ns).length = m := by unfold idxs; rw [List.length_map]; exact hm
      have hSo := sortI_any _ w.heap.size (idxs st ns) wr hown (by omega)
      obtain ⟨q0, cap0, hv0, _⟩ := hown.at
      rw [hil] at hv0
      subst hv0
      have hJl : ((idxs st ns).mergeSort (fun x y => decide (x ≤ y))).length = m := by rw [List.length_mergeSort]; exact hil
      have hJb : ∀ x ∈ (idxs st ns).mergeSort (fun x y => decide (x ≤ y)), -1 ≤ x ∧ x ≤ 1000 := fun x hx => by
        obtain ⟨y, _, rfl⟩ := List.mem_map.1 (List.mem_mergeSort.1 hx)
        have := idxF_bnd (y : Int) (st.tabs.map (·.number)) 0 (by omega)
        rw [List.length_map, ← hL.is, List.length_map] at this
        rw [← hL.is]
        omega
      obtain ⟨J, hJJ⟩ : ∃ J, (idxs st ns).mergeSort (fun x y => decide (x ≤ y)) = J := ⟨_, rfl⟩
      rw [hJJ] at hSo hJl hJb
      have HJ : Hid ((idxs st ns).mergeSort (fun x y => decide (x ≤ y)) = J) := hJJ
      clear hJJ
      have hJ0 : 0 < J.length := by omega
      clear hown hil hIx
      go_wp2_with (go_at_call 237; refine hSo.mono ?_; rintro e w2 ⟨rfl, hoJ, kJ⟩; obtain ⟨q1, cap1, hv1, hcell⟩ := hoJ.at; obtain ⟨g, hg, d0⟩ := hcell 0 hJ0; rw [hg] at hv1; cases hv1)
      have hbJ : Below w.heap.size w w2 := ⟨kJ.os.trans hb.os, kJ.tape.trans hb.tape, kJ.output.trans hb.output, Nat.le_trans hb.size kJ.size, fun i hi => (kJ.block i (by omega) (fun e => by have := (World.ownsRow.lt hoJ i e).1; omega)).trans (hb.block i hi)⟩
      have hcel : ∀ i (hi : i < J.length), w2.cell? ⟨g, i, none⟩ = some (.int .i64 J[i]) := fun i hi => by
        obtain ⟨g', e', c'⟩ := hcell i hi
        rw [hg] at e'
        cases e'
        exact c'
      have hf0 : J.getD 0 0 = J[0] := by simp [List.getD_eq_getElem?_getD, hJ0]
      have hfb := hJb _ (List.getElem_mem hJ0)
      clear hcell d0
      generalize J[0] = f at *
      go_loopw [4, 5, 44] (fun a b i wr => ∃ k : Nat, a = .int .i64 f ∧ b = .int .i64 0 ∧ i = .int .i64 k ∧ k ≤ J.length ∧ wr = w2 ∧ ∀ j, j < k → 0 ≤ J.getD 0 0 ∧ J.getD j 0 = J.getD 0 0 + j) (fun _ _ i _ => J.length - (intOf i).toNat)
      case atStart => exact ⟨0, rfl, rfl, rfl, Nat.zero_le _, rfl, fun j hj => by omega⟩
      case round =>
        obtain ⟨k2, rfl, rfl, rfl, hk2, rfl, hpre⟩ := hrel
        have HP : Hid (∀ j, j < k2 → 0 ≤ J.getD 0 0 ∧ J.getD j 0 = J.getD 0 0 + j) := hpre
        clear hpre
        by_cases hl2 : k2 < J.length
        · have dk := hcel k2 hl2
          have hgk : J.getD k2 0 = J[k2] := by simp [List.getD_eq_getElem?_getD, hl2]
          have hkb := hJb _ (List.getElem_mem hl2)
          clear hcel
          generalize J[k2] = x at *
          by_cases hfn : f < 0
          · have HE : Hid (spanR J = (0, 0)) := spanR_no hl2 (.inl (by omega))
            go_wp2
            go_ret2
            rw [HJ.out, HE.out]
            exact ⟨rfl, hbJ⟩
          · by_cases hxf : x = f + k2
            · have HS : Hid (∀ j, j < k2 + 1 → 0 ≤ J.getD 0 0 ∧ J.getD j 0 = J.getD 0 0 + j) := fun j hj => by
                by_cases hjk : j < k2
                · exact HP.out j hjk
                · obtain rfl : j = k2 := by omega
                  exact ⟨by omega, by omega⟩
              clear HP hgk hf0
              go_wp2
              go_roundw
              case rel => exact ⟨k2 + 1, by first | rfl | trivial, by first | rfl | trivial, by go_num, by omega, by first | rfl | trivial, HS.out⟩
              case measure => simp [intOf]; omega
            · have HE : Hid (spanR J = (0, 0)) := spanR_no hl2 (.inr (by omega))
              clear HP hgk hf0
              go_wp2
              go_ret2
              rw [HJ.out, HE.out]
              exact ⟨rfl, hbJ⟩
        · have HE : Hid (spanR J = (f, f + J.length)) := by
            show _ = _
            rw [spanR_yes (fun i hi => HP.out i (by omega)) hJ0, hf0]
          clear HP hf0
          go_wp2
          go_ret2
          rw [HJ.out, HE.out]
          exact ⟨rfl, hbJ⟩
end Go.Proofs.YtoabedkcieindaaGreatDoor
