/- The program's disk: order, Names. -/
import Derived.Test.YtoabedkcieindaaGreatDoorCodeF
namespace Go.Proofs.YtoabedkcieindaaGreatDoor
open Go.RowKit Go.Maps Go.Sort

theorem before_le : ∀ {a b : List UInt8}, bytesBefore a b = true → a ≤ b
  | [], _, _ => by exact List.nil_le _
  | x :: r, [], h => by cases h
  | x :: r, y :: s, h => by
    simp only [bytesBefore, Bool.or_eq_true, Bool.and_eq_true, decide_eq_true_eq, beq_iff_eq] at h
    rw [List.cons_le_cons_iff]
    rcases h with h | ⟨rfl, h⟩
    · exact .inl h
    · exact .inr ⟨rfl, before_le h⟩
theorem keys_dat (ps : PL) : strKeys (datOf ps) = nmsOf ps := by
  show (ps.map ent).map (fun p => strOf p.1) = ps.map (·.1)
  rw [List.map_map]
  rfl
theorem sorted_names {ps : PL} (h : rising ps) {ss : List (List UInt8)} (hp : ss.Perm (nmsOf ps)) : ss.mergeSort (fun x y => decide (x ≤ y)) = nmsOf ps := by
  rw [mergeSort_of_perm hp]
  apply List.mergeSort_of_pairwise
  unfold nmsOf
  rw [List.pairwise_map]
  exact h.imp (fun hab => by simpa using before_le hab)

set_option maxHeartbeats 1000000 in
theorem order_any {w : World} {S : Nat → Prop} {bd bm : Nat} {ps : PL} {room fuse : Int} {dead : Bool} {turn : Int} (h : PrSt w S bd bm ps room fuse dead turn) (hr : rising ps) (hl : ps.length ≤ 4194304) :
    Calls Tryz.prog 100 #[.pointer (some ⟨bd, 0, none⟩)] w fun e w' => ∃ v, e = .returned v ∧ Below w.heap.size w w' ∧ OwnS w' w.heap.size v (nmsOf ps) := by
  have hsz : Maps.size (datOf ps) = ps.length := by simp [datOf, Maps.size]
  have hS := sorted_any bm ps.length (datOf ps) Rf w h.map (by rw [hsz]; unfold maxLen; omega) (by rw [hsz]; omega)
  obtain ⟨c0, c1, c2, c3, c8, f0, f1, f2, f3, f9⟩ := cells5 h.blk
  refine (callsIn_wide (n := 6)).1 ?_
  have hfK : Fence.wide.fn 155 := trivial
  have hfS : Fence.wide.fn 154 := trivial
  refine callsIn_of_wp Tryz.func100 rfl trivial ?_ rfl
  simp only [Tryz.ntmps100, List.size_toArray, List.length_cons, List.length_nil, Nat.reduceAdd, Nat.reduceSub, Array.replicate_succ, Array.replicate_zero, List.push_toArray, List.append_toArray, List.nil_append, List.cons_append]
  gi_wp2_with (first
    | (gi_at_call 155; refine (keys_any _ _).mono ?_; rintro e w' ⟨rfl, rfl⟩)
    | (gi_at_call 154; refine hS.mono ?_; rintro e w' ⟨v, ss, rfl, hP, hrow, hnil, hb⟩))
  go_ret
  refine ⟨v, rfl, ((Below.refl _ w).alloc (Nat.le_refl _) _).trans (hb.mono (by simp)), ?_⟩
  rw [keys_dat] at hP
  rw [sorted_names hr hP, hP.length_eq] at hrow
  exact ownsRow_base hrow (by simp)

theorem ownS_shape {w : World} {base : Nat} {v : Value} {l : List (List UInt8)} (h : OwnS w base v l) : ∃ a cap, v = .slice a l.length cap ∧ ∀ i (_ : i < l.length), ∃ g, a = some ⟨g, 0, none⟩ ∧ base ≤ g ∧ w.cell? ⟨g, i, none⟩ = some (encS l[i]) := by
  rcases h.2 with ⟨hv, hn⟩ | ⟨g, cap, cur, hv, hb, _⟩
  · exact ⟨none, 0, by rw [hv, hn], fun i hi => by omega⟩
  · subst hv
    refine ⟨_, cap, rfl, fun i hi => ⟨g, rfl, hb, ?_⟩⟩
    rw [World.ownsRow.cellAt (size := 1) h i (by omega)]
    simp [hi]

theorem ownsRow_up {w : World} {base base' : Nat} {e : TypeId} {size : Nat} {v : Value} {n : Nat} {xs : List Value} (h : w.ownsRow base e size v n xs) (hb : ∀ g, v.ownBlock = some g → base' ≤ g) : w.ownsRow base' e size v n xs := by
  refine ⟨h.1, ?_⟩
  rcases h.2 with hn | ⟨g, cap, cur, rfl, hbase, rest⟩
  · exact .inl hn
  · exact .inr ⟨g, cap, cur, rfl, hb g rfl, rest⟩

set_option maxHeartbeats 1000000 in
theorem dNames_dead (b : Nat) (d : Dk) (S : Nat → Prop) (w : World) (hP : ProgAt w S b d) (hd : d.dead = true) :
    Calls Tryz.prog 74 #[.pointer (some ⟨b, 0, none⟩)] w fun e w' => e = .returned (.tuple #[.slice none 0 0, .int .i64 4]) ∧ w' = w := by
  obtain ⟨bm, ps, hst, hfs⟩ := id hP
  rw [hd] at hst
  have hdd := isDead_any hst.blk
  clear hst
  go_enter Tryz.func74, Tryz.ntmps74
  go_wp2_with (go_at_call 99; refine hdd.mono ?_; rintro e w' ⟨rfl, rfl⟩)
  go_ret2
  exact ⟨rfl, rfl⟩

set_option maxHeartbeats 2000000 in
set_option maxRecDepth 20000 in
theorem dNames_any (b : Nat) (d : Dk) (S : Nat → Prop) (w : World) (hP : ProgAt w S b d) (hok : d.Ok) (hl : d.files.length ≤ 4194303) (hd : d.dead = false) :
    Calls Tryz.prog 74 #[.pointer (some ⟨b, 0, none⟩)] w fun e w' => ∃ v, e = .returned (.tuple #[v, .int .i64 0]) ∧ Below w.heap.size w w' ∧ OwnS w' w.heap.size v (nmsOf d.files) := by
  obtain ⟨bm, ps, hst, hfs⟩ := id hP
  rw [hd] at hst
  have hdd := isDead_any hst.blk
  have hri : rising ps := rising_ps (by rw [hfs]; exact hok.rise)
  have hpl : ps.length ≤ 4194303 := by rw [← fs_len, hfs]; exact hl
  have hsz : Maps.size (datOf ps) = ps.length := by simp [datOf, Maps.size]
  have hln := hst.map.len Tryz.underlying146 3
  rw [hsz] at hln
  have HN : Hid (nmsOf d.files = nmsOf ps) := by rw [← hfs]; simp [nmsOf, fsOf, Hid]
  have hnl : ∀ x ∈ nmsOf ps, x.length ≤ 20 := fun x hx => by
    rw [← HN.out] at hx
    obtain ⟨y, hy, rfl⟩ := List.mem_map.1 hx
    exact hok.name y hy
  have hnlen : (nmsOf ps).length = ps.length := by simp [nmsOf]
  obtain ⟨i0, hi, hz0, hz1, hz2⟩ := info_parts Tryz.info9
  obtain ⟨c0, c1, c2, c3, c8, f0, f1, f2, f3, f9⟩ := cells5 hst.blk
  obtain ⟨wA, hmk, hownA, hgrA⟩ := run_make_own (P := Tryz.prog) w w.heap.size 67 9 i0 _ 1 Tryz.underlying67 hi hz0 hz1 .i64 .i64 ps.length (by rw [hz2]; omega) (by unfold maxLen; omega) (Nat.le_refl _)
  have hblA : Below w.heap.size w wA := (Below.refl _ _).grown hgrA (Nat.le_refl _) (fun k hk => by cases hk)
  have hstA := hst.below hblA
  have hord := order_any hstA hri (by omega)
  have HNL : Hid (∀ x ∈ nmsOf ps, x.length ≤ 20) := hnl
  have hszA := hblA.size
  clear hnl hP hst hfs hsz hgrA
  generalize nmsOf ps = N at *
  have HLN : Hid (N.length ≤ 4194303) := by rw [hnlen]; exact hpl
  rw [← hnlen] at hmk hln hownA
  rw [HN.out]
  clear HN hnlen
  go_enter Tryz.func74, Tryz.ntmps74
  go_wp2_with (first
    | (go_at_call 99; refine hdd.mono ?_; rintro e w' ⟨rfl, rfl⟩; clear hdd)
    | (go_at_call 100; refine hord.mono ?_; rintro e wB ⟨vo, rfl, hblB, hoB⟩; clear hord; obtain ⟨ao, co, rfl, hoc⟩ := ownS_shape hoB))
  have hNl : N.length ≤ 4194303 := HLN.out
  have hB0 : Below w'.heap.size w' wB := hblA.trans (hblB.mono hszA)
  have hlo : ∀ g, (Value.slice ao N.length co).ownBlock = some g → wA.heap.size ≤ g := fun g hg => (World.ownsRow.lt hoB g hg).1
  have hA1 : w'.heap.size < wA.heap.size := (World.ownsRow.lt hownA w'.heap.size rfl).2
  go_loopw [4, 18] (fun v i wr => ∃ j : Nat, j ≤ N.length ∧ i = .int .i64 j ∧ Below w'.heap.size w' wr ∧ OwnS wr 0 v (N.take j) ∧ (∀ g, v.ownBlock = some g → w'.heap.size ≤ g ∧ (Value.slice ao N.length co).ownBlock ≠ some g) ∧ OwnS wr 0 (.slice ao N.length co) N) (fun _ i _ => N.length - (intOf i).toNat)
  case atStart =>
    refine ⟨0, Nat.zero_le _, rfl, hB0, ?_, fun g hg => ?_, ownsRow_base hoB (Nat.zero_le _)⟩
    · exact ownsRow_base (ownsRow_of_block hownA (fun g hg => hblB.block g (World.ownsRow.lt hownA g hg).2)) (Nat.zero_le _)
    · simp only [Value.ownBlock, Option.some.injEq] at hg
      subst hg
      exact ⟨Nat.le_refl _, fun e => by have := hlo _ e; omega⟩
  case round =>
    obtain ⟨j, hj, rfl, hbl, hown, hdis, hor⟩ := hrel
    have hsz := hbl.size
    by_cases hlt : j < N.length
    · obtain ⟨a2, c2, e2, hoc2⟩ := ownS_shape hor
      obtain ⟨g, rfl, _, hcell⟩ := hoc2 j hlt
      obtain ⟨rfl, -, rfl⟩ : ao = some ⟨g, 0, none⟩ ∧ True ∧ co = c2 := by simpa using e2
      unfold encS at hcell
      have hnj : N[j].length ≤ 20 := HNL.out _ (List.getElem_mem hlt)
      have HT : Hid (N.take (j + 1) = N.take j ++ [N[j]]) := List.take_succ_eq_append_getElem hlt
      have htl : (N.take j).length ≤ 4194303 := by simp; omega
      generalize hT : N.take j = T at *
      clear hT hoc e2 hoc2
      go_wp2_with (first
        | (go_at_call 119; refine (sClone_any ⟨N[j].toArray⟩ wr (by show N[j].length ≤ _; omega)).mono ?_; rintro e w1 ⟨rfl, hb1⟩; have hown1 := ownsRow_of_block hown (fun q hq => hb1.block q (World.ownsRow.lt hown q hq).2))
        | (at_builtin; refine wpList_app _ rfl (.tmp 22) (.tmp 25) 67 rfl 9 i0 _ 1 16 Tryz.underlying67 hi hz0 hz1 hz2 rfl (by decide) _ _ _ rfl (World.ownsRow.alloc hown1 _) ⟨w1.heap.size, 0, none⟩ 1 1 [encS N[j]] rfl rfl (one_at _ _ _) (by intro u hu; simp at hu; subst hu; rfl) (by unfold maxLen; omega) (by omega) ?_; intro v' w2 hown2 hgrow hfr)
        | go_in)
      have hs1 := hb1.size
      have hB2 : Below w'.heap.size w' w2 := ((hbl.trans (hb1.mono hsz)).alloc (by omega) _).grown hgrow (by simp; omega) (fun q hq => (hdis q hq).1)
      have HB : Hid (Below w'.heap.size w' w2) := hB2
      have HO : Hid (OwnS w2 0 v' (T ++ [N[j]])) := own_snoc1 hown2
      have HR : Hid (OwnS w2 0 (.slice (some ⟨g, 0, none⟩) N.length co) N) := ownsRow_of_block hor (fun q hq => by
        have hq1 := (World.ownsRow.lt hor q hq).2
        have hq2 : (w1.alloc (.cells #[encS N[j]] 9)).heap[q]? = wr.heap[q]? := (Below.heap_alloc _ _ _ (by omega)).trans (hb1.block q hq1)
        exact (hgrow.block q (by simp; omega) (fun e => (hdis q e.symm).2 hq)).trans hq2)
      have HD : Hid (∀ q, v'.ownBlock = some q → w'.heap.size ≤ q ∧ (Value.slice (some ⟨g, 0, none⟩) N.length co).ownBlock ≠ some q) := fun q hq => by
        rcases hfr q hq with h | h
        · exact hdis q h
        · refine ⟨by simp at h; omega, fun e => ?_⟩
          have := (World.ownsRow.lt hor q e).2
          simp at h; omega
      clear hown2 hgrow hfr hown hown1 hdis hor hcell hB2
      go_wp2
      go_roundw
      case rel => exact ⟨j + 1, by omega, by go_num, HB.out, by rw [HT.out]; exact HO.out, HD.out, HR.out⟩
      case measure => simp [intOf]; omega
    · have : j = N.length := by omega
      subst this
      rw [List.take_length] at hown
      clear hoc
      go_wp2
      go_ret2
      refine ⟨_, rfl, hbl, ?_⟩
      exact ownsRow_up hown (fun g hg => (hdis g hg).1)

end Go.Proofs.YtoabedkcieindaaGreatDoor
