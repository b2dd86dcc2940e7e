import Derived.Test.YtoabedkcieindaaGreatDoorPkAE
namespace Go.Proofs.YtoabedkcieindaaGreatDoor
open Go.RowKit Go.Maps Go.Sort

theorem before_le : ∀ {a b : List UInt8}, bytesBefore a b = true → a ≤ b
  | [], _, _ => by exact List.nil_le _
  | x :: r, [], h => by cases h
  | x :: r, y :: s, h => by
    simp only [bytesBefore, Bool.or_eq_true, Bool.and_eq_true, decide_eq_true_eq, beq_iff_eq] at h
    rw [List.cons_le_cons_iff]
    rcases h with h | ⟨rfl, h⟩
    · exact .inl h
    · exact .inr ⟨rfl, before_le h⟩
theorem keys_dat (ps : PL) : strKeys (datOf ps) = nmsOf ps := by
  show (ps.map ent).map (fun p => strOf p.1) = ps.map (·.1)
  rw [List.map_map]
  rfl
theorem sorted_names {ps : PL} (h : rising ps) {ss : List (List UInt8)} (hp : ss.Perm (nmsOf ps)) : ss.mergeSort (fun x y => decide (x ≤ y)) = nmsOf ps := by
  rw [mergeSort_of_perm hp]
  apply List.mergeSort_of_pairwise
  unfold nmsOf
  rw [List.pairwise_map]
  exact h.imp (fun hab => by simpa using before_le hab)

set_option maxHeartbeats 1000000 in
theorem order_any {w : World} {S : Nat → Prop} {bd bm : Nat} {ps : PL} {room fuse : Int} {dead : Bool} {turn : Int} (h : PrSt w S bd bm ps room fuse dead turn) (hr : rising ps) (hl : ps.length ≤ 4194304) :
    Calls Tryz.prog 100 #[.pointer (some ⟨bd, 0, none⟩)] w fun e w' => ∃ v, e = .returned v ∧ Below w.heap.size w w' ∧ OwnS w' w.heap.size v (nmsOf ps) := by
  have hsz : Maps.size (datOf ps) = ps.length := by simp [datOf, Maps.size]
  have hS := sorted_any bm ps.length (datOf ps) Rf w h.map (by rw [hsz]; unfold maxLen; omega) (by rw [hsz]; omega)
  obtain ⟨c0, c1, c2, c3, c8, f0, f1, f2, f3, f9⟩ := cells5 h.blk
  refine (callsIn_wide (n := 6)).1 ?_
  have hfK : Fence.wide.fn 155 := trivial
  have hfS : Fence.wide.fn 154 := trivial
  refine callsIn_of_wp Tryz.func100 rfl trivial ?_ rfl
  simp only [Tryz.ntmps100, List.size_toArray, List.length_cons, List.length_nil, Nat.reduceAdd, Nat.reduceSub, Array.replicate_succ, Array.replicate_zero, List.push_toArray, List.append_toArray, List.nil_append, List.cons_append]
  gi_wp2_with (first
    | (gi_at_call 155; refine (keys_any _ _).mono ?_; rintro e w' ⟨rfl, rfl⟩)
    | (gi_at_call 154; refine hS.mono ?_; rintro e w' ⟨v, ss, rfl, hP, hrow, hnil, hb⟩))
  go_ret
  refine ⟨v, rfl, ((Below.refl _ w).alloc (Nat.le_refl _) _).trans (hb.mono (by simp)), ?_⟩
  rw [keys_dat] at hP
  rw [sorted_names hr hP, hP.length_eq] at hrow
  exact ownsRow_base hrow (by simp)

theorem ownS_shape {w : World} {base : Nat} {v : Value} {l : List (List UInt8)} (h : OwnS w base v l) : ∃ a cap, v = .slice a l.length cap ∧ ∀ i (_ : i < l.length), ∃ g, a = some ⟨g, 0, none⟩ ∧ base ≤ g ∧ w.cell? ⟨g, i, none⟩ = some (encS l[i]) := by
  rcases h.2 with ⟨hv, hn⟩ | ⟨g, cap, cur, hv, hb, _⟩
  · exact ⟨none, 0, by rw [hv, hn], fun i hi => by omega⟩
  · subst hv
    refine ⟨_, cap, rfl, fun i hi => ⟨g, rfl, hb, ?_⟩⟩
    rw [World.ownsRow.cellAt (size := 1) h i (by omega)]
    simp [hi]

theorem ownsRow_up {w : World} {base base' : Nat} {e : TypeId} {size : Nat} {v : Value} {n : Nat} {xs : List Value} (h : w.ownsRow base e size v n xs) (hb : ∀ g, v.ownBlock = some g → base' ≤ g) : w.ownsRow base' e size v n xs := by
  refine ⟨h.1, ?_⟩
  rcases h.2 with hn | ⟨g, cap, cur, rfl, hbase, rest⟩
  · exact .inl hn
  · exact .inr ⟨g, cap, cur, rfl, hb g rfl, rest⟩

set_option maxHeartbeats 1000000 in
theorem dNames_dead (b : Nat) (d : Dk) (S : Nat → Prop) (w : World) (hP : ProgAt w S b d) (hd : d.dead = true) :
    Calls Tryz.prog 74 #[.pointer (some ⟨b, 0, none⟩)] w fun e w' => e = .returned (.tuple #[.slice none 0 0, .int .i64 4]) ∧ w' = w := by
  obtain ⟨bm, ps, hst, hfs⟩ := id hP
  rw [hd] at hst
  have hdd := isDead_any hst.blk
  clear hst
  go_enter Tryz.func74, Tryz.ntmps74
  go_wp2_with (go_at_call 99; refine hdd.mono ?_; rintro e w' ⟨rfl, rfl⟩)
  go_ret2
  exact ⟨rfl, rfl⟩

set_option maxHeartbeats 2000000 in
set_option maxRecDepth 20000 in
theorem dNames_any (b : Nat) (d : Dk) (S : Nat → Prop) (w : World) (hP : ProgAt w S b d) (hok : d.Ok) (hl : d.files.length ≤ 4194303) (hd : d.dead = false) :
    Calls Tryz.prog 74 #[.pointer (some ⟨b, 0, none⟩)] w fun e w' => ∃ v, e = .returned (.tuple #[v, .int .i64 0]) ∧ Below w.heap.size w w' ∧ OwnS w' w.heap.size v (nmsOf d.files) := by
  obtain ⟨bm, ps, hst, hfs⟩ := id hP
  rw [hd] at hst
  have hdd := isDead_any hst.blk
  have hri : rising ps := rising_ps (by rw [hfs]; exact hok.rise)
  have hpl : ps.length ≤ 4194303 := by rw [← fs_len, hfs]; exact hl
  have hsz : Maps.size (datOf ps) = ps.length := by simp [datOf, Maps.size]
  have hln := hst.map.len Tryz.underlying146 3
  rw [hsz] at hln
  have HN : Hid (nmsOf d.files = nmsOf ps) := by rw [← hfs]; simp [nmsOf, fsOf, Hid]
  have hnl : ∀ x ∈ nmsOf ps, x.length ≤ 20 := fun x hx => by
    rw [← HN.out] at hx
    obtain ⟨y, hy, rfl⟩ := List.mem_map.1 hx
    exact hok.name y hy
  have hnlen : (nmsOf ps).length = ps.length := by simp [nmsOf]
  obtain ⟨i0, hi, hz0, hz1, hz2⟩ := info_parts Tryz.info9
  obtain ⟨c0, c1, c2, c3, c8, f0, f1, f2, f3, f9⟩ := cells5 hst.blk
  obtain ⟨wA, hmk, hownA, hgrA⟩ := run_make_own (P := Tryz.prog) w w.heap.size 67 9 i0 _ 1 Tryz.underlying67 hi hz0 hz1 .i64 .i64 ps.length (by rw [hz2]; omega) (by unfold maxLen; omega) (Nat.le_refl _)
  have hblA : Below w.heap.size w wA := (Below.refl _ _).grown hgrA (Nat.le_refl _) (fun k hk => by cases hk)
  have hstA := hst.below hblA
  have hord := order_any hstA hri (by omega)
  have HNL : Hid (∀ x ∈ nmsOf ps, x.length ≤ 20) := hnl
  have hszA := hblA.size
  clear hnl hP hst hfs hsz hgrA
  generalize nmsOf ps = N at *
  have HLN : Hid (N.length ≤ 4194303) := by rw [hnlen]; exact hpl
  rw [← hnlen] at hmk hln hownA
  rw [HN.out]
  clear HN hnlen
  go_enter Tryz.func74, Tryz.ntmps74
  go_wp2_with (first
    | (go_at_call 99; refine hdd.mono ?_; rintro e w' ⟨rfl, rfl⟩; clear hdd)
    | (go_at_call 100; refine hord.mono ?_; rintro e wB ⟨vo, rfl, hblB, hoB⟩; clear hord; obtain ⟨ao, co, rfl, hoc⟩ := ownS_shape hoB))
  have hNl : N.length ≤ 4194303 := HLN.out
  have hB0 : Below w'.heap.size w' wB := hblA.trans (hblB.mono hszA)
  have hlo : ∀ g, (Value.slice ao N.length co).ownBlock = some g → wA.heap.size ≤ g := fun g hg => (World.ownsRow.lt hoB g hg).1
  have hA1 : w'.heap.size < wA.heap.size := (World.ownsRow.lt hownA w'.heap.size rfl).2
  go_loopw [4, 18] (fun v i wr => ∃ j : Nat, j ≤ N.length ∧ i = .int .i64 j ∧ Below w'.heap.size w' wr ∧ OwnS wr 0 v (N.take j) ∧ (∀ g, v.ownBlock = some g → w'.heap.size ≤ g ∧ (Value.slice ao N.length co).ownBlock ≠ some g) ∧ OwnS wr 0 (.slice ao N.length co) N) (fun _ i _ => N.length - (intOf i).toNat)
  case atStart =>
    refine ⟨0, Nat.zero_le _, rfl, hB0, ?_, fun g hg => ?_, ownsRow_base hoB (Nat.zero_le _)⟩
    · exact ownsRow_base (ownsRow_of_block hownA (fun g hg => hblB.block g (World.ownsRow.lt hownA g hg).2)) (Nat.zero_le _)
    · simp only [Value.ownBlock, Option.some.injEq] at hg
      subst hg
      exact ⟨Nat.le_refl _, fun e => by have := hlo _ e; omega⟩
  case round =>
    obtain ⟨j, hj, rfl, hbl, hown, hdis, hor⟩ := hrel
    have hsz := hbl.size
    by_cases hlt : j < N.length
    · obtain ⟨a2, c2, e2, hoc2⟩ := ownS_shape hor
      obtain ⟨g, rfl, _, hcell⟩ := hoc2 j hlt
      obtain ⟨rfl, -, rfl⟩ : ao = some ⟨g, 0, none⟩ ∧ True ∧ co = c2 := by simpa using e2
      unfold encS at hcell
      have hnj : N[j].length ≤ 20 := HNL.out _ (List.getElem_mem hlt)
      have HT : Hid (N.take (j + 1) = N.take j ++ [N[j]]) := List.take_succ_eq_append_getElem hlt
      have htl : (N.take j).length ≤ 4194303 := by simp; omega
      generalize hT : N.take j = T at *
      clear hT hoc e2 hoc2
      go_wp2_with (first
        | (go_at_call 119; refine (sClone_any ⟨N[j].toArray⟩ wr (by show N[j].length ≤ _; omega)).mono ?_; rintro e w1 ⟨rfl, hb1⟩; have hown1 := ownsRow_of_block hown (fun q hq => hb1.block q (World.ownsRow.lt hown q hq).2))
        | (at_builtin; refine wpList_app _ rfl (.tmp 22) (.tmp 25) 67 rfl 9 i0 _ 1 16 Tryz.underlying67 hi hz0 hz1 hz2 rfl (by decide) _ _ _ rfl (World.ownsRow.alloc hown1 _) ⟨w1.heap.size, 0, none⟩ 1 1 [encS N[j]] rfl rfl (one_at _ _ _) (by intro u hu; simp at hu; subst hu; rfl) (by unfold maxLen; omega) (by omega) ?_; intro v' w2 hown2 hgrow hfr)
        | go_in)
      have hs1 := hb1.size
      have hB2 : Below w'.heap.size w' w2 := ((hbl.trans (hb1.mono hsz)).alloc (by omega) _).grown hgrow (by simp; omega) (fun q hq => (hdis q hq).1)
      have HB : Hid (Below w'.heap.size w' w2) := hB2
      have HO : Hid (OwnS w2 0 v' (T ++ [N[j]])) := own_snoc1 hown2
      have HR : Hid (OwnS w2 0 (.slice (some ⟨g, 0, none⟩) N.length co) N) := ownsRow_of_block hor (fun q hq => by
        have hq1 := (World.ownsRow.lt hor q hq).2
        have hq2 : (w1.alloc (.cells #[encS N[j]] 9)).heap[q]? = wr.heap[q]? := (Below.heap_alloc _ _ _ (by omega)).trans (hb1.block q hq1)
        exact (hgrow.block q (by simp; omega) (fun e => (hdis q e.symm).2 hq)).trans hq2)
      have HD : Hid (∀ q, v'.ownBlock = some q → w'.heap.size ≤ q ∧ (Value.slice (some ⟨g, 0, none⟩) N.length co).ownBlock ≠ some q) := fun q hq => by
        rcases hfr q hq with h | h
        · exact hdis q h
        · refine ⟨by simp at h; omega, fun e => ?_⟩
          have := (World.ownsRow.lt hor q e).2
          simp at h; omega
      clear hown2 hgrow hfr hown hown1 hdis hor hcell hB2
      go_wp2
      go_roundw
      case rel => exact ⟨j + 1, by omega, by go_num, HB.out, by rw [HT.out]; exact HO.out, HD.out, HR.out⟩
      case measure => simp [intOf]; omega
    · have : j = N.length := by omega
      subst this
      rw [List.take_length] at hown
      clear hoc
      go_wp2
      go_ret2
      refine ⟨_, rfl, hbl, ?_⟩
      exact ownsRow_up hown (fun g hg => (hdis g hg).1)

end Go.Proofs.YtoabedkcieindaaGreatDoor

namespace Go.Proofs.YtoabedkcieindaaGreatDoor
open Go.RowKit Go.Maps Go.Sort

theorem kept_eq (k : Int) (f : Fl) : kept k f = ⟨f.bytes.take (keptN k f), keptN k f⟩ := rfl

theorem PrSt.drewN {w : World} {S : Nat → Prop} {bd bm : Nat} {ps : PL} {room fuse : Int} {dead : Bool} {turn : Int} (h : PrSt w S bd bm ps room fuse dead turn) (m : Nat) : PrSt (w.drewN m) S bd bm ps room fuse dead turn := ⟨h.blk, h.map, h.file, h.apart, h.sb, h.sm, h.sf⟩

theorem Kp.undrew {S : Nat → Prop} {a w : World} (h : Kp S a.drew w) : Kp S a w := ⟨h.os, h.tape, h.output, h.size, h.block⟩

theorem safe_close {w : World} {S : Nat → Prop} {b bm : Nat} {ps : PL} {room fuse : Int} {dead : Bool} {turn : Int} {k : Nat} {n : Nm} {p : PF} {m : Nat} (hst : PrSt w S b bm ps room fuse dead turn) (hk : k < ps.length) (hek : ps[k] = (n, p)) :
    PrSt (w.setCell ⟨p.bf, 1, none⟩ (.int .i64 m)) S b bm (ps.set k (n, ⟨⟨p.fl.bytes, m⟩, p.bf, p.sv⟩)) room fuse dead turn ∧ Kp S w (w.setCell ⟨p.bf, 1, none⟩ (.int .i64 m)) := by
  have hfl := hst.file _ (List.getElem_mem hk)
  have hsf := hst.sf _ (List.getElem_mem hk)
  rw [hek] at hfl hsf
  simp only at hfl hsf
  have hne : ∀ g, p.sv.ownBlock = some g → g ≠ p.bf := fun g hg => row_ne hfl.1 hfl.2 hg (by decide)
  have h2 := hst.setF k hk ⟨⟨p.fl.bytes, m⟩, p.bf, p.sv⟩ (by rw [hek]) (w' := w.setCell ⟨p.bf, 1, none⟩ (.int .i64 m)) ((Kp.set1 _ _ _ _).mono (fun i hi => .inl (by rw [hek]; exact hi))) ⟨(block_set hfl.1 _).trans rfl, ownsRow_of_block hfl.2 (fun g hg => Below.heap_setCell _ _ _ _ (hne g hg))⟩ (fun g hg => .inl (by rw [hek]; exact hg))
  rw [hek] at h2
  refine ⟨h2.mono (fun i hi s => s.elim (fun s => s) (fun h => absurd hi (by simp; omega))), (Kp.set1 _ _ _ _).b hsf.1⟩

theorem bytes_close {w w1 : World} {S : Nat → Prop} {b bm : Nat} {ps : PL} {room fuse : Int} {dead : Bool} {turn : Int} {k : Nat} {n : Nm} {p : PF} {l : List UInt8} {v' : Value} (hst : PrSt w S b bm ps room fuse dead turn) (hk : k < ps.length) (hek : ps[k] = (n, p)) (hb1 : Below w.heap.size w w1) (hob : OwnB w1 w.heap.size v' l) :
    PrSt (w1.setCell ⟨p.bf, 0, none⟩ v') (Nw S w) b bm (ps.set k (n, ⟨⟨l, p.fl.safe⟩, p.bf, v'⟩)) room fuse dead turn ∧ Kp S w (w1.setCell ⟨p.bf, 0, none⟩ v') := by
  have hfl := hst.file _ (List.getElem_mem hk)
  have hsf := hst.sf _ (List.getElem_mem hk)
  rw [hek] at hfl hsf
  simp only at hfl hsf
  have hf1 := block_at2 hfl.1 hb1
  have kp : Kp (fun i => i = p.bf) w (w1.setCell ⟨p.bf, 0, none⟩ v') := (Kp.of_below (S := fun i => i = p.bf) hb1).put rfl _
  have h2 := hst.setF k hk ⟨⟨l, p.fl.safe⟩, p.bf, v'⟩ (by rw [hek]) (w' := w1.setCell ⟨p.bf, 0, none⟩ v') (kp.mono (fun i hi => .inl (by rw [hek]; exact hi))) ⟨(block_set hf1 _).trans rfl, ownsRow_base (ownsRow_of_block hob (fun g hg => Below.heap_setCell _ _ _ _ (row_ne hf1 hob hg (by decide)))) (Nat.zero_le _)⟩ (fun g hg => .inr (World.ownsRow.lt hob g hg).1)
  rw [hek] at h2
  exact ⟨h2, kp.b hsf.1⟩

set_option maxHeartbeats 1000000 in
set_option maxRecDepth 20000 in
theorem dcrash_any {w : World} {S : Nat → Prop} {b bm : Nat} {ps : PL} {room fuse : Int} {dead : Bool} {turn : Int} {k : Nat} {n : Nm} {p : PF} (hst : PrSt w S b bm ps room fuse dead turn) (hk : k < ps.length) (hek : ps[k] = (n, p)) (keep : Int)
    (hs : p.fl.safe ≤ p.fl.bytes.length) (hl : p.fl.bytes.length ≤ 1048576) (h0 : -1048576 ≤ room) (h1 : room ≤ 1048576) :
    Calls Tryz.prog 101 #[.pointer (some ⟨b, 0, none⟩), .pointer (some ⟨p.bf, 0, none⟩), .int .i64 keep] w fun e w' => e = .returned (.tuple #[]) ∧ (∃ p', p'.fl = kept keep p.fl ∧ p'.bf = p.bf ∧ PrSt w' (Nw S w) b bm (ps.set k (n, p')) (room + p.fl.bytes.length - keptN keep p.fl) fuse dead turn) ∧ Kp S w w' := by
  have hfl := hst.file _ (List.getElem_mem hk)
  rw [hek] at hfl
  simp only at hfl
  obtain ⟨a, cap, hsv⟩ := ownB_shape hfl.2
  obtain ⟨g0, g1, z0, z1⟩ := cells2 hfl.1
  rw [hsv] at g0
  obtain ⟨r0, r1, r2, r3, r8, r4, r5, r6, r7, r9⟩ := cells5 hst.blk
  have hbne : b ≠ p.bf := cells_ne hst.blk hfl.1 (by decide)
  have hm : keptN keep p.fl ≤ p.fl.bytes.length := by unfold keptN; omega
  have hmi : (p.fl.safe : Int) + min (max keep 0) ((p.fl.bytes.length : Int) - (p.fl.safe : Int)) = (keptN keep p.fl : Nat) := by unfold keptN; omega
  generalize hM : keptN keep p.fl = M at *
  by_cases hlost : M < p.fl.bytes.length
  · obtain ⟨g, rfl⟩ : ∃ g, a = some ⟨g, 0, none⟩ := by
      rcases hfl.2.2 with ⟨hv, hn⟩ | ⟨g, cap', cur, hv, _⟩
      · omega
      · rw [hsv] at hv; exact ⟨g, by simpa using (Value.slice.inj hv).1⟩
    have hcell := ownB_cells (hsv ▸ hfl.2)
    have hcl := fun m => bClone_any g M cap p.fl.bytes (w.drewN m) hm hl hcell
    have HC : Hid (∀ i (hi : i < p.fl.bytes.length), w.cell? ⟨g, i, none⟩ = some (encB p.fl.bytes[i])) := hcell
    clear hcell
    have hcap : M ≤ cap := by
      rcases hfl.2.2 with ⟨hv, hn⟩ | ⟨g', cap', cur, hv, _, _, hc, _⟩
      · omega
      · rw [hsv] at hv; have := (Value.slice.inj hv).2.2; omega
    have hcap2 : p.fl.bytes.length ≤ cap ∧ cap ≤ maxLen := by
      rcases hfl.2.2 with ⟨hv, hn⟩ | ⟨g', cap', cur, hv, _, _, hc, hc2, _⟩
      · omega
      · rw [hsv] at hv; have := (Value.slice.inj hv).2.2; omega
    obtain ⟨hcap3, hcap4⟩ := hcap2
    unfold maxLen at hcap4
    go_enter Tryz.func101, Tryz.ntmps101
    go_wp2
    go_region
    clear hmi
    go_wp2_with (go_at_call 156; refine (hcl 1).mono ?_; rintro e w1 ⟨v1, rfl, hb1, hob⟩; obtain ⟨a', cap', hsv'⟩ := ownB_shape hob; subst hsv'; have hst1 := hst.drew.below hb1; have hf1 := block_at2 (w1 := w.drew) hfl.1 hb1; obtain ⟨y0, y1, x0, x1⟩ := cells2 hf1; obtain ⟨s0, s1, s2, s3, s8, s4, s5, s6, s7, s9⟩ := cells5 hst1.blk)
    go_end0
    have htl : (p.fl.bytes.take M).length = M := by simp; omega
    rw [htl] at hob
    have hA := bytes_close hst.drew hk hek hb1 hob
    have hB := hA.1.fields (Kp.set1 _ b 1 (.int .i64 (room + ((p.fl.bytes.length : Int) - M)))) ((block_set hA.1.blk _).trans rfl)
    have hC := safe_close (k := k) (n := n) (p := ⟨⟨p.fl.bytes.take M, p.fl.safe⟩, p.bf, .slice a' M cap'⟩) (m := M) hB (by simpa using hk) (by simp)
    rw [List.set_set] at hC
    refine ⟨rfl, ⟨⟨⟨p.fl.bytes.take M, M⟩, p.bf, .slice a' M cap'⟩, by rw [kept_eq, hM], rfl, ?_⟩, ?_⟩
    · rw [show room + (p.fl.bytes.length : Int) - (M : Int) = room + ((p.fl.bytes.length : Int) - M) by omega]
      exact hC.1
    · exact kpNw (((hA.2.mono (fun _ s => (.inl s : Nw S w _))).put (o := 1) (.inl hst.sb) (.int .i64 (room + ((p.fl.bytes.length : Int) - M)))).trans hC.2 (fun _ _ s => s)).undrew
  · have HM : Hid (M = p.fl.bytes.length) := by show M = _; omega
    go_enter Tryz.func101, Tryz.ntmps101
    go_wp2
    go_region
    clear hmi
    go_wp2
    go_end0
    have hC := safe_close (m := M) hst hk hek
    refine ⟨rfl, ⟨⟨⟨p.fl.bytes, M⟩, p.bf, p.sv⟩, by rw [kept_eq, hM, HM.out, List.take_length], rfl, ?_⟩, hC.2.drew⟩
    rw [show room + (p.fl.bytes.length : Int) - (M : Int) = room by have := HM.out; omega]
    exact hC.1.drew.mono (fun _ _ s => Or.inl s)

end Go.Proofs.YtoabedkcieindaaGreatDoor

namespace Go.Proofs.YtoabedkcieindaaGreatDoor
open Go.RowKit Go.Maps Go.Sort

theorem kept_len (k : Int) (f : Fl) (h : f.safe ≤ f.bytes.length) : (kept k f).bytes.length = keptN k f := by
  rw [kept_eq]; simp only [List.length_take]; unfold keptN; omega
theorem nms_len {α : Type} (l : List (Nm × α)) : (nmsOf l).length = l.length := by simp [nmsOf]
theorem nms_at {α : Type} (l : List (Nm × α)) (i : Nat) (h : i < l.length) : (nmsOf l)[i]'(by rw [nms_len]; exact h) = l[i].1 := by simp [nmsOf]
theorem nms_fs (ps : PL) : nmsOf (fsOf ps) = nmsOf ps := by simp [nmsOf, fsOf]
theorem crashK_names (ks : List Int) (fs : List (Nm × Fl)) (j : Nat) : nmsOf (crashK ks fs j) = nmsOf fs := by
  apply List.ext_getElem
  · rw [nms_len, nms_len, crashK_len]
  · intro i h1 h2
    rw [nms_len] at h2
    rw [nms_at _ _ (by rw [crashK_len]; exact h2), nms_at _ _ h2]
    have hl : ((crashL ks fs).take j).length = min j fs.length := by simp [crashL_len]
    simp only [crashK]
    by_cases h : i < j
    · rw [List.getElem_append_left (by omega), List.getElem_take, crashL_at ks fs i h2]
    · rw [List.getElem_append_right (by omega)]
      simp only [hl, List.getElem_drop]
      congr 2
      omega
theorem rising_names {α β : Type} {l : List (Nm × α)} {m : List (Nm × β)} (h : nmsOf l = nmsOf m) (hr : rising m) : rising l := by
  unfold rising at *
  have h1 : (nmsOf m).Pairwise (fun x y => bytesBefore x y = true) := by unfold nmsOf; rw [List.pairwise_map]; exact hr
  rw [← h] at h1
  unfold nmsOf at h1
  rwa [List.pairwise_map] at h1
theorem used_crashK (ks : List Int) (fs : List (Nm × Fl)) (j : Nat) (h : j < fs.length) (hs : fs[j].2.safe ≤ fs[j].2.bytes.length) : used (crashK ks fs (j + 1)) + fs[j].2.bytes.length = used (crashK ks fs j) + keptN (ks.getD j 0) fs[j].2 := by
  rw [crashK_succ ks fs j h]
  have := used_set (crashK ks fs j) j (by rw [crashK_len]; exact h) (fs[j].1, kept (ks.getD j 0) fs[j].2)
  rw [crashK_here ks fs j h] at this
  simp only [kept_len _ _ hs] at this
  exact this
theorem used_crashK_le (ks : List Int) (fs : List (Nm × Fl)) (hs : ∀ x ∈ fs, x.2.safe ≤ x.2.bytes.length) : ∀ j, j ≤ fs.length → used (crashK ks fs j) ≤ used fs
  | 0, _ => by simp [crashK]
  | j + 1, h => by
    have h1 := used_crashK ks fs j (by omega) (hs _ (List.getElem_mem _))
    have h2 := used_crashK_le ks fs hs j (by omega)
    have h3 : keptN (ks.getD j 0) (fs[j]'(by omega)).2 ≤ (fs[j]'(by omega)).2.bytes.length := by have := hs _ (List.getElem_mem (l := fs) (n := j) (by omega)); unfold keptN; omega
    omega

set_option maxHeartbeats 2000000 in
set_option maxRecDepth 20000 in
theorem dCrash_any (b : Nat) (d : Dk) (q : Option Addr) (qc : Nat) (ks : List Int) (S : Nat → Prop) (w : World) (hP : ProgAt w S b d) (hok : d.Ok) (hl : d.files.length ≤ 4194303) (hkl : ks.length ≤ 4611686018427387904) (hi : Intp w q ks) (hq : ∀ a, q = some a → 0 < ks.length → ¬ S a.block) :
    Calls Tryz.prog 57 #[.pointer (some ⟨b, 0, none⟩), .slice q ks.length qc] w fun e w' => e = .returned (.tuple #[]) ∧ ProgAt w' (Nw S w) b (d.crash ks) ∧ Kp S w w' := by
  obtain ⟨bm, ps, hst0, hfs⟩ := id hP
  have hst : PrSt w (fun k => S k ∧ k < w.heap.size) b bm ps ((d.quota : Int) - used d.files) d.left d.dead d.turn := hst0.mono (fun k hk s => ⟨s, hk⟩)
  have hri : rising ps := rising_ps (by rw [hfs]; exact hok.rise)
  have hpl : ps.length ≤ 4194303 := by rw [← fs_len, hfs]; exact hl
  have hord := order_any hst hri (by omega)
  have hN : nmsOf ps = nmsOf d.files := by rw [← hfs, nms_fs]
  rw [hN] at hord
  have hsb := hst0.sb
  have hst0' : Hid (PrSt w S b bm ps ((d.quota : Int) - used d.files) d.left d.dead d.turn) := hst0
  obtain ⟨quota, fs, left, dead, turn⟩ := d
  simp only at *
  have hnl : (nmsOf fs).length = fs.length := nms_len fs
  obtain ⟨c0, c1, c2, c3, c8, f0, f1, f2, f3, f9⟩ := cells5 hst.blk
  clear hst0 hP
  go_enter Tryz.func57, Tryz.ntmps57
  go_wp2_with (go_at_call 100; refine hord.mono ?_; rintro e wB ⟨vo, rfl, hblB, hoB⟩; clear hord; obtain ⟨ao, co, rfl, hoc⟩ := ownS_shape hoB)
  have hlo : ∀ g, (Value.slice ao fs.length co).ownBlock = some g → w.heap.size ≤ g ∧ g < wB.heap.size := fun g hg => World.ownsRow.lt hoB g (by rw [hnl]; exact hg)
  have hoB' : OwnS wB 0 (.slice ao fs.length co) (nmsOf fs) := by rw [hnl] at hoB; exact ownsRow_base hoB (Nat.zero_le _)
  have hszB := hblB.size
  have hiB : Intp wB q ks := hi.kept (S := fun _ => False) (Kp.of_below hblB) (fun _ _ _ f => f)
  have hqT : ∀ i (h : i < ks.length) a, q = some a → ¬ Nw (fun k => S k ∧ k < w.heap.size) wB a.block := fun i h a ha => by
    obtain ⟨g, off, e, hc⟩ := hi i h
    rw [ha] at e
    obtain rfl := Option.some.inj e
    have := World.block_lt_of_cell? w ⟨g, off + i, none⟩ hc
    rintro (s | s)
    · exact hq _ ha (by omega) s.1
    · simp only at s this; omega
  have hstB := (hst.below hblB).mono (T := Nw (fun k => S k ∧ k < w.heap.size) wB) (fun _ _ s => .inl s)
  have hsafe : ∀ x ∈ fs, x.2.safe ≤ x.2.bytes.length := hok.safe
  have hby : ∀ i (h : i < fs.length), fs[i].2.bytes.length ≤ 1048576 := fun i h => Nat.le_trans (used_ge fs i h) (Nat.le_trans hok.used hok.quota)
  have hu1 := hok.used
  have hu2 := hok.quota
  have hrise := hok.rise
  have hname := hok.name
  simp only at hu1 hu2 hrise hname
  have HOK : Hid True := trivial
  clear hok hst hoc hoB hN c0 c1 c2 c3 f0 f1 f2 f3 hnl
  go_loopw [12] (fun i wr => ∃ (j : Nat) (ps' : PL), j ≤ fs.length ∧ i = .int .i64 j ∧ Kp (Nw (fun k => S k ∧ k < w.heap.size) wB) wB wr ∧ PrSt wr (Nw (fun k => S k ∧ k < w.heap.size) wB) b bm ps' ((quota : Int) - used (crashK ks fs j)) left dead turn ∧ fsOf ps' = crashK ks fs j) (fun i _ => fs.length - (intOf i).toNat)
  case atStart => exact ⟨0, ps, Nat.zero_le _, rfl, Kp.refl _ _, by simpa [crashK] using hstB, by simpa [crashK] using hfs⟩
  case round =>
    obtain ⟨j, ps', hj, rfl, kp, hsr, hfr⟩ := hrel
    have hoR : OwnS wr 0 (.slice ao fs.length co) (nmsOf fs) := kp.row hoB' (fun g hg => by
      have := hlo g hg
      rintro (s | s)
      · have := s.2; omega
      · omega)
    by_cases hlt : j < fs.length
    · obtain ⟨a2, c2, e2, hoc2⟩ := ownS_shape hoR
      obtain ⟨g, rfl, _, hcell⟩ := hoc2 j (by rw [nms_len]; exact hlt)
      rw [nms_at fs j hlt] at hcell
      obtain ⟨rfl, -, rfl⟩ : ao = some ⟨g, 0, none⟩ ∧ fs.length = (nmsOf fs).length ∧ co = c2 := by simpa using e2
      unfold encS at hcell
      have hjp : j < ps'.length := by rw [← fs_len, hfr, crashK_len]; exact hlt
      have hpj : (fsOf ps')[j]'(by rw [fs_len]; exact hjp) = fs[j] := by
        have : (fsOf ps')[j]? = (crashK ks fs j)[j]? := by rw [hfr]
        rw [List.getElem?_eq_getElem (by rw [fs_len]; exact hjp), List.getElem?_eq_getElem (by rw [crashK_len]; exact hlt), crashK_here ks fs j hlt] at this
        exact Option.some.inj this
      have hpj' : ps'[j].1 = fs[j].1 ∧ ps'[j].2.fl = fs[j].2 := by
        have h3 : (ps'[j].1, ps'[j].2.fl) = fs[j] := by rw [← hpj]; simp [fsOf]
        rw [← h3]; exact ⟨rfl, rfl⟩
      have hrp : rising ps' := rising_ps (by rw [hfr]; exact rising_names (crashK_names ks fs j) hrise)
      have hgp : getF fs[j].1 ps' = some ps'[j].2 := getF_at hjp hpj'.1 (fun i hi' e => by
        have := rising_at hrp (i := i) (j := j) (by omega) hjp (e.trans hpj'.1.symm)
        omega)
      have hnj : fs[j].1.length ≤ 20 := hname _ (List.getElem_mem hlt)
      have hlk := look hsr.map fs[j].1 (by unfold maxLen; omega)
      rw [hgp] at hlk
      simp only [ptrOf] at hlk
      have hup := used_crashK ks fs j hlt (hsafe _ (List.getElem_mem hlt))
      have hul := used_crashK_le ks fs hsafe j (by omega)
      have hbj := hby j hlt
      have hcr := fun keep => dcrash_any (k := j) (n := fs[j].1) (p := ps'[j].2) hsr hjp (by rw [← hpj'.1]) keep (by rw [hpj'.2]; exact hsafe _ (List.getElem_mem hlt)) (by rw [hpj'.2]; exact hbj) (by omega) (by omega)
      simp only [hpj'.2] at hcr
      have hstep : ∀ (p' : PF) w2, p'.fl = kept (ks.getD j 0) fs[j].2 → PrSt w2 (Nw (Nw (fun k => S k ∧ k < w.heap.size) wB) wr) b bm (ps'.set j (fs[j].1, p')) ((quota : Int) - used (crashK ks fs j) + fs[j].2.bytes.length - keptN (ks.getD j 0) fs[j].2) left dead turn → Kp (Nw (fun k => S k ∧ k < w.heap.size) wB) wr w2 →
          Kp (Nw (fun k => S k ∧ k < w.heap.size) wB) wB w2 ∧ PrSt w2 (Nw (fun k => S k ∧ k < w.heap.size) wB) b bm (ps'.set j (fs[j].1, p')) ((quota : Int) - used (crashK ks fs (j + 1))) left dead turn ∧ fsOf (ps'.set j (fs[j].1, p')) = crashK ks fs (j + 1) := fun p' w2 h1 h2 h3 => by
        refine ⟨kp.trans h3 (fun _ _ s => s), ?_, ?_⟩
        · rw [show (quota : Int) - used (crashK ks fs (j + 1)) = (quota : Int) - used (crashK ks fs j) + fs[j].2.bytes.length - keptN (ks.getD j 0) fs[j].2 by omega]
          exact h2.mono (fun _ _ s => s.elim (fun s => s) (fun h => .inr (Nat.le_trans kp.size h)))
        · rw [fs_set, hfr, crashK_succ ks fs j hlt, h1]
      have HS : Hid (∀ (p' : PF) w2, p'.fl = kept (ks.getD j 0) fs[j].2 → PrSt w2 (Nw (Nw (fun k => S k ∧ k < w.heap.size) wB) wr) b bm (ps'.set j (fs[j].1, p')) ((quota : Int) - used (crashK ks fs j) + fs[j].2.bytes.length - keptN (ks.getD j 0) fs[j].2) left dead turn → Kp (Nw (fun k => S k ∧ k < w.heap.size) wB) wr w2 →
          Kp (Nw (fun k => S k ∧ k < w.heap.size) wB) wB w2 ∧ PrSt w2 (Nw (fun k => S k ∧ k < w.heap.size) wB) b bm (ps'.set j (fs[j].1, p')) ((quota : Int) - used (crashK ks fs (j + 1))) left dead turn ∧ fsOf (ps'.set j (fs[j].1, p')) = crashK ks fs (j + 1)) := hstep
      obtain ⟨r0, r1, r2, r3, r8, r4, r5, r6, r7, r9⟩ := cells5 hsr.blk
      have HIR : Hid (∀ h : j < ks.length, ∃ gk ok, q = some ⟨gk, ok, none⟩ ∧ wr.cell? ⟨gk, ok + j, none⟩ = some (.int .i64 ks[j])) := fun h => (hiB.kept kp (fun a ha _ => hqT j h a ha)) j h
      clear hstep hpj hpj' hrp hgp hoc2 e2 hiB hqT hi hq hoB' hlo hoR hup hul hby hsafe hname hrise hstB hst0'
      by_cases hjk : j < ks.length
      · obtain ⟨gk, ok, rfl, hck⟩ := HIR.out hjk
        have hkd : ks.getD j 0 = ks[j] := getD_in hjk
        rw [hkd] at HS
        go_wp2_with (go_at_call 101; refine (hcr ks[j]).mono ?_; rintro e w2 ⟨rfl, ⟨p', hp1, hp2, hp3⟩, kp3⟩)
        have HZ := HS.out p' w2 hp1 hp3 kp3
        have HZ' : Hid (Kp (Nw (fun k => S k ∧ k < w.heap.size) wB) wB w2 ∧ PrSt w2 (Nw (fun k => S k ∧ k < w.heap.size) wB) b bm (ps'.set j (fs[j].1, p')) ((quota : Int) - used (crashK ks fs (j + 1))) left dead turn ∧ fsOf (ps'.set j (fs[j].1, p')) = crashK ks fs (j + 1)) := HZ
        clear HZ hp1 hp2 hp3 kp3 hcr
        go_roundw
        case rel => exact ⟨j + 1, _, by omega, by go_num, HZ'.out⟩
        case measure => simp [intOf]; omega
      · have hkd : ks.getD j 0 = 0 := getD_out (by omega)
        rw [hkd] at HS
        go_wp2_with (go_at_call 101; refine (hcr 0).mono ?_; rintro e w2 ⟨rfl, ⟨p', hp1, hp2, hp3⟩, kp3⟩)
        have HZ := HS.out p' w2 hp1 hp3 kp3
        have HZ' : Hid (Kp (Nw (fun k => S k ∧ k < w.heap.size) wB) wB w2 ∧ PrSt w2 (Nw (fun k => S k ∧ k < w.heap.size) wB) b bm (ps'.set j (fs[j].1, p')) ((quota : Int) - used (crashK ks fs (j + 1))) left dead turn ∧ fsOf (ps'.set j (fs[j].1, p')) = crashK ks fs (j + 1)) := HZ
        clear HZ hp1 hp2 hp3 kp3 hcr
        go_roundw
        case rel => exact ⟨j + 1, _, by omega, by go_num, HZ'.out⟩
        case measure => simp [intOf]; omega
    · have : j = fs.length := by omega
      subst this
      rw [crashK_end] at hsr hfr
      obtain ⟨r0, r1, r2, r3, r8, r4, r5, r6, r7, r9⟩ := cells5 hsr.blk
      clear hiB hqT hi hq hoB' hlo hoR hby hsafe hname hrise hstB
      go_wp2
      go_end0
      have h1 := hsr.fields (Kp.set1 wr b 2 (.int .i64 (-1))) ((block_set hsr.blk _).trans rfl)
      have h2 := h1.fields (Kp.set1 _ b 3 (.bool false)) ((block_set h1.blk _).trans rfl)
      have h3 := h2.fields (Kp.set1 _ b 4 (.int .i64 (Go.RowKit.wrap64 (turn + 1)))) ((block_set h2.blk _).trans rfl)
      refine ⟨rfl, ⟨bm, ps', h3.mono (fun k _ s => ?_), hfr⟩, ?_⟩
      · rcases s with s | s
        · exact .inl s.1
        · exact .inr (Nat.le_trans hszB s)
      · refine kpNw ((((((Kp.of_below (S := Nw S w) hblB).trans kp (fun i hi s => ?_)).put (.inl hsb) _).put (.inl hsb) _).put (.inl hsb) _))
        rcases s with s | s
        · exact .inl s.1
        · omega

end Go.Proofs.YtoabedkcieindaaGreatDoor
