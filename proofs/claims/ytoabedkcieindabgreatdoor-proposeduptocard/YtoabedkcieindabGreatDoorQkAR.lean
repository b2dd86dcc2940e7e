import Derived.Test.YtoabedkcieindabGreatDoorQkAQ
import Derived.Defers
namespace Go.Proofs.YtoabedkcieindabGreatDoor
open Go.RowKit Go.Maps Go.Sort Go.Shelf
set_option maxHeartbeats 1000000 in
set_option maxRecDepth 20000 in
theorem cloneT_any (q : Option Addr) (qc : Nat) (ss : List Tr) (w : World) (hq : Rp tbC 3 w q ss) (hqn : q = none → qc = 0 ∧ ss = []) (hqa : ∀ a, q = some a → ∃ g off, a = ⟨g, off, none⟩) (hl : ss.length ≤ 1000000) :
    Calls Tryz.prog 201 #[.slice q ss.length qc] w fun e w' => ∃ v, e = .returned v ∧ Below w.heap.size w w' ∧ OwnT w' w.heap.size v ss := by
  have q0 : ∀ (w : World) (a : Option Addr) (n c n' c' : Nat), (binOp .eql 108 (.slice a n c) (.slice none n' c')).run Tryz.prog w = .ok (.bool a.isNone) w := fun w a n c n' c' => Lib.run_eql_slice_nil w _ _ a n c n' c' Tryz.underlying108
  cases q with
  | none =>
    obtain ⟨rfl, rfl⟩ := hqn rfl
    go_enter Tryz.func201, Tryz.ntmps201
    go_wp2
    go_ret
    exact ⟨_, rfl, Below.refl _ _, OwnR.nil _ _ _ _ _⟩
  | some a =>
    obtain ⟨g, off, rfl⟩ := hqa a rfl
    have h0 : OwnT (w.alloc (.cells #[] 114)) w.heap.size (.slice (some ⟨w.heap.size, 0, none⟩) 0 0) [] := World.ownsRow_lit (size := 3) w #[] 0 (Nat.le_refl _) (Nat.zero_le _) rfl
    go_enter Tryz.func201, Tryz.ntmps201
    go_wp2_with (first
      | (at_builtin; refine wpList_appR _ rfl (.tmp 5) (.tmp 6) 114 108 Tryz.info114 rfl (by decide) Tryz.underlying108 tbC_len tbC_one rfl w.heap.size _ [] ss (some ⟨g, off, none⟩) qc rfl rfl (by simp) h0 (fun e => by cases e) (fun a ha => ⟨_, _, (Option.some.inj ha).symm⟩) (hq.below ((Below.refl _ _).alloc (Nat.le_refl _) _)) (by simp; omega) (by simp; omega) ?_; intro v3 w3 hown3 kp3; have hb3 := OwnR.belowOwn (by simp) h0 kp3; obtain ⟨a3, cap3, rfl⟩ := hown3.shape)
      | go_in)
    go_ret
    refine ⟨_, rfl, ((Below.refl _ _).alloc (Nat.le_refl _) _).trans hb3, ?_⟩
    simpa using hown3
theorem written_step (nx : Nat) (ts : List Tb) (d : Dk) (k : Nat) (h : k < ts.length) : writtenF nx (ts.drop k) d =
    if 0 < ts[k].number then ((writtenF nx (ts.drop (k + 1)) d).1, (writtenF nx (ts.drop (k + 1)) d).2.1, (writtenF nx (ts.drop (k + 1)) d).2.2.1, ts[k] :: (writtenF nx (ts.drop (k + 1)) d).2.2.2) else
    if (lwrite d (tbN nx) (encLay (ts[k].es.map (·.op)))).1 ≠ 0 then ((lwrite d (tbN nx) (encLay (ts[k].es.map (·.op)))).1, (lwrite d (tbN nx) (encLay (ts[k].es.map (·.op)))).2, 0, []) else
    ((writtenF (nx + 1) (ts.drop (k + 1)) (lwrite d (tbN nx) (encLay (ts[k].es.map (·.op)))).2).1, (writtenF (nx + 1) (ts.drop (k + 1)) (lwrite d (tbN nx) (encLay (ts[k].es.map (·.op)))).2).2.1, (writtenF (nx + 1) (ts.drop (k + 1)) (lwrite d (tbN nx) (encLay (ts[k].es.map (·.op)))).2).2.2.1, { ts[k] with number := nx } :: (writtenF (nx + 1) (ts.drop (k + 1)) (lwrite d (tbN nx) (encLay (ts[k].es.map (·.op)))).2).2.2.2) := by
  rw [List.drop_eq_getElem_cons h, writtenF]
theorem flat_setT (nx : Nat) : ∀ (ss : List Tr) (i : Nat) (h : i < ss.length), (ss.set i ({ ss[i].1 with number := nx }, ss[i].2)).flatMap tbC = (ss.flatMap tbC).set (i * 3) (.int .i64 nx)
  | x :: r, 0, _ => by simp [tbC]
  | x :: r, i + 1, h => by
    have ih := flat_setT nx r i (by simpa using h)
    simp only [List.set_cons_succ, List.flatMap_cons, List.getElem_cons_succ]
    rw [ih, show (i + 1) * 3 = (tbC x).length + i * 3 by rw [tbC_len]; omega, List.set_append_right _ _ (by omega)]
    congr 2
    omega
theorem own_setT {w : World} {base g n cap : Nat} {ss : List Tr} {i : Nat} (hi : i < ss.length) (h : OwnT w base (.slice (some ⟨g, 0, none⟩) n cap) ss) (nx : Nat) : OwnT (w.setCell ⟨g, i * 3, none⟩ (.int .i64 nx)) base (.slice (some ⟨g, 0, none⟩) n cap) (ss.set i ({ ss[i].1 with number := nx }, ss[i].2)) := by
  refine ⟨by rw [flatR_len tbC_len], ?_⟩
  rcases h.2 with ⟨hv, _⟩ | ⟨g', cap', cur, hv, hb, hg, h1, h2, h3, h4⟩
  · cases hv
  · obtain ⟨rfl, rfl, rfl⟩ : g = g' ∧ n = ss.length ∧ cap = cap' := by simpa using hv
    refine .inr ⟨g, cap, cur.setIfInBounds (i * 3) (.int .i64 nx), by rw [List.length_set], hb, block_set hg _, by rw [List.length_set]; exact h1, h2, by simpa using h3, ?_⟩
    rw [List.length_set, flat_setT nx ss i hi, ← h4]
    simp only [Array.toList_setIfInBounds]
    rw [List.take_set]
theorem tbN_len (n : Nat) : (tbN n).length ≤ 1000 := by
  have := tbN_ok n
  simp only [nameOk, Bool.and_eq_true, decide_eq_true_eq] at this
  omega
theorem encLay_len {l : Ly} (ho : LyOk l) (hl : l.length ≤ 500) : (encLay (l.map (·.op))).length ≤ 1099511627776 := by
  have h1 := encBody_len (l.map (·.op)) (fun o h => by obtain ⟨e, he, rfl⟩ := List.mem_map.1 h; exact ho e he)
  have h2 : (encLay (l.map (·.op))).length = 4 + (encBody (l.map (·.op))).length := by simp [encLay, sealT, be4_len]
  rw [List.length_map] at h1
  omega
set_option maxHeartbeats 400000 in
set_option maxRecDepth 20000 in
theorem written_any (T bd next : Nat) (s : Sl) (l : List Tr) (d : Dk) (S : Nat → Prop) (w : World) (h0 : w.cell? ⟨T, 0, none⟩ = some (.pointer (some ⟨bd, 0, none⟩))) (h5 : w.cell? ⟨T, 5, none⟩ = some (.int .i64 next)) (hT : ¬ S T) (hs : TrAt w s l) (he : TrEs w l) (hsE : ∀ x ∈ l, ∀ a, x.2.1 = some a → 0 < x.1.es.length → ¬ S a.block)
    (hP : ProgAt w S bd d) (hok : d.Ok) (hfl : d.files.length ≤ 1000000) (hnx : next ≤ 4611686018427387904) (hnum : ∀ x ∈ l, x.1.number < 9223372036854775808) (hl : l.length ≤ 1000) (hes : ∀ x ∈ l, LyOk x.1.es ∧ x.1.es ≠ [] ∧ x.1.es.length ≤ 500) :
    Calls Tryz.prog 127 #[.pointer (some ⟨T, 0, none⟩), slV s] w fun e w' => ∃ v n, e = .returned (.tuple #[v, .int .i64 n, .int .i64 (writtenF next (l.map (·.1)) d).1]) ∧ ProgAt w' (fun k => Nw S w k ∧ v.ownBlock ≠ some k) bd (writtenF next (l.map (·.1)) d).2.1 ∧ Kp S w w' ∧
      ((writtenF next (l.map (·.1)) d).1 = 0 → n = (writtenF next (l.map (·.1)) d).2.2.1 ∧ ∃ l', OwnT w' w.heap.size v l' ∧ l'.map (·.1) = (writtenF next (l.map (·.1)) d).2.2.2 ∧ l'.map (·.2) = l.map (·.2)) := by
  obtain ⟨sa, sn, sc⟩ := s
  obtain rfl : sn = l.length := hs.len
  have hC := cloneT_any sa sc l w hs.row hs.nil hs.pl (by omega)
  have hTl := World.block_lt_of_cell? w _ h0
  have hP0 : ProgAt w (fun k => S k ∧ k < w.heap.size) bd d := hP.mono (fun k hk s => ⟨s, hk⟩)
  show Calls Tryz.prog 127 #[.pointer (some ⟨T, 0, none⟩), .slice sa l.length sc] w _
  go_enter Tryz.func127, Tryz.ntmps127
  go_wp2_with (go_at_call 201; refine hC.mono ?_; rintro e w1 ⟨v1, rfl, hb1, ho1⟩; obtain ⟨a1, c1, hv1⟩ := ho1.shape; subst hv1; have h51 := cell_below hb1 h5)
  go_loopw [7, 19] (fun n i wr => ∃ (k nx : Nat) (dk : Dk) (pre : List Tr), k ≤ l.length ∧ i = .int .i64 k ∧ n = .int .i64 nx ∧ nx ≤ next + k ∧ dk.Ok ∧ dk.files.length ≤ d.files.length + k ∧ pre.length = k ∧ pre.map (·.2) = (l.take k).map (·.2) ∧
      OwnT wr w.heap.size (.slice a1 l.length c1) (pre ++ l.drop k) ∧ ProgAt wr (Nw (fun k => S k ∧ k < w.heap.size) w1) bd dk ∧ Kp (fun k => (S k ∧ k < w.heap.size) ∨ (Value.slice a1 l.length c1).ownBlock = some k) w1 wr ∧
      writtenF next (l.map (·.1)) d = ((writtenF nx ((l.map (·.1)).drop k) dk).1, (writtenF nx ((l.map (·.1)).drop k) dk).2.1, (writtenF nx ((l.map (·.1)).drop k) dk).2.2.1, pre.map (·.1) ++ (writtenF nx ((l.map (·.1)).drop k) dk).2.2.2)) (fun _ i _ => l.length - (intOf i).toNat)
  case atStart => exact ⟨0, next, d, [], Nat.zero_le _, rfl, rfl, by omega, hok, by omega, rfl, rfl, by simpa using ho1, (progBelow hP0 hb1).nw, Kp.refl _ _, by simp⟩
  case round =>
    obtain ⟨k, nx, dk, pre, hk, rfl, rfl, hnk, hokk, hfk, hpl, hp2, hrow, hPk, hkp, hwf⟩ := hrel
    have hz1 := hb1.size
    have hown1 : ∀ g, (Value.slice a1 l.length c1).ownBlock = some g → w.heap.size ≤ g ∧ g < w1.heap.size := fun g hg => World.ownsRow.lt ho1 g hg
    have keep : ∀ (b : Nat), b < w.heap.size → ¬ S b → wr.heap[b]? = w.heap[b]? := fun b hb hs => (hkp.block b (by omega) (fun h => h.elim (fun h => hs h.1) (fun h => by have := (hown1 b h).1; omega))).trans (hb1.block b hb)
    have h0r : wr.cell? ⟨T, 0, none⟩ = some (.pointer (some ⟨bd, 0, none⟩)) := (World.cell?_of_block (keep T hTl hT)).trans h0
    have HWF : Hid (writtenF next (l.map (·.1)) d = ((writtenF nx ((l.map (·.1)).drop k) dk).1, (writtenF nx ((l.map (·.1)).drop k) dk).2.1, (writtenF nx ((l.map (·.1)).drop k) dk).2.2.1, pre.map (·.1) ++ (writtenF nx ((l.map (·.1)).drop k) dk).2.2.2)) := hwf
    clear hwf
    have fin : ∀ {W : World} {dd : Dk}, ProgAt W (Nw (fun k => S k ∧ k < w.heap.size) w1) bd dd → ProgAt W (fun k => Nw S w k ∧ (Value.slice a1 l.length c1).ownBlock ≠ some k) bd dd := fun h => h.mono (fun k _ h => ⟨h.elim (fun h => .inl h.1) (fun h => .inr (Nat.le_trans hz1 h)), fun e => by have := hown1 k e; rcases h with h | h <;> omega⟩)
    have fin2 : ∀ {W : World}, Kp (fun k => (S k ∧ k < w.heap.size) ∨ (Value.slice a1 l.length c1).ownBlock = some k) w1 W → Kp S w W := fun h => (Kp.of_below (S := S) hb1).trans h (fun i hi s => s.elim (fun s => s.1) (fun e => by have := (hown1 i e).1; omega))
    by_cases hlt : k < l.length
    · have hkr : k < (pre ++ l.drop k).length := by simp; omega
      have hgk : (pre ++ l.drop k)[k] = l[k] := by rw [List.getElem_append_right (by omega)]; simp [hpl]
      have hst := written_step nx (l.map (·.1)) dk k (by simpa using hlt)
      simp only [List.getElem_map] at hst
      obtain ⟨q1, cq1, hq1, _, hrp, _⟩ := hrow.rp tbC_len
      obtain ⟨rfl, -, rfl⟩ := Value.slice.inj hq1
      obtain ⟨g, off, e, d0⟩ := hrp k hkr 0 _ rfl
      obtain ⟨_, _, e', d1⟩ := hrp k hkr 1 _ rfl
      obtain ⟨_, _, e'', d2⟩ := hrp k hkr 2 _ rfl
      subst e
      cases e'; cases e''
      obtain rfl : off = 0 := by
        rcases World.ownsRow.shapeE hrow with h' | ⟨g', c', h'⟩
        · cases h'
        · have := (Value.slice.inj h').1; exact (by simpa using (Option.some.inj this) : g = g' ∧ off = 0).2
      simp only [Nat.zero_add, Nat.add_zero, hgk] at d0 d1 d2
      have hlk := List.getElem_mem hlt
      have hek := he _ hlk
      obtain ⟨ho3, hn3, hl3⟩ := hes _ hlk
      have hnn := hnum _ hlk
      have hsE3 := hsE _ hlk
      generalize hX : l[k] = X at *
      obtain ⟨⟨xn, xl, xe⟩, ⟨ea, en, ec⟩⟩ := X
      simp only at hst ho3 hn3 hl3 hnn hsE3 d0 d1 d2
      obtain rfl : en = xe.length := hek.len
      clear hq1 hrp
      by_cases hpos : 0 < xn
      · rw [if_pos hpos] at hst
        have HST : Hid _ := hst
        clear hst
        go_wp2
        go_roundw
        case rel =>
          refine ⟨k + 1, nx, dk, pre ++ [l[k]], by omega, by go_num, rfl, by omega, hokk, by omega, by simp [hpl], ?_, ?_, progBelow hPk ((Below.refl _ _).alloc (Nat.le_refl _) _), (hkp.trans (T := fun _ => False) (Kp.of_below ((Below.refl _ _).alloc (Nat.le_refl _) _)) (fun _ _ f => f.elim)), ?_⟩
          · rw [List.map_append, hp2, List.take_succ_eq_append_getElem hlt, List.map_append]
            try rfl
          · rw [List.append_assoc, List.singleton_append, ← List.drop_eq_getElem_cons hlt]; exact hrow.alloc _
          · rw [HWF.out, HST.out, hX]; simp
        case measure => simp [intOf]; omega
      · obtain rfl : xn = 0 := by omega
        simp only [Nat.lt_irrefl, if_false] at hst
        have hekr : SlAt wr (ea, xe.length, ec) xe := ((hek.below hb1).kept hkp (fun a ha hpos h => by
          obtain ⟨g', off', e', c', _⟩ := hek.row 0 hpos
          simp only at ha e'
          rw [ha] at e'
          cases e'
          have hlt' := World.block_lt_of_cell? w _ c'
          simp only at hlt'
          rcases h with h | h
          · exact hsE3 _ ha hpos h.1
          · have := (hown1 _ h).1; simp only at this; omega))
        have hTb := fun (W : World) => tableName_any nx W (by omega)
        have hEn := fun (W : World) (h : Below wr.heap.size wr W) => layEncode_any ea ec xe W ((hekr.below h).row) ho3 hn3 hl3
        have hTS : ¬ Nw (fun k => S k ∧ k < w.heap.size) w1 T := by rintro (h | h); exact hT h.1; omega
        have hPk' : ProgAt wr (fun j => Nw (fun k => S k ∧ k < w.heap.size) w1 j ∧ j < wr.heap.size) bd dk := hPk.mono (fun j hj s => ⟨s, hj⟩)
        have hWr := fun (W : World) (h : Below wr.heap.size wr W) => swrite_any T bd dk _ (tbN nx) (encLay (xe.map (·.op))) W (cell_below h h0r) (fun h => hTS h.1) (progBelow hPk' h) hokk (by omega) (tbN_len nx) (encLay_len ho3 hl3)
        have hlo := lwrite_ok hokk (tbN nx) (encLay (xe.map (·.op)))
        have HST : Hid _ := hst
        clear hst
        go_wp2
        have hB1 : Below wr.heap.size wr ((wr.alloc (.cells #[.int .i64 0, .int .i64 xl, .slice ea xe.length ec] 114)).drew) := ((Below.refl _ wr).alloc (Nat.le_refl _) _).drew
        have hbx : (wr.alloc (.cells #[.int .i64 0, .int .i64 xl, .slice ea xe.length ec] 114)).drew.heap[wr.heap.size]? = some (.cells #[.int .i64 0, .int .i64 xl, .slice ea xe.length ec] 114) := block_new wr _
        refine wp_calm ?_
        refine wp_region_E (S := fun w' => w'.heap[wr.heap.size]? = some (.cells #[.int .i64 0, .int .i64 xl, .slice ea xe.length ec] 114)) mixedP ?_
        refine wpAnyE_take (i := 0) (L := 6) (v := .pointer (some ⟨T, 0, none⟩)) rfl rfl (by decide) (by kernel_rfl) (by kernel_rfl) (by kernel_rfl) (by kernel_rfl) (by kernel_rfl) (fun _ _ _ h => h) (Or.inl ⟨by rfl, fun w' hS => ?_⟩) hbx ?_
        · go_simp
        refine wpAnyE_take (i := 1) (L := 2) (v := .int .i64 nx) rfl rfl (by decide) (by kernel_rfl) (by kernel_rfl) (by kernel_rfl) (by kernel_rfl) (by kernel_rfl) (fun _ _ _ h => h) (Or.inl ⟨by rfl, fun w' hS => ?_⟩) hbx ?_
        · go_simp
        refine wpAnyE_take (i := 3) (L := 4) (v := .pointer (some ⟨wr.heap.size, 2, none⟩)) rfl rfl (by decide) (by kernel_rfl) (by kernel_rfl) (by kernel_rfl) (by kernel_rfl) (by kernel_rfl) (fun _ _ _ h => h) (Or.inl ⟨by rfl, fun w' hS => ?_⟩) hbx ?_
        · go_simp
        refine wpAnyE_take (i := 4) (L := 5) (v := .slice ea xe.length ec) rfl rfl (by decide) (by kernel_rfl) (by kernel_rfl) (by kernel_rfl) (by kernel_rfl) (by kernel_rfl) (fun _ _ _ h => h) (Or.inl ⟨by rfl, fun w' hS => ?_⟩) hbx ?_
        · obtain ⟨u0, u1, u2, _⟩ := cells3 hS; go_simp
        refine wpAnyE_one (i := 2) (by kernel_rfl) rfl (by rfl) (fun K hK => ?_)
        go_simp
        refine (hTb _).mono ?_
        rintro e w2 ⟨rfl, hb2⟩
        have hB2 := hB1.trans (hb2.mono hB1.size)
        refine hK.out _ _ ((hb2.block _ (by simp)).trans hbx) ?_
        clear hK
        refine wpAnyE_one (i := 5) (by kernel_rfl) rfl (by rfl) (fun K hK => ?_)
        go_simp
        refine (hEn _ hB2).mono ?_
        rintro e w3 ⟨rfl, hb3⟩
        have hB3 := hB2.trans (hb3.mono hB2.size)
        have hbx3 : w3.heap[wr.heap.size]? = some (.cells #[.int .i64 0, .int .i64 xl, .slice ea xe.length ec] 114) := (hb3.block _ (by have := hb2.size; simp at this; omega)).trans ((hb2.block _ (by simp)).trans hbx)
        refine hK.out _ _ hbx3 ?_
        clear hK
        refine wpAnyE_one (i := 6) (by kernel_rfl) rfl (by rfl) (fun K hK => ?_)
        go_simp
        refine (hWr _ hB3).mono ?_
        rintro e w4 ⟨rfl, hP4, k4⟩
        have hz3 : w1.heap.size ≤ w3.heap.size := Nat.le_trans hkp.size hB3.size
        refine hK.out _ _ (k4.at hbx3 (fun h => Nat.lt_irrefl _ h.2)) ?_
        clear hK
        refine wpAnyE_last (i := 7) (by kernel_rfl) rfl (by rfl) (by kernel_rfl) (by kernel_rfl) (fun K hK => ?_)
        go_simp
        refine hK.out _ _ ?_
        clear hK
        have hgo : w.heap.size ≤ g ∧ g < w1.heap.size := hown1 g rfl
        have hgS : ¬ (Nw (fun k => S k ∧ k < w.heap.size) w1 g ∧ g < wr.heap.size) := by rintro ⟨h | h, _⟩ <;> omega
        have hkp4 : Kp (fun k => (S k ∧ k < w.heap.size) ∨ (Value.slice (some ⟨g, 0, none⟩) l.length c1).ownBlock = some k) w1 w4 := (hkp.trans (T := fun _ => False) (Kp.of_below hB3) (fun _ _ f => f.elim)).trans k4 (fun i hi s => s.1.elim (fun h => .inl h) (fun h => by omega))
        have hP4' : ProgAt w4 (Nw (fun k => S k ∧ k < w.heap.size) w1) bd (lwrite dk (tbN nx) (encLay (xe.map (·.op)))).2 := hP4.mono (fun j _ h => h.elim (fun h => h.1) (fun h => .inr (Nat.le_trans hz3 h)))
        obtain ⟨r, hr⟩ : ∃ r, (lwrite dk (tbN nx) (encLay (xe.map (·.op)))).1 = r := ⟨_, rfl⟩
        clear hTb hEn hWr hbx hbx3 hB1 hB2 hb2 hb3
        by_cases h0e : r = 0
        · subst h0e
          have HR : Hid ((lwrite dk (tbN nx) (encLay (xe.map (·.op)))).1 = 0) := hr
          rw [hr]
          clear hr
          have hrow4 : OwnT w4 w.heap.size (.slice (some ⟨g, 0, none⟩) l.length c1) (pre ++ l.drop k) := (hrow.below hB3).kept k4 (fun j hj h => by cases hj; exact hgS h)
          obtain ⟨q5, c5, hq5, _, hrp5, _⟩ := hrow4.rp tbC_len
          obtain ⟨rfl, -, rfl⟩ := Value.slice.inj hq5
          obtain ⟨g5, off5, e5, d5⟩ := hrp5 k hkr 0 _ rfl
          cases e5
          simp only [Nat.zero_add, Nat.add_zero] at d5
          have z5 : w4.frozen? ⟨g, k * 3, none⟩ = false := by
            rcases hrow4.2 with ⟨h', _⟩ | ⟨g', cap', cur, h', _, hg', _⟩
            · cases h'
            · obtain rfl : g = g' := by simpa using (Value.slice.inj h').1
              exact frozen_block hg'
          have hset := own_setT hkr hrow4 nx
          have hks := Kp.set1 w4 g (k * 3) (.int .i64 nx)
          have HSET : Hid ((pre ++ l.drop k).set k ({ (pre ++ l.drop k)[k].1 with number := nx }, (pre ++ l.drop k)[k].2) = (pre ++ [(⟨nx, xl, xe⟩, (ea, xe.length, ec))]) ++ l.drop (k + 1)) := by
            show _ = _
            rw [hgk, List.set_append_right _ _ (by omega), hpl, Nat.sub_self, List.drop_eq_getElem_cons hlt, List.set_cons_zero, List.append_assoc]; rfl
          clear hq5 hrp5
          go_wp2
          go_roundw
          case rel =>
            refine ⟨k + 1, nx + 1, _, pre ++ [(⟨nx, xl, xe⟩, (ea, xe.length, ec))], by omega, by go_num, by go_num, by omega, hlo.1, by omega, by simp [hpl], ?_, ?_, hP4'.kept hks (fun j hj e => by subst e; rcases hj with h | h <;> omega), hkp4.trans hks (fun j _ e => .inr (by subst e; rfl)), ?_⟩
            · rw [List.map_append, hp2, List.take_succ_eq_append_getElem hlt, List.map_append, hX]; rfl
            · rw [← HSET.out]; exact hset
            · rw [HWF.out, HST.out, if_neg (by simp [HR.out])]; simp
          case measure => simp [intOf]; omega
        · have HQ : Hid (writtenF next (l.map (·.1)) d = (r, (lwrite dk (tbN nx) (encLay (xe.map (·.op)))).2, 0, pre.map (·.1))) := by
            show _ = _
            rw [HWF.out, HST.out, if_pos (by rw [hr]; exact h0e), hr]; simp
          rw [hr]
          clear hr HWF HST
          go_wp2
          go_ret3
          refine ⟨_, 0, by rw [HQ.out]; rfl, by rw [HQ.out]; exact (fin hP4').mono (fun k _ h => ⟨h.1, fun e => by cases e⟩), fin2 hkp4, fun h => ?_⟩
          rw [HQ.out] at h
          exact absurd h h0e
    · have E : Hid ((l.map (·.1)).drop k = []) := List.drop_eq_nil_of_le (by simp; omega)
      have E2 : Hid (l.take k = l) := List.take_of_length_le (by omega)
      have E3 : Hid (l.drop k = []) := List.drop_eq_nil_of_le (by omega)
      rw [E.out] at HWF
      rw [E2.out] at hp2
      rw [E3.out, List.append_nil] at hrow
      go_wp2
      go_ret3
      refine ⟨_, nx, by rw [HWF.out]; rfl, by rw [HWF.out]; exact fin hPk, fin2 hkp, fun _ => ⟨by rw [HWF.out]; rfl, pre, hrow, by rw [HWF.out]; simp [writtenF], hp2⟩⟩
theorem writtenF_dk : ∀ (ts : List Tb) (nx : Nat) (d : Dk), d.Ok → (writtenF nx ts d).2.1.Ok ∧ (writtenF nx ts d).2.1.files.length ≤ d.files.length + ts.length ∧ (writtenF nx ts d).2.2.1 ≤ nx + ts.length ∧ ∀ t ∈ (writtenF nx ts d).2.2.2, t.number < nx + ts.length ∨ ∃ t' ∈ ts, t.number = t'.number
  | [], nx, d, h => ⟨h, by simp [writtenF], by simp [writtenF], by simp [writtenF]⟩
  | t :: r, nx, d, h => by
    rw [writtenF]
    by_cases hp : 0 < t.number
    · rw [if_pos hp]
      obtain ⟨h1, h2, h3, h4⟩ := writtenF_dk r nx d h
      refine ⟨h1, by simp only [List.length_cons]; omega, by simp only [List.length_cons]; omega, fun x hx => ?_⟩
      rcases List.mem_cons.1 hx with rfl | hx
      · exact .inr ⟨x, by simp, rfl⟩
      · rcases h4 x hx with h | ⟨y, hy, e⟩
        · exact .inl (by simp only [List.length_cons]; omega)
        · exact .inr ⟨y, by simp [hy], e⟩
    · rw [if_neg hp]
      obtain ⟨g1, g2⟩ := lwrite_ok h (tbN nx) (encLay (t.es.map (·.op)))
      simp only
      split
      · exact ⟨g1, by simp only [List.length_cons]; omega, by simp, by simp⟩
      · obtain ⟨h1, h2, h3, h4⟩ := writtenF_dk r (nx + 1) _ g1
        refine ⟨h1, by simp only [List.length_cons]; omega, by simp only [List.length_cons]; omega, fun x hx => ?_⟩
        rcases List.mem_cons.1 hx with rfl | hx
        · exact .inl (by simp only [List.length_cons]; omega)
        · rcases h4 x hx with h | ⟨y, hy, e⟩
          · exact .inl (by simp only [List.length_cons]; omega)
          · exact .inr ⟨y, by simp [hy], e⟩
end Go.Proofs.YtoabedkcieindabGreatDoor

namespace Go.Proofs.YtoabedkcieindabGreatDoor
open Go.RowKit Go.Maps Go.Sort Go.Shelf
set_option maxHeartbeats 400000 in
set_option maxRecDepth 20000 in
theorem sweepD_any (u : FrameMode) (T bd log : Nat) (s : Sl) (l : List Tr) (d : Dk) (S : Nat → Prop) (w : World) (h0 : w.cell? ⟨T, 0, none⟩ = some (.pointer (some ⟨bd, 0, none⟩))) (h4 : w.cell? ⟨T, 4, none⟩ = some (slV s)) (h6 : w.cell? ⟨T, 6, none⟩ = some (.int .i64 log)) (hT : ¬ S T) (hs : TrAt w s l) (hsS : ∀ a, s.1 = some a → 0 < l.length → ¬ S a.block)
    (hP : ProgAt w S bd d) (hok : d.Ok) (hfl : d.files.length ≤ 1000000) (hda : d.dead = false) (hour : ∀ n ∈ nmsOf d.files, Our n) (hlen : ∀ n ∈ nmsOf d.files, n.length ≤ 1000) (hlg : log < 9223372036854775808) (hnum : ∀ x ∈ l, x.1.number < 9223372036854775808) (hl : l.length ≤ 1000) :
    CallsD Tryz.prog 116 #[.pointer (some ⟨T, 0, none⟩)] u w fun e u' w' => u' = u ∧ e = .returned (.int .i64 (sweepO log (l.map (·.1)) (nmsOf d.files) d).1) ∧ ProgAt w' (Nw S w) bd (sweepO log (l.map (·.1)) (nmsOf d.files) d).2 ∧ Kp S w w' := by
  have hN := dNames_any bd d S w hP hok (by omega) hda
  have hTl := World.block_lt_of_cell? w _ h0
  generalize hNS : nmsOf d.files = NS at *
  have hnl : NS.length ≤ 1000000 := by rw [← hNS]; simpa [nmsOf] using hfl
  clear hNS
  have hP0 : ProgAt w (fun k => S k ∧ k < w.heap.size) bd d := hP.mono (fun k hk s => ⟨s, hk⟩)
  go_enter_d Tryz.func116, Tryz.ntmps116
  go_wp2_with (go_at_call 34; refine hN.mono ?_; rintro e w1 ⟨v1, rfl, hb1, ho1⟩; obtain ⟨a1, c1, rfl, hcel⟩ := ownS_shape ho1)
  go_loopw [21] (fun i wr => ∃ (k : Nat) (dk : Dk), k ≤ NS.length ∧ i = .int .i64 k ∧ dk.Ok ∧ sweepO log (l.map (·.1)) NS d = sweepO log (l.map (·.1)) (NS.drop k) dk ∧ ProgAt wr (Nw (fun k => S k ∧ k < w.heap.size) w1) bd dk ∧ Kp (fun k => S k ∧ k < w.heap.size) w1 wr) (fun i _ => NS.length - (intOf i).toNat)
  case atStart => exact ⟨0, d, Nat.zero_le _, rfl, hok, rfl, (progBelow hP0 hb1).nw, Kp.refl _ _⟩
  case round =>
    obtain ⟨k, dk, hk, rfl, hokk, hsw, hPk, hkp⟩ := hrel
    have hz1 := hb1.size
    have keep : ∀ (b : Nat), b < w.heap.size → ¬ S b → wr.heap[b]? = w.heap[b]? := fun b hb hs => (hkp.block b (by omega) (fun h => hs h.1)).trans (hb1.block b hb)
    have h0r : wr.cell? ⟨T, 0, none⟩ = some (.pointer (some ⟨bd, 0, none⟩)) := (World.cell?_of_block (keep T hTl hT)).trans h0
    have h4r : wr.cell? ⟨T, 4, none⟩ = some (slV s) := (World.cell?_of_block (keep T hTl hT)).trans h4
    have h6r : wr.cell? ⟨T, 6, none⟩ = some (.int .i64 log) := (World.cell?_of_block (keep T hTl hT)).trans h6
    have hsr : TrAt wr s l := ⟨hs.len, hs.cap, hs.nil, hs.pl, fun i hi j u hu => by
      obtain ⟨g, off, e, c⟩ := hs.row i hi j u hu
      exact ⟨g, off, e, by rw [World.cell?_of_block (keep g (World.block_lt_of_cell? w _ c) (hsS _ e (by omega)))]; exact c⟩⟩
    have HSW : Hid (sweepO log (l.map (·.1)) NS d = sweepO log (l.map (·.1)) (NS.drop k) dk) := hsw
    clear hsw
    have kpw : Kp S w wr := (Kp.of_below (S := S) hb1).trans hkp (fun i hi s => s.1)
    by_cases hlt : k < NS.length
    · obtain ⟨g, rfl, hgb, cg⟩ := hcel k hlt
      have cgr : wr.cell? ⟨g, k, none⟩ = some (encS NS[k]) := (World.cell?_of_block (hkp.block g (World.block_lt_of_cell? w1 _ cg) (fun h => by omega))).trans cg
      have hO := fun (W : World) => isOurs_any NS[k] W (hour _ (List.getElem_mem hlt))
      have hNd := fun (W : World) (h : Below wr.heap.size wr W) => isNeeded_any T log s l NS[k] W (cell_below h h6r) (cell_below h h4r) (hsr.below h) hlg hnum hl
      have HD : Hid (sweepO log (l.map (·.1)) (NS.drop k) dk = if needsN log (l.map (·.1)) NS[k] then sweepO log (l.map (·.1)) (NS.drop (k + 1)) dk else if (dk.remove NS[k]).1 ≠ 0 then dk.remove NS[k] else sweepO log (l.map (·.1)) (NS.drop (k + 1)) (dk.remove NS[k]).2) := by
        show _ = _
        rw [List.drop_eq_getElem_cons hlt, sweepO]
      have hnk := hlen _ (List.getElem_mem hlt)
      clear hcel
      by_cases hnd : needsN log (l.map (·.1)) NS[k] = true
      · rw [hnd] at hNd
        go_wp2_with (first
          | (go_at_call 184; refine (hO _).mono ?_; rintro e w2 ⟨rfl, hb2⟩)
          | (go_at_call 186; refine (hNd _ hb2).mono ?_; rintro e w3 ⟨rfl, hb3⟩))
        have hb23 : Below wr.heap.size wr w3 := hb2.trans (hb3.mono hb2.size)
        go_roundw
        case rel => exact ⟨k + 1, dk, by omega, by go_num, hokk, by rw [HSW.out, HD.out, if_pos hnd], progBelow hPk hb23, hkp.trans (T := fun _ => False) (Kp.of_below hb23) (fun _ _ f => f.elim)⟩
        case measure => simp [intOf]; omega
      · have hnd' : needsN log (l.map (·.1)) NS[k] = false := by simpa using hnd
        rw [hnd'] at hNd
        have hR := fun (W : World) (h : Below wr.heap.size wr W) => dRemove_any bd dk NS[k] _ W (progBelow hPk h) hokk (by unfold maxLen; omega)
        have hro := (remove_ok hokk NS[k]).1
        have fin : ∀ {w3 w4 : World}, Below wr.heap.size wr w3 → ProgAt w4 (Nw (Nw (fun k => S k ∧ k < w.heap.size) w1) w3) bd (dk.remove NS[k]).2 → Kp (Nw (fun k => S k ∧ k < w.heap.size) w1) w3 w4 → ProgAt w4 (Nw (fun k => S k ∧ k < w.heap.size) w1) bd (dk.remove NS[k]).2 ∧ Kp (fun k => S k ∧ k < w.heap.size) w1 w4 := fun {w3 w4} hb h k3 => by
          have hz3 : w1.heap.size ≤ w3.heap.size := Nat.le_trans hkp.size hb.size
          refine ⟨h.mono (fun k _ h => h.elim id (fun h => .inr (Nat.le_trans hz3 h))), (hkp.trans (T := fun _ => False) (Kp.of_below hb) (fun _ _ f => f.elim)).trans k3 (fun i hi s => s.elim id (fun h => ?_))⟩
          omega
        by_cases hr : (dk.remove NS[k]).1 = 0
        · rw [hr] at hR
          go_wp2_with (first
            | (go_at_call 184; refine (hO _).mono ?_; rintro e w2 ⟨rfl, hb2⟩)
            | (go_at_call 186; refine (hNd _ hb2).mono ?_; rintro e w3 ⟨rfl, hb3⟩; have hb23 : Below wr.heap.size wr w3 := hb2.trans (hb3.mono hb2.size); have h03 := cell_below hb23 h0r)
            | (go_at_call 140; refine (hR _ hb23).mono ?_; rintro e w4 ⟨rfl, hP4, k4⟩))
          obtain ⟨f1, f2⟩ := fin hb23 hP4 k4
          go_roundw
          case rel => exact ⟨k + 1, _, by omega, by go_num, hro, by rw [HSW.out, HD.out, if_neg hnd, if_neg (by simpa using hr)], f1, f2⟩
          case measure => simp [intOf]; omega
        · have HQ : Hid (sweepO log (l.map (·.1)) NS d = dk.remove NS[k]) := by show _ = _; rw [HSW.out, HD.out, if_neg hnd, if_pos hr]
          clear HSW HD
          obtain ⟨rr, hrr⟩ : ∃ rr, (dk.remove NS[k]).1 = rr := ⟨_, rfl⟩
          rw [hrr] at hR hr
          have HRR : Hid ((dk.remove NS[k]).1 = rr) := hrr
          clear hrr
          go_wp2_with (first
            | (go_at_call 184; refine (hO _).mono ?_; rintro e w2 ⟨rfl, hb2⟩)
            | (go_at_call 186; refine (hNd _ hb2).mono ?_; rintro e w3 ⟨rfl, hb3⟩; have hb23 : Below wr.heap.size wr w3 := hb2.trans (hb3.mono hb2.size); have h03 := cell_below hb23 h0r)
            | (go_at_call 140; refine (hR _ hb23).mono ?_; rintro e w4 ⟨rfl, hP4, k4⟩))
          obtain ⟨f1, f2⟩ := fin hb23 hP4 k4
          go_ret
          exact ⟨by rw [HQ.out, HRR.out]; rfl, by rw [HQ.out]; exact f1.mono (fun k _ h => h.elim (fun h => .inl h.1) (fun h => .inr (Nat.le_trans hz1 h))), (Kp.of_below (S := S) hb1).trans f2 (fun i hi s => s.1)⟩
    · have E : Hid (NS.drop k = []) := List.drop_eq_nil_of_le (by omega)
      rw [E.out] at HSW
      go_wp2
      go_ret
      exact ⟨by rw [HSW.out]; rfl, by rw [HSW.out]; exact hPk.mono (fun k _ h => h.elim (fun h => .inl h.1) (fun h => .inr (Nat.le_trans hz1 h))), kpw⟩
end Go.Proofs.YtoabedkcieindabGreatDoor
