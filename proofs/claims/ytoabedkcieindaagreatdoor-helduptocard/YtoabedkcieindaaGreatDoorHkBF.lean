import Derived.Test.YtoabedkcieindaaGreatDoorHkBE
namespace Go.Proofs.YtoabedkcieindaaGreatDoor
open Go.RowKit Go.Maps Go.Sort Go.Shelf
theorem below_drewN {w w1 : World} (hb : Below w.heap.size w w1) (n : Nat) : Below w.heap.size w (w1.drewN n) := ((Kp.of_below (S := fun _ => False) hb).drewN n).below
theorem Dop.one {w : World} {g off : Nat} {L : List DoV} (h : Dop w (some ⟨g, off, none⟩) L) (i : Nat) (hi : i < L.length) : Dop w (some ⟨g, off + i * 4, none⟩) [L[i]] := fun j hj => by
  have hj0 : j = 0 := by simpa using hj
  subst hj0
  obtain ⟨g', off', e, c0, c1, c2, c3⟩ := h i hi
  cases e
  exact ⟨_, _, rfl, by simpa using c0, by simpa using c1, by simpa using c2, by simpa using c3⟩
structure RdH (w wr : World) (bx bz : Nat) (lv mv : Value) (L : Mp) (left i : Nat) : Prop where
  ex : ∃ U M Q b1 b2, Wg wr U bx bz mv M left (110 + i) Q ∧ PRowS wr U lv L ∧ (∀ k, U k → w.heap.size ≤ k) ∧ Below w.heap.size w wr ∧ (Q = Qa b1 b2 L ∨ (2 < i ∧ Q = Qb b1 L))
theorem PRowS.over {w w' : World} {U U' : Nat → Prop} {v : Value} {l : List (Nm × Nm)} (h : PRowS w U v l) (k : Kp U w w') (hU : ∀ i, U' i → Nw U w i) : PRowS w' U' v l := by
  obtain ⟨q, c, e, hp, hn⟩ := h
  obtain ⟨q', c', e', hp', _⟩ := PRowS.kept ⟨q, c, e, hp, hn⟩ k
  rw [e] at e'
  cases e'
  refine ⟨q, c, e, hp', fun a ha h0 s => ?_⟩
  rcases hU _ s with s | s
  · exact hn a ha h0 s
  · have := Pairp.lt hp a ha h0; omega
theorem opp_one {W : World} {g : Nat} {k v : Nm} {b : Bool} (h : W.heap[g]? = some (.cells #[str k, str v, .bool b] 77)) : Opp W (some ⟨g, 0, none⟩) [⟨k, v, b⟩] := fun i hi => by
  have h0 : i = 0 := by simpa using hi
  subst h0
  exact ⟨g, 0, rfl, by simpa using cell_block (j := 0) h, by simpa using cell_block (j := 1) h, by simpa using cell_block (j := 2) h⟩
set_option maxHeartbeats 2000000 in
set_option maxRecDepth 20000 in
theorem Held_any (policy : Int) (q1 : Option Addr) (qc1 : Nat) (L1 : List DoV) (q2 : Option Addr) (qc2 : Nat) (L2 : List DoV) (key : Nm) (w : World) (hp0 : -9223372036854775808 ≤ policy) (hp1 : policy ≤ 9223372036854775807) (hl1 : L1.length ≤ 1048576) (hl2 : L2.length ≤ 1048576) (hc2 : L2.length ≤ qc2) (hqc2 : qc2 ≤ 9223372036854775807)
    (hL1 : Dop w q1 L1) (hok1 : ∀ o ∈ L1, DoOk w o ∧ ∀ b, o.q = some b → 0 < o.ops.length → b.block < w.heap.size) (hL2 : Dop w q2 L2) (hok2 : ∀ o ∈ L2, DoOk w o ∧ ∀ b, o.q = some b → 0 < o.ops.length → b.block < w.heap.size) (hkl : key.length ≤ 9223372036854775807) :
    Calls Tryz.prog 11 #[.int .i64 policy, .slice q1 L1.length qc1, .slice q2 L2.length qc2, str key] w fun e w' => e = .returned (.bool true) ∧ Below w.heap.size w w' := by
  have hK := kpick_any policy 3 w hp0 hp1 (by omega) (by omega)
  have hF := fun (p : Int) (h : 0 ≤ p ∧ p ≤ 2) => fresh_lg p w h
  have hBt := fun (w1 : World) (h : Below w.heap.size w w1) => batches_any q1 qc1 L1 w1 (hL1.below h) hl1
  clear hp0 hp1
  go_enter Tryz.func11, Tryz.ntmps11
  go_wp2_with (first
    | (go_at_call 18; refine hK.mono ?_; rintro e w0 ⟨p, rfl, p0, p3, rfl⟩; clear hK; have hF1 := hF p ⟨p0, by omega⟩; clear hF)
    | (go_at_call 17; refine hF1.mono ?_; rintro e w1 ⟨bx, bz, rfl, hX, hb1⟩; clear hF1; have hBt1 := hBt w1 hb1; clear hBt)
    | (go_at_call 20; refine hBt1.mono ?_; rintro e w2 ⟨v2, rfl, hb2, ho2⟩; obtain ⟨q2', c2', rfl, hD2, hf2⟩ := ho2.dop; clear hBt1; have hWt := wrote_lg bx bz (.slice none 0 0) [] 110 110 (fun k => w0.heap.size ≤ k ∧ k < w1.heap.size) q2' c2' (L1.filter isB) w2 (by decide) ⟨⟨0, 0, hX.below hb2, by omega, by omega⟩, fun k s => Nat.lt_of_lt_of_le s.2 hb2.size, PRowS.nil _ _ _⟩ (Nat.le_trans (List.length_filter_le _ _) hl1) hD2 (fun a ha _ s => by have := (hf2 a ha).1; omega) (fun o ho => ⟨((hok1 o (List.mem_filter.1 ho).1).1.below hb1).below hb2, fun b hb0 h0 s => by have := (hok1 o (List.mem_filter.1 ho).1).2 b hb0 h0; omega⟩))
    | (go_at_call 19; refine hWt.mono ?_; rintro e w3 ⟨v3, left3, U3, M3, rfl, hW3, hU3, k3⟩; clear hWt; obtain ⟨n3, c3, hLg3, hn3, hcc3⟩ := hW3.shop; have hS1 := xSnap1 bx bz U3 M3 n3 c3 w3 hLg3 (by omega); obtain ⟨q3, cc3, hv3, hp3, hr3⟩ := hW3.row; subst hv3)
    | (go_at_call 38; refine hS1.mono ?_; rintro e w4 ⟨rfl, ⟨b1, hLg4⟩, k4⟩; clear hS1; have hS2 := xSnap2 bx bz U3 M3 n3 c3 b1 w4 hLg4 (by omega))
    | (go_at_call 38; refine hS2.mono ?_; rintro e w5 ⟨rfl, ⟨b2, hLg5⟩, k5⟩; clear hS2))
  have hB2 : Below w0.heap.size w0 w2 := hb1.trans (hb2.mono hb1.size)
  have hU3' : ∀ k, U3 k → w0.heap.size ≤ k := fun k s => (hU3 k s).elim (fun h => h.1) (fun h => Nat.le_trans hB2.size h)
  have hB3 : Below w0.heap.size w0 w3 := below_kp2 hB2 k3 (fun j s => s.1)
  have hB5 : Below w0.heap.size w0 w5 := below_kp2 (below_kp2 hB3 k4 hU3') k5 hU3'
  have hrow3 : PRowS w3 U3 (.slice q3 M3.length cc3) M3 := ⟨q3, cc3, rfl, hp3, hr3⟩
  have hrow5 := (hrow3.kept k4).kept k5
  have hR0 : RdH w0 w5 bx bz (.slice q3 M3.length cc3) (.slice q3 M3.length cc3) M3 left3 0 :=
    ⟨⟨U3, M3, _, b1, b2, ⟨⟨n3, c3, hLg5, hn3, by omega⟩, fun k s => Nat.lt_of_lt_of_le (Nat.lt_of_lt_of_le (hW3.up k s) k4.size) k5.size, hrow5⟩, hrow5, hU3', hB5, .inl rfl⟩⟩
  obtain ⟨hrise3, hml3⟩ := hLg3.inv
  have hM3 : M3.length ≤ 110 := by omega
  clear hX hb1 hb2 hD2 hf2 ho2 hW3 hU3 k3 hLg3 hp3 hr3 hLg4 hLg5 k4 k5 hrow3 hrow5 hU3' hB2 hB3 hB5 hn3 hcc3 hml3
  go_loopw [13, 18, 19] (fun lf mv i wr => ∃ k left : Nat, k ≤ L2.length ∧ i = .int .i64 k ∧ lf = .int .i64 left ∧ RdH w0 wr bx bz (.slice q3 M3.length cc3) mv M3 left k) (fun _ _ i _ => L2.length - (intOf i).toNat)
  case atStart => exact ⟨0, left3, Nat.zero_le _, rfl, rfl, hR0⟩
  case round =>
    clear hR0
    obtain ⟨k, left, hk, rfl, rfl, hR⟩ := hrel
    obtain ⟨U, M, Q, b1', b2', hW, hrl, hU, hB, hQ⟩ := hR.ex
    obtain ⟨n, c, hLg, hn, hcc⟩ := hW.shop
    by_cases hlt : k < L2.length
    · obtain ⟨g, off, rfl, d0, _, _, _⟩ := (hL2.below hB) k hlt
      have hqi : ¬ qc2 = k := by omega
      by_cases hk1 : L2[k].kind = 1
      · rw [hk1] at d0
        have hFl := xFlush_lg bx bz U M n c wr hLg (by omega) (by omega)
        go_wp2_with (go_at_call 39; refine hFl.mono ?_; rintro e w4 ⟨rfl, hX4, k4⟩; clear hFl)
        go_roundw
        case rel =>
          refine ⟨k + 1, left, by omega, by go_num, rfl, ⟨⟨fun j => Nw U wr j ∧ j < w4.heap.size, M, Q, b1', b2', ⟨⟨n, c + 1, hX4.mono (fun j hj s => ⟨s, hj⟩), hn, by omega⟩, fun j s => s.2, hW.row.step k4⟩, hrl.step k4, fun j s => s.1.elim (hU j) (fun h => Nat.le_trans hB.size h), below_kp2 hB k4 hU, hQ.imp id (fun h => ⟨by omega, h.2⟩)⟩⟩⟩
        case measure => simp [intOf]; omega
      · have hD1 : Dop wr (some ⟨g, off + k * 4, none⟩) [L2[k]] := (hL2.below hB).one k hlt
        have hBt := batches_any (some ⟨g, off + k * 4, none⟩) (qc2 - k) [L2[k]] wr hD1 (by simp)
        simp only [List.length_cons, List.length_nil, Nat.zero_add] at hBt
        have hoi := hok2 L2[k] (List.getElem_mem hlt)
        have hFl : ∀ o ∈ [L2[k]].filter isB, o = L2[k] := fun o ho => by simpa using (List.mem_filter.1 ho).1
        have hFll : ([L2[k]].filter isB).length ≤ 1 := Nat.le_trans (List.length_filter_le _ _) (by simp)
        generalize [L2[k]].filter isB = F at *
        have hWt : ∀ (w2 : World) (q2 : Option Addr) (c2 : Nat), Below wr.heap.size wr w2 → Dop w2 q2 F → (∀ a, q2 = some a → wr.heap.size ≤ a.block) → _ := fun w2 q2 c2 hb2 hD2 hf2 => wrote_lg bx bz _ M left (110 + k) U q2 c2 F w2 (by omega) (hW.below hb2) (by omega) hD2 (fun a ha _ s => by have := hf2 a ha; have := hW.up _ s; omega) (fun o ho => by
          rw [hFl o ho]
          exact ⟨(hoi.1.below hB).below hb2, fun b hb0 h0 s => by have := hoi.2 b hb0 h0; have := hU _ s; omega⟩)
        obtain ⟨kd, hkd⟩ : ∃ kd, L2[k].kind = kd := ⟨_, rfl⟩
        rw [hkd] at d0 hk1
        clear hkd
        by_cases hk2 : (k : Int) = 2
        · have hQ2 : Q = Qa b1' b2' M3 := hQ.elim id (fun h => by omega)
          subst hQ2
          obtain rfl : k = 2 := by omega
          clear hk2
          simp only [Nat.reduceMul] at d0 hBt
          go_wp2_with (first
            | (go_at_call 20; refine hBt.mono ?_; rintro e w2 ⟨v2, rfl, hb2, ho2⟩; obtain ⟨q2, c2, rfl, hD2, hf2⟩ := ho2.dop; have hWt2 := hWt w2 q2 c2 hb2 hD2 (fun a ha => (hf2 a ha).1); clear hBt hWt)
            | (go_at_call 19; refine hWt2.mono ?_; rintro e w3 ⟨v3, left3, U3, M4, rfl, hW3, hU3, k3⟩; clear hWt2; obtain ⟨n3, c3, hLg3, hn3, hcc3⟩ := hW3.shop; have hRl := xRel_lg bx bz U3 M4 n3 c3 2 (2, b2', M3) w3 hLg3 (by omega) (by unfold I64; omega) rfl)
            | (go_at_call 40; refine hRl.mono ?_; rintro e w4 ⟨rfl, hLg4, k4⟩; clear hRl))
          have hB2 : Below w0.heap.size w0 w2 := hB.trans (hb2.mono hB.size)
          have hB3 : Below w0.heap.size w0 w3 := below_kp2 hB2 k3 hU
          have hU3' : ∀ j, U3 j → w0.heap.size ≤ j := fun j s => (hU3 j s).elim (hU j) (fun h => Nat.le_trans hB2.size h)
          go_roundw
          case rel =>
            refine ⟨3, left3, by omega, by go_num, rfl, ⟨⟨U3, M4, _, b1', b2', ⟨⟨n3, c3, hLg4, hn3, by omega⟩, fun j s => Nat.lt_of_lt_of_le (hW3.up j s) k4.size, hW3.row.kept k4⟩, ((hrl.below hb2).over k3 hU3).kept k4, hU3', below_kp2 hB3 k4 hU3', .inr ⟨by omega, rfl⟩⟩⟩⟩
          case measure => simp [intOf]; omega
        · go_wp2_with (first
            | (go_at_call 20; refine hBt.mono ?_; rintro e w2 ⟨v2, rfl, hb2, ho2⟩; obtain ⟨q2, c2, rfl, hD2, hf2⟩ := ho2.dop; have hWt2 := hWt w2 q2 c2 hb2 hD2 (fun a ha => (hf2 a ha).1); clear hBt hWt)
            | (go_at_call 19; refine hWt2.mono ?_; rintro e w3 ⟨v3, left3, U3, M4, rfl, hW3, hU3, k3⟩; clear hWt2))
          have hB2 : Below w0.heap.size w0 w2 := hB.trans (hb2.mono hB.size)
          have hB3 : Below w0.heap.size w0 w3 := below_kp2 hB2 k3 hU
          have hU3' : ∀ j, U3 j → w0.heap.size ≤ j := fun j s => (hU3 j s).elim (hU j) (fun h => Nat.le_trans hB2.size h)
          go_roundw
          case rel =>
            refine ⟨k + 1, left3, by omega, by go_num, rfl, ⟨⟨U3, M4, Q, b1', b2', hW3.more (by omega), (hrl.below hb2).over k3 hU3, hU3', hB3, hQ.imp id (fun h => ⟨by omega, h.2⟩)⟩⟩⟩
          case measure => simp [intOf]; omega
    ·
      have hfind : Q.l.find? (fun q => decide (q.1 = 1)) = some (1, b1', M3) := by
        rcases hQ with rfl | ⟨_, rfl⟩ <;> rfl
      have hno : (Q.rel 1).l.find? (fun q => decide (q.1 = 1)) = none := by
        rcases hQ with rfl | ⟨_, rfl⟩ <;> rfl
      have hSc := xScanAt_lg bx bz U M n c 1 (1, b1', M3) [] 1099511627776 wr hLg (by omega) (by unfold I64; omega) hfind (by omega) (by omega)
      simp only at hSc
      rw [fromL_nil, List.take_of_length_le (by show _ ≤ 1099511627776; omega)] at hSc
      obtain ⟨ql, cl, hvl, hpl, hnl⟩ := hrl
      obtain ⟨rfl, -, rfl⟩ := Value.slice.inj hvl
      clear hvl
      have hrow := hW.row
      obtain ⟨qm, cm, hvm, _, _⟩ := id hrow
      subst hvm
      obtain ⟨kk, hkk⟩ : ∃ kk, tidyK key = kk := ⟨_, rfl⟩
      have hkok : keyOk kk = true := by rw [← hkk]; exact tidyK_ok key
      have hTd : ∀ (W : World), Calls Tryz.prog 33 #[.slice (some ⟨W.heap.size, 0, none⟩) 1 1] (W.alloc (.cells #[str key, str [], .bool false] 77)) fun e w' => ∃ g7 o7 c7 : Nat, e = .returned (.slice (some ⟨g7, o7, none⟩) 1 c7) ∧ w'.cell? ⟨g7, o7, none⟩ = some (str kk) ∧ Below W.heap.size W w' := fun W => by
        have := tidied_any (some ⟨W.heap.size, 0, none⟩) 1 [⟨key, [], false⟩] (W.alloc (.cells #[str key, str [], .bool false] 77)) (opp_one (block_new W _)) (fun o ho => by rw [List.mem_singleton] at ho; subst ho; exact ⟨hkl, by simp⟩) (by simp)
        refine this.mono ?_
        rintro e w' ⟨v, rfl, hb, ho⟩
        obtain ⟨q7, c7, hv7, hp7, _⟩ := ho.opp
        have hT : tidyL [⟨key, [], false⟩] = [⟨kk, tidyV [], false⟩] := by rw [← hkk]; rfl
        rw [hT] at hp7 hv7
        obtain ⟨g7, o7, e7, d7, _⟩ := hp7 0 (by simp)
        subst e7
        exact ⟨g7, o7, c7, by rw [hv7]; rfl, by simpa using d7, ((Below.refl _ W).alloc (Nat.le_refl _) _).trans (hb.mono (by simp))⟩
      have hGet := fun (w7 : World) (h : Below wr.heap.size wr w7) => xGetAt_lg bx bz U M n c 1 (1, b1', M3) kk w7 (hLg.below h) (by omega) (by unfold I64; omega) hfind hkok
      simp only at hGet
      obtain ⟨gv, gb, hgm⟩ : ∃ gv gb, gotM (getF kk M3) = (str gv, .bool gb) := by cases getF kk M3 <;> exact ⟨_, _, rfl⟩
      rw [hgm] at hGet
      have HGM : Hid (gotM (lastG kk M3) = (str gv, .bool gb)) := by show _ = _; rw [lastG_is hrise3]; exact hgm
      have hRel1 := fun (w8 : World) (h : Below wr.heap.size wr w8) => xRel_lg bx bz U M n c 1 (1, b1', M3) w8 (hLg.below h) (by omega) (by unfold I64; omega) hfind
      have hRel2 := fun (w9 : World) (h : Lg w9 U bx bz M n c (Q.rel 1)) => xRel_no bx bz U M n c 1 w9 h (by unfold I64; omega) hno
      have hScN := fun (w10 : World) (h : Lg w10 U bx bz M n c (Q.rel 1)) => xScanAt_no bx bz U M n c 1 [] [] 1099511627776 w10 h (by unfold I64; omega) hno
      generalize Q.rel 1 = Q1 at *
      clear hgm hkk hkok hfind hno hQ hR hL1 hok1 hL2 hok2 hkl
      go_wp2_with (first
        | (go_at_call 41; go_loud (refine hSc.mono ?_; rintro e w4 ⟨v4, rfl, hb4, ho4⟩; obtain ⟨q4, c4, rfl, hp4, _⟩ := ho4.pairp; clear hSc; have hks := ksame_any q4 q3 c4 cc3 M3 M3 w4 hp4 (hpl.below hb4) (by omega) (by omega)))
        | (go_at_call 27; go_loud (refine hks.mono ?_; rintro e w5 ⟨he, n5, rfl⟩; have he' : e = .returned (.bool true) := (by rw [he]; simp); clear he; subst he'; have hB5 : Below wr.heap.size wr (w4.drewN n5) := below_drewN hb4 n5; have hHo := holds_lg bx bz U U M n c _ (w4.drewN n5) (hLg.below hB5) (by omega) (hrow.below hB5); clear hks))
        | (go_at_call 31; refine hHo.mono ?_; rintro e w6 ⟨rfl, hb6⟩; have hB6 := hB5.trans (hb6.mono hB5.size); clear hHo)
        | (go_at_call 33; refine (hTd w6).mono ?_; rintro e w7 ⟨g7, o7, c7, rfl, d7, hb7⟩; have hB7 := hB6.trans (hb7.mono hB6.size); clear hTd; have hGt := hGet w7 hB7; clear hGet)
        | (go_at_call 42; refine hGt.mono ?_; rintro e w8 ⟨rfl, hb8⟩; have hB8 := hB7.trans (hb8.mono hB7.size); clear hGt))
      have hp8 := hpl.below hB8
      clear hp4 ho4 hb4 hb6 hb7 hb8 hB5 hB6 hB7 d7 hpl hnl
      go_loopw [26, 27, 28] (fun wv th jv wr' => ∃ j : Nat, j ≤ M3.length ∧ jv = .int .i64 j ∧ wv = (gotM (lastG kk (M3.take j))).1 ∧ th = (gotM (lastG kk (M3.take j))).2 ∧ wr' = w8) (fun _ _ jv _ => M3.length - (intOf jv).toNat)
      case atStart => exact ⟨0, Nat.zero_le _, rfl, rfl, rfl, rfl⟩
      case round =>
        obtain ⟨j, hj, rfl, rfl, rfl, rfl⟩ := hrel
        by_cases hjl : j < M3.length
        · obtain ⟨g8, off8, rfl, e0, e1⟩ := hp8 j hjl
          have hsn : lastG kk (M3.take (j + 1)) = if M3[j].1 = kk then some M3[j].2 else lastG kk (M3.take j) := by rw [List.take_succ_eq_append_getElem hjl, lastG_snoc]
          by_cases hkj : M3[j].1 = kk
          · rw [if_pos hkj] at hsn
            rw [hkj] at e0
            have HSN : Hid (lastG kk (M3.take (j + 1)) = some M3[j].2) := hsn
            clear hsn hkj
            generalize M3[j].2 = val at *
            go_wp2
            go_roundw
            case rel => exact ⟨j + 1, by omega, by go_num, by rw [HSN.out]; rfl, by rw [HSN.out]; rfl, trivial⟩
            case measure => simp [intOf]; omega
          · rw [if_neg hkj] at hsn
            have HSN : Hid (lastG kk (M3.take (j + 1)) = lastG kk (M3.take j)) := hsn
            clear hsn
            generalize M3[j].1 = kj at *
            have hbq : (kj == kk) = false := by simpa using hkj
            go_wp2
            go_roundw
            case rel => exact ⟨j + 1, by omega, by go_num, by rw [HSN.out], by rw [HSN.out], trivial⟩
            case measure => simp [intOf]; omega
        · rw [List.take_of_length_le (by omega), HGM.out]
          simp only
          have hRel1' := hRel1 _ hB8
          clear hRel1
          cases gb
          all_goals
            go_wp2_with (first
              | (go_at_call 40; refine hRel1'.mono ?_; rintro e w9 ⟨rfl, hLg9, k9⟩; clear hRel1'; have hRel2' := hRel2 w9 hLg9; clear hRel2)
              | (go_at_call 40; refine hRel2'.mono ?_; rintro e w10 ⟨rfl, hb10⟩; clear hRel2'; have hScN' := hScN w10 (hLg9.below hb10); clear hScN)
              | (go_at_call 41; refine hScN'.mono ?_; rintro e w11 ⟨rfl, hb11⟩; clear hScN'))
            go_ret
            have hBx := below_kp2 (hB.trans (hB8.mono hB.size)) k9 hU
            exact ⟨rfl, (hBx.trans (hb10.mono hBx.size)).trans (hb11.mono (hBx.trans (hb10.mono hBx.size)).size)⟩
end Go.Proofs.YtoabedkcieindaaGreatDoor
