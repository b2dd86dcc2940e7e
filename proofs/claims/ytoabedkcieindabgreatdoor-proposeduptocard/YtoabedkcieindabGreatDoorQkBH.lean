import Derived.Test.YtoabedkcieindabGreatDoorQkBG
namespace Go.Proofs.YtoabedkcieindabGreatDoor
open Go.RowKit Go.Maps Go.Sort Go.Shelf
structure RdP (w wr : World) (bx bz : Nat) (lv : Value) (left i : Nat) : Prop where
  ex : ∃ U M, Wg wr U bx bz lv M left (110 + i) ⟨0, []⟩ ∧ (∀ k, U k → w.heap.size ≤ k) ∧ Below w.heap.size w wr
theorem drop_take_cons {α : Type} (l : List α) {k b : Nat} (hk : k < b) (hb : b ≤ l.length) : (l.drop k).take (b - k) = l[k]'(by omega) :: (l.drop (k + 1)).take (b - (k + 1)) := by
  rw [List.drop_eq_getElem_cons (by omega), show b - k = (b - (k + 1)) + 1 by omega, List.take_succ_cons]
set_option maxHeartbeats 4000000 in
set_option maxRecDepth 20000 in
theorem Proposed_any (policy : Int) (q1 : Option Addr) (qc1 : Nat) (L1 : List DoV) (q2 : Option Addr) (qc2 : Nat) (L2 : List DoV) (fr to : Int) (w : World) (hp0 : -9223372036854775808 ≤ policy) (hp1 : policy ≤ 9223372036854775807) (hl2 : L2.length ≤ 1048576) (hc1 : L1.length ≤ qc1) (_ : qc1 ≤ 9223372036854775807)
    (hL1 : Dop w q1 L1) (hok1 : ∀ o ∈ L1, DoOk w o ∧ ∀ b, o.q = some b → 0 < o.ops.length → b.block < w.heap.size) (hL2 : Dop w q2 L2) (hok2 : ∀ o ∈ L2, DoOk w o ∧ ∀ b, o.q = some b → 0 < o.ops.length → b.block < w.heap.size) (hf0 : -9223372036854775808 ≤ fr) (hf1 : fr ≤ 9223372036854775807) (ht0 : -9223372036854775808 ≤ to) (ht1 : to ≤ 9223372036854775807) :
    Calls Tryz.prog 4 #[.int .i64 policy, .slice q1 L1.length qc1, .slice q2 L2.length qc2, .int .i64 fr, .int .i64 to] w fun e w' => e = .returned (.bool true) ∧ Below w.heap.size w w' := by
  obtain ⟨i0, hi0, hz0, hz1, hz2⟩ := info_parts Tryz.infoN
  have hK := kpick_any policy 3 w hp0 hp1 (by omega) (by omega)
  have hF := fun (p : Int) (h : 0 ≤ p ∧ p ≤ 2) => fresh_lg p w h
  clear hp0 hp1
  go_enter Tryz.func4, Tryz.ntmps4
  go_wp2_with (first
    | (go_at_call 7; refine hK.mono ?_; rintro e w0 ⟨p, rfl, p0, p3, rfl⟩; clear hK; have hF1 := hF p ⟨p0, by omega⟩; clear hF)
    | (go_at_call 6; refine hF1.mono ?_; rintro e w1 ⟨bx, bz, rfl, hX, hb1⟩; clear hF1))
  have hR0 : RdP w0 w1 bx bz (.slice none 0 0) 110 0 := ⟨⟨fun k => w0.heap.size ≤ k ∧ k < w1.heap.size, [], ⟨⟨0, 0, hX, by omega, by omega⟩, fun k s => s.2, PRowS.nil _ _ _⟩, fun k s => s.1, hb1⟩⟩
  clear hX hb1
  go_loopw [14, 15, 16] (fun lv lf i wr => ∃ k left : Nat, k ≤ L1.length ∧ k ≤ 4 ∧ i = .int .i64 k ∧ lf = .int .i64 left ∧ RdP w0 wr bx bz lv left k) (fun _ _ i _ => L1.length - (intOf i).toNat)
  case atStart => exact ⟨0, 110, Nat.zero_le _, by omega, rfl, rfl, hR0⟩
  case round =>
    clear hR0
    obtain ⟨k, left, hk, hk4, rfl, rfl, hR⟩ := hrel
    obtain ⟨U, M, hW, hU, hB⟩ := hR.ex
    obtain ⟨n, c, hLg, hn, hcc⟩ := hW.shop
    by_cases hgo : k < L1.length ∧ k < 4
    · obtain ⟨hlt, hlt4⟩ := hgo
      obtain ⟨g, off, rfl, _⟩ := hL1 k hlt
      have hqi : ¬ qc1 = k := by omega
      have hlt4' : (k : Int) < 4 := by omega
      have hD1 : Dop wr (some ⟨g, off + k * 4, none⟩) [L1[k]] := (hL1.below hB).one k hlt
      have hBt := batches_any (some ⟨g, off + k * 4, none⟩) (qc1 - k) [L1[k]] wr hD1 (by simp)
      simp only [List.length_cons, List.length_nil, Nat.zero_add] at hBt
      have hoi := hok1 L1[k] (List.getElem_mem hlt)
      have hFl : ∀ o ∈ [L1[k]].filter isB, o = L1[k] := fun o ho => by simpa using (List.mem_filter.1 ho).1
      have hFll : ([L1[k]].filter isB).length ≤ 1 := Nat.le_trans (List.length_filter_le _ _) (by simp)
      generalize [L1[k]].filter isB = F at *
      have hWt : ∀ (w2 : World) (q2 : Option Addr) (c2 : Nat), Below wr.heap.size wr w2 → Dop w2 q2 F → (∀ a, q2 = some a → wr.heap.size ≤ a.block) → _ := fun w2 q2 c2 hb2 hD2 hf2 => wrote_lg bx bz _ M left (110 + k) U q2 c2 F w2 (by omega) (hW.below hb2) (by omega) hD2 (fun a ha _ s => by have := hf2 a ha; have := hW.up _ s; omega) (fun o ho => by
        rw [hFl o ho]
        exact ⟨(hoi.1.below hB).below hb2, fun b hb0 h0 s => by have := hoi.2 b hb0 h0; have := hU _ s; omega⟩)
      go_wp2_with (first
        | (go_at_call 10; refine hBt.mono ?_; rintro e w2 ⟨v2, rfl, hb2, ho2⟩; obtain ⟨q2', c2, rfl, hD2, hf2⟩ := ho2.dop; have hWt2 := hWt w2 q2' c2 hb2 hD2 (fun a ha => (hf2 a ha).1); clear hBt hWt)
        | (go_at_call 9; refine hWt2.mono ?_; rintro e w3 ⟨v3, left3, U3, M3, rfl, hW3, hU3, k3⟩; clear hWt2; obtain ⟨n3, c3, hLg3, hn3, hcc3⟩ := hW3.shop; have hFl3 := xFlush_lg bx bz U3 M3 n3 c3 w3 hLg3 (by omega) (by omega))
        | (go_at_call 19; refine hFl3.mono ?_; rintro e w4 ⟨rfl, hX4, k4⟩; clear hFl3))
      have hB2 : Below w0.heap.size w0 w2 := hB.trans (hb2.mono hB.size)
      have hB3 : Below w0.heap.size w0 w3 := below_kp2 hB2 k3 hU
      have hU3' : ∀ j, U3 j → w0.heap.size ≤ j := fun j s => (hU3 j s).elim (hU j) (fun h => Nat.le_trans hB2.size h)
      go_roundw
      case rel =>
        refine ⟨k + 1, left3, by omega, by omega, by go_num, rfl, ⟨⟨fun j => Nw U3 w3 j ∧ j < w4.heap.size, M3, ⟨⟨n3, c3 + 1, hX4.mono (fun j hj s => ⟨s, hj⟩), hn3, by omega⟩, fun j s => s.2, hW3.row.step k4⟩, fun j s => s.1.elim (hU3' j) (fun h => Nat.le_trans hB3.size h), below_kp2 hB3 k4 hU3'⟩⟩⟩
      case measure => simp [intOf]; omega
    · have hS1 := xSnap1 bx bz U M n c wr hLg (by omega)
      have hrow := hW.row
      obtain ⟨ql, cl, hvl, _, _⟩ := id hrow
      subst hvl
      have hup := hW.up
      obtain ⟨hrise, hml⟩ := hLg.inv
      have hcase : ¬ k < L1.length ∨ (k < L1.length ∧ ¬ (k : Int) < 4) := by omega
      clear hR hW hLg hgo hL1 hok1
      rcases hcase with hcA | ⟨hcA, hcB⟩
      all_goals
        go_wp2_with (first
          | (go_at_call 20; refine hS1.mono ?_; rintro e w4 ⟨rfl, ⟨b1, hLg4⟩, k4⟩; clear hS1; have hB4 : Below w0.heap.size w0 w4 := below_kp2 hB k4 hU; have hBt := batches_any q2 qc2 L2 w4 (hL2.below hB4) hl2)
          | (go_at_call 10; refine hBt.mono ?_; rintro e w5 ⟨v5, rfl, hb5, ho5⟩; obtain ⟨q5, c5, rfl, hD5, hf5⟩ := ho5.dop; clear hBt; have hB5 : Below w0.heap.size w0 w5 := hB4.trans (hb5.mono hB4.size); have hrow5 := (hrow.kept k4).below hb5; have hWt := wrote_lg bx bz _ M left (110 + k) U q5 c5 (L2.filter isB) w5 (by omega) ⟨⟨n, c, hLg4.below hb5, hn, hcc⟩, fun j s => Nat.lt_of_lt_of_le (Nat.lt_of_lt_of_le (hup j s) k4.size) hb5.size, hrow5⟩ (Nat.le_trans (List.length_filter_le _ _) hl2) hD5 (fun a ha _ s => by have := (hf5 a ha).1; have := hup _ s; have := k4.size; omega) (fun o ho => ⟨(hok2 o (List.mem_filter.1 ho).1).1.below hB5, fun b hb0 h0 s => by have := (hok2 o (List.mem_filter.1 ho).1).2 b hb0 h0; have := hU _ s; omega⟩))
          | (go_at_call 9; refine hWt.mono ?_; rintro e w6 ⟨v6, left6, U6, M6, rfl, hW6, hU6, k6⟩; clear hWt; obtain ⟨n6, c6, hLg6, hn6, hcc6⟩ := hW6.shop; have hFl6 := xFlush_m bx bz U6 M6 n6 c6 w6 hLg6 (by omega) (by omega); obtain ⟨q6, cq6, hv6, _, _⟩ := id hW6.row; subst hv6)
          | (go_at_call 19; refine hFl6.mono ?_; rintro e w7 ⟨rfl, ⟨d7, st7, hx7, hl7, hm7⟩, k7⟩; clear hFl6; have hTb := xTables_lg bx bz d7 st7 (Nw U6 w6) M6 n6 (c6 + 1) w7 hx7 hl7 (by omega); have hM0 := hl7.none hm7; have hfew7 := hl7.few; have hents7 := hl7.ents)
          | (go_at_call 12; refine hTb.mono ?_; rintro e w8 ⟨v8, rfl, ho8, hb8⟩; obtain ⟨q8, c8, rfl, _, hr8, _, _⟩ := ho8.rp ttC_len; clear hTb))
        have hB6 : Below w0.heap.size w0 w6 := below_kp2 hB5 k6 hU
        have hU6' : ∀ j, U6 j → w0.heap.size ≤ j := fun j s => (hU6 j s).elim (hU j) (fun h => Nat.le_trans hB5.size h)
        have hB7 : Below w0.heap.size w0 w7 := below_kp2 hB6 k7 hU6'
        have hMl6 : M6.length ≤ 110 := by have := hLg6.inv.2; omega
        obtain ⟨U7, hx7', hU7, hrl7, hrm7⟩ : ∃ U7 : Nat → Prop, Lx w7 U7 bx bz d7 st7 ∧ (∀ j, U7 j → w0.heap.size ≤ j) ∧ PRowS w7 U7 (.slice ql M.length cl) M ∧ PRowS w7 U7 (.slice q6 M6.length cq6) M6 :=
          ⟨fun j => Nw U6 w6 j ∧ j < w7.heap.size, hx7.mono (fun j hj s => ⟨s, hj⟩), fun j s => s.1.elim (hU6' j) (fun h => Nat.le_trans hB6.size h), (hrow5.over k6 hU6).step k7, hW6.row.step k7⟩
        clear hx7 hLg4 hLg6 hW6 hU6 k6 k7 hrow5 hB5 hB6 ho8 hL2 hok2 hD5 hf5 ho5 hb5 hB4 k4 hrow hup
        have hTl : (st7.tabs.map ttOf).length = st7.tabs.length := List.length_map _
        have hx8 := hx7'.below hb8
        have hB8 : Below w0.heap.size w0 w8 := hB7.trans (hb8.mono hB7.size)
        have hMn := xMerge_no bx bz d7 st7 U7 M6 n6 (c6 + 1) none 0 [] w8 hx8 hl7 (by omega) (fun i hi => by simp at hi) (.inl rfl)
        simp only [List.length_nil] at hMn
        obtain ⟨tl, htl⟩ : ∃ tl, st7.tabs.length = tl := ⟨_, rfl⟩
        (try simp only [hTl]); rw [htl]
        refine hMn.mono ?_
        rintro e w9 ⟨rfl, hb9⟩
        clear hMn
        by_cases h0 : tl = 0
        · have hM : M6 = [] := hM0 (List.length_eq_zero_iff.1 (by omega))
          subst hM
          subst h0
          go_wp2
          go_ret
          exact ⟨rfl, hB8.trans (hb9.mono hB8.size)⟩
        · have hne0 : ¬ ((tl : Int) = 0) := by omega
          have hK1 := kpick_any fr tl w9 hf0 hf1 (by omega) (by omega)
          have hK2 := fun (A : Nat) (h : A < tl) => kpick_any to ((tl : Int) - (A : Int)) w9 ht0 ht1 (by omega) (by omega)
          clear hM0
          go_wp2_with (first
            | (go_at_call 7; refine hK1.mono ?_; rintro e w10 ⟨pa, rfl, pa0, pa1, rfl⟩; clear hK1; obtain ⟨A, rfl⟩ := Int.eq_ofNat_of_zero_le pa0; have hK2' := hK2 A (by omega); clear hK2)
            | (go_at_call 7; refine hK2'.mono ?_; rintro e w11 ⟨pb, rfl, pb0, pb1, rfl⟩; clear hK2'; obtain ⟨P, rfl⟩ := Int.eq_ofNat_of_zero_le pb0))
          have hAt : A < tl := by omega
          obtain ⟨B, hBd⟩ : ∃ B, A + 1 + P = B := ⟨_, rfl⟩
          have hBl : B ≤ tl := by omega
          have hAB : A < B := by omega
          have hBi : (A : Int) + 1 + (P : Int) = (B : Int) := by omega
          simp only [hBi]
          clear hBi pa0 pa1 pb0 pb1
          have hsum : ∀ j, j ≤ B → sumTT (((st7.tabs.map ttOf).drop j).take (B - j)) = entsT ((st7.tabs.drop j).take (B - j)) ∧ entsT ((st7.tabs.drop j).take (B - j)) ≤ 110 := fun j hj => by
            refine ⟨by simp [sumTT, entsT, ← List.map_drop, ← List.map_take, ttOf, Function.comp_def], ?_⟩
            have := entsT_split st7.tabs j B hj
            omega
          have hB11 : Below w0.heap.size w0 w11 := hB8.trans (hb9.mono hB8.size)
          go_loopw [27, 28, 29] (fun v en i wr' => ∃ j : Nat, A ≤ j ∧ j ≤ B ∧ i = .int .i64 ((j : Int) - 1) ∧ en = .int .i64 ((sumTT (((st7.tabs.map ttOf).drop j).take (B - j)) : Nat) : Int) ∧ OwnN wr' w11.heap.size v ((((st7.tabs.map (·.number)).drop j).take (B - j)).reverse) ∧ Below w11.heap.size w11 wr') (fun _ _ i _ => (intOf i + 1).toNat)
          case atStart => exact ⟨B, by omega, Nat.le_refl _, rfl, by simp [sumTT], by rw [Nat.sub_self, List.take_zero]; exact World.ownsRow_nil _ _ _ _, Below.refl _ _⟩
          case round =>
            obtain ⟨j, hj1, hj2, rfl, rfl, hown, hbr⟩ := hrel
            have hB8r : Below w8.heap.size w8 wr := hb9.trans (hbr.mono hb9.size)
            have hlk : ((((st7.tabs.map (·.number)).drop j).take (B - j)).reverse).length = B - j := by simp; omega
            by_cases hjA : A < j
            · obtain ⟨k2, rfl⟩ : ∃ k2, j = k2 + 1 := ⟨j - 1, by omega⟩
              have hk2 : k2 < st7.tabs.length := by omega
              obtain ⟨g8, off8, hq8, e0', _, e2'⟩ := tt_cells (hr8.below hb9) k2 (by simpa using hk2)
              subst hq8
              simp only [List.getElem_map, ttOf] at e0' e2'
              have e0 := cell_below hbr e0'
              have HT : Hid ((((st7.tabs.map (·.number)).drop k2).take (B - k2)).reverse = (((st7.tabs.map (·.number)).drop (k2 + 1)).take (B - (k2 + 1))).reverse ++ [st7.tabs[k2].number]) := by
                show _ = _
                rw [drop_take_cons (st7.tabs.map (·.number)) (k := k2) (b := B) (by omega) (by simp; omega), List.reverse_cons]
                simp
              have HE : Hid (sumTT (((st7.tabs.map ttOf).drop k2).take (B - k2)) = sumTT (((st7.tabs.map ttOf).drop (k2 + 1)).take (B - (k2 + 1))) + st7.tabs[k2].es.length) := by
                show _ = _
                rw [drop_take_cons (st7.tabs.map ttOf) (k := k2) (b := B) (by omega) (by simp; omega)]
                simp [sumTT, ttOf]
                omega
              have hs1 := hsum (k2 + 1) hj2
              have hs2 := hsum k2 (by omega)
              have HE' := HE.out
              have hsr := hbr.size
              obtain ⟨va, vc, hv0, _⟩ := hown.inp
              rw [hlk] at hv0
              subst hv0
              rw [show (((k2 + 1 : Nat) : Int) - 1) = (k2 : Int) by omega]
              have hge : (A : Int) ≤ (k2 : Int) := by omega
              have hkt : (k2 : Int) < (tl : Int) := by omega
              obtain ⟨SE, hSE⟩ : ∃ SE, sumTT (((st7.tabs.map ttOf).drop (k2 + 1)).take (B - (k2 + 1))) = SE := ⟨_, rfl⟩
              rw [hSE] at HE HE' hs1 ⊢
              have hSb : SE + st7.tabs[k2].es.length ≤ 110 := by omega
              clear HE' hs1 hs2 hSE
              generalize st7.tabs[k2].number = x at *
              generalize st7.tabs[k2].es.length = en at *
              generalize (((st7.tabs.map (·.number)).drop (k2 + 1)).take (B - (k2 + 1))).reverse = L at *
              go_wp2_with (first
                | (at_builtin; refine wpList_append_own _ rfl (.tmp 150) (.tmp 156) 58 rfl w11.heap.size 3 i0 _ 1 8 Tryz.underlying58 hi0 hz0 hz1 hz2 rfl (by decide) _ L.length (L.map encN) rfl (World.ownsRow.alloc hown _) ⟨wr.heap.size, 0, none⟩ 1 1 [encN x] rfl rfl ?_ (by simp [Value.oneCell']) (by unfold maxLen; omega) (by omega) (by simp; omega) ?_; rotate_left; intro v' w2 hown' hgrow _; have e2 := cell_below ((hbr.alloc hsr _).grown hgrow (by simp; omega) (fun k hk => (World.ownsRow.lt hown k hk).1)) e2')
                | go_in)
              · go_roundw
                case rel => exact ⟨k2, by omega, by omega, by go_num, by rw [HE.out]; go_num, by rw [HT.out]; unfold OwnN; rw [List.length_append, List.map_append]; exact hown', (hbr.alloc hsr _).grown hgrow (by simp; omega) (fun k hk => (World.ownsRow.lt hown k hk).1)⟩
                case measure => simp [intOf]
              · intro j u hu
                rw [Addr.add_lit, Nat.zero_add]
                rw [cell_block (block_new wr (.cells #[encN x] 3))]
                simpa using hu
            · obtain rfl : j = A := by omega
              have hA' : j < st7.tabs.length := by omega
              obtain ⟨g8, off8, hq8, f0, f1, _⟩ := tt_cells (hr8.below hB8r) j (by simpa using hA')
              have hZ0 : 0 < st7.tabs.length := by omega
              obtain ⟨g80, off80, hq80, f00, _, _⟩ := tt_cells (hr8.below hB8r) 0 (by simpa using hZ0)
              obtain ⟨tm, htm⟩ : ∃ tm, tl = tm + 1 := ⟨tl - 1, by omega⟩
              have hZm : tm < st7.tabs.length := by omega
              obtain ⟨g8m, off8m, hq8m, f0m, _, _⟩ := tt_cells (hr8.below hB8r) tm (by simpa using hZm)
              subst hq8
              cases hq80
              cases hq8m
              simp only [List.getElem_map, ttOf, Nat.zero_mul, Nat.add_zero] at f0 f1 f00 f0m
              have htmi : (tl : Int) - 1 = (tm : Int) := by omega
              have hgA : ¬ ((j : Int) ≤ (j : Int) - 1) := by omega
              have hx9 := hx8.below hB8r
              have hnum := hl7.num.2.2
              have hgd : ∀ i (hi : i < st7.tabs.length), (st7.tabs.map (·.number)).getD i 0 = st7.tabs[i].number := fun i hi => by simp [List.getD_eq_getElem?_getD, hi]
              have hNp : ∀ i i' (hi : i < st7.tabs.length) (hi' : i' < st7.tabs.length), i ≤ i' → i' ≠ i + 1 → NoP st7 [st7.tabs[i].number, st7.tabs[i'].number] := fun i i' hi hi' h1 h2 => by
                by_cases h3 : 2 ≤ st7.tabs.length
                · refine .inr (.inr ⟨⟨by simp, by simpa using h3⟩, ?_⟩)
                  have := span_two hnum hi hi' h1 h2
                  rw [hgd i hi, hgd i' hi'] at this
                  exact this
                · exact .inr (.inl ⟨by simp, by simp; omega⟩)
              have hM2 := fun (W : World) (h : Below wr.heap.size wr W) => xMerge_no bx bz d7 st7 U7 M6 n6 (c6 + 1) (some ⟨W.heap.size, 0, none⟩) 2 [st7.tabs[j].number, st7.tabs[j].number] (W.alloc (.cells #[.int .i64 (st7.tabs[j].number : Nat), .int .i64 (st7.tabs[j].number : Nat)] 3)) ((hx9.below h).below ((Below.refl _ W).alloc (Nat.le_refl _) _)) hl7 (by omega) (inp_two (block_new W _)) (hNp j j hA' hA' (Nat.le_refl _) (by omega))
              have hM3 := fun (W : World) (h : Below wr.heap.size wr W) (h2 : 2 < tl) => xMerge_no bx bz d7 st7 U7 M6 n6 (c6 + 1) (some ⟨W.heap.size, 0, none⟩) 2 [st7.tabs[0].number, st7.tabs[tm].number] (W.alloc (.cells #[.int .i64 (st7.tabs[0].number : Nat), .int .i64 (st7.tabs[tm].number : Nat)] 3)) ((hx9.below h).below ((Below.refl _ W).alloc (Nat.le_refl _) _)) hl7 (by omega) (inp_two (block_new W _)) (hNp 0 tm hZ0 hZm (by omega) (by omega))
              simp only [List.length_cons, List.length_nil, Nat.zero_add, Nat.reduceAdd] at hM2 hM3
              obtain ⟨qv, cv, hv0, hin⟩ := hown.inp
              obtain ⟨ns, hns⟩ : ∃ ns, (((st7.tabs.map (·.number)).drop j).take (B - j)).reverse = ns := ⟨_, rfl⟩
              have hperm : ns.Perm (((st7.tabs.map (·.number)).drop j).take (B - j)) := by rw [← hns]; exact List.reverse_perm _
              rw [hns] at hv0 hin hlk
              rw [hlk] at hv0
              subst hv0
              have hMr := fun (W : World) (h : Below wr.heap.size wr W) => xMerge_lg bx bz d7 st7 U7 M6 n6 (c6 + 1) j B qv cv ns W (hx9.below h) hl7 (by omega) (by omega) hAB (by omega) hperm (hin.below h)
              rw [hlk] at hMr
              have hse := hsum j (by omega)
              have hmlen := mergeT_len st7.kept st7.tabs j B
              have hlvA : (st7.tabs.map (·.level)).getD j 0 = st7.tabs[j].level := by simp [List.getD_eq_getElem?_getD, hA']
              obtain ⟨SE, hSE⟩ : ∃ SE, sumTT (((st7.tabs.map ttOf).drop j).take (B - j)) = SE := ⟨_, rfl⟩
              rw [hSE] at hse ⊢
              have hSb : (mergeT st7.kept st7.tabs j B).length ≤ SE ∧ SE ≤ 110 := by omega
              have hlvb : st7.tabs[j].level ≤ 110 := by have := hl7.lev _ (List.getElem_mem hA'); omega
              have hBr : Below w0.heap.size w0 wr := hB11.trans (hbr.mono hB11.size)
              have hrlr := (hrl7.below hb8).below hB8r
              have hrmr := (hrm7.below hb8).below hB8r
              rw [hlvA] at hMr
              have hjt : (j : Int) < (tl : Int) := by omega
              have h0t : 0 < tl := by omega
              have htt : (tm : Int) < (tl : Int) := by omega
              have hwr : IntKind.i64.wrap (tm : Int) = (tm : Int) := IntWalk.i64_in _ (by omega)
              clear hse hsum hSE hmlen hlvA hown hperm hns hNp hgd hnum hin hr8 hrl7 hrm7 hx8 hx7' htm
              generalize mergeT st7.kept st7.tabs j B = ME at *
              generalize st7.tabs[j].number = xA at *
              generalize st7.tabs[0].number = x0 at *
              generalize st7.tabs[tm].number = xm at *
              generalize st7.tabs[j].level = lvA at *
              by_cases h2 : 2 < tl
              · have h2' : (2 : Int) < (tl : Int) := by omega
                have hd1 : Below wr.heap.size wr wr.drew := (Below.refl _ wr).drew
                have dk := fun w' (h : Below wr.heap.size wr w') => cell_below h f0
                go_wp2
                refine wp_calm ?_
                refine wp_region_E (S := fun w' => Below wr.heap.size wr w') mixedP ?_
                refine wpAnyE_take (i := 0) (L := 12) (v := .pointer (some ⟨bz, 0, none⟩)) rfl rfl (by decide) (by kernel_rfl) (by kernel_rfl) (by kernel_rfl) (by kernel_rfl) (by kernel_rfl) (fun _ _ _ h => h) (Or.inl ⟨by rfl, fun w' hS => ?_⟩) hd1 ?_
                · skip
                  go_simp
                refine wpAnyE_take (i := 1) (L := 3) (v := .slice (some ⟨g8, off8, none⟩) tl c8) rfl rfl (by decide) (by kernel_rfl) (by kernel_rfl) (by kernel_rfl) (by kernel_rfl) (by kernel_rfl) (fun _ _ _ h => h) (Or.inl ⟨by rfl, fun w' hS => ?_⟩) hd1 ?_
                · skip
                  go_simp
                refine wpAnyE_take (i := 2) (L := 3) (v := .int .i64 (j : Int)) rfl rfl (by decide) (by kernel_rfl) (by kernel_rfl) (by kernel_rfl) (by kernel_rfl) (by kernel_rfl) (fun _ _ _ h => h) (Or.inl ⟨by rfl, fun w' hS => ?_⟩) hd1 ?_
                · skip
                  go_simp
                refine wpAnyE_take (i := 3) (L := 4) (v := .pointer (some ⟨g8, off8 + j * 3, none⟩)) rfl rfl (by decide) (by kernel_rfl) (by kernel_rfl) (by kernel_rfl) (by kernel_rfl) (by kernel_rfl) (fun _ _ _ h => h) (Or.inl ⟨by rfl, fun w' hS => ?_⟩) hd1 ?_
                · skip
                  go_simp
                refine wpAnyE_take (i := 4) (L := 5) (v := .pointer (some ⟨g8, off8 + j * 3, none⟩)) rfl rfl (by decide) (by kernel_rfl) (by kernel_rfl) (by kernel_rfl) (by kernel_rfl) (by kernel_rfl) (fun _ _ _ h => h) (Or.inl ⟨by rfl, fun w' hS => ?_⟩) hd1 ?_
                · skip
                  go_simp
                refine wpAnyE_take (i := 5) (L := 11) (v := .int .i64 (xA : Int)) rfl rfl (by decide) (by kernel_rfl) (by kernel_rfl) (by kernel_rfl) (by kernel_rfl) (by kernel_rfl) (fun _ _ _ h => h) (Or.inl ⟨by rfl, fun w' hS => ?_⟩) hd1 ?_
                · have := dk w' hS
                  go_simp
                refine wpAnyE_take (i := 6) (L := 8) (v := .slice (some ⟨g8, off8, none⟩) tl c8) rfl rfl (by decide) (by kernel_rfl) (by kernel_rfl) (by kernel_rfl) (by kernel_rfl) (by kernel_rfl) (fun _ _ _ h => h) (Or.inl ⟨by rfl, fun w' hS => ?_⟩) hd1 ?_
                · skip
                  go_simp
                refine wpAnyE_take (i := 7) (L := 8) (v := .int .i64 (j : Int)) rfl rfl (by decide) (by kernel_rfl) (by kernel_rfl) (by kernel_rfl) (by kernel_rfl) (by kernel_rfl) (fun _ _ _ h => h) (Or.inl ⟨by rfl, fun w' hS => ?_⟩) hd1 ?_
                · skip
                  go_simp
                refine wpAnyE_take (i := 8) (L := 9) (v := .pointer (some ⟨g8, off8 + j * 3, none⟩)) rfl rfl (by decide) (by kernel_rfl) (by kernel_rfl) (by kernel_rfl) (by kernel_rfl) (by kernel_rfl) (fun _ _ _ h => h) (Or.inl ⟨by rfl, fun w' hS => ?_⟩) hd1 ?_
                · skip
                  go_simp
                refine wpAnyE_take (i := 9) (L := 10) (v := .pointer (some ⟨g8, off8 + j * 3, none⟩)) rfl rfl (by decide) (by kernel_rfl) (by kernel_rfl) (by kernel_rfl) (by kernel_rfl) (by kernel_rfl) (fun _ _ _ h => h) (Or.inl ⟨by rfl, fun w' hS => ?_⟩) hd1 ?_
                · skip
                  go_simp
                refine wpAnyE_take (i := 10) (L := 11) (v := .int .i64 (xA : Int)) rfl rfl (by decide) (by kernel_rfl) (by kernel_rfl) (by kernel_rfl) (by kernel_rfl) (by kernel_rfl) (fun _ _ _ h => h) (Or.inl ⟨by rfl, fun w' hS => ?_⟩) hd1 ?_
                · have := dk w' hS
                  go_simp
                refine wpAnyE_one (i := 11) (by kernel_rfl) rfl (by rfl) (fun K hK => ?_)
                go_simp
                refine hK.out _ _ (hd1.alloc hd1.size _) ?_
                clear hK
                refine wpAnyE_one (i := 12) (by kernel_rfl) rfl (by rfl) (fun K hK => ?_)
                go_simp
                refine (hM2 wr.drew hd1).mono ?_
                rintro e w12 ⟨rfl, hb12⟩
                have hB12 : Below wr.heap.size wr w12 := (hd1.alloc hd1.size _).trans (hb12.mono (Nat.le_trans hd1.size (by simp)))
                refine hK.out _ _ hB12 ?_
                clear hK
                refine wpAnyE_last (i := 13) (by kernel_rfl) rfl (by rfl) (by kernel_rfl) (by kernel_rfl) (fun K hK => ?_)
                go_simp
                refine hK.out _ _ ?_
                clear hK hM2 dk
                have dk0 := fun w' (h : Below wr.heap.size wr w') => cell_below h f00
                have dkm := fun w' (h : Below wr.heap.size wr w') => cell_below h f0m
                have hd2 : Below wr.heap.size wr w12.drew := hB12.trans (((Below.refl _ w12).drew).mono hB12.size)
                go_wp2
                refine wp_calm ?_
                refine wp_region_E (S := fun w' => Below wr.heap.size wr w') mixedP ?_
                refine wpAnyE_take (i := 0) (L := 12) (v := .pointer (some ⟨bz, 0, none⟩)) rfl rfl (by decide) (by kernel_rfl) (by kernel_rfl) (by kernel_rfl) (by kernel_rfl) (by kernel_rfl) (fun _ _ _ h => h) (Or.inl ⟨by rfl, fun w' hS => ?_⟩) hd2 ?_
                · skip
                  go_simp
                refine wpAnyE_take (i := 1) (L := 2) (v := .slice (some ⟨g8, off8, none⟩) tl c8) rfl rfl (by decide) (by kernel_rfl) (by kernel_rfl) (by kernel_rfl) (by kernel_rfl) (by kernel_rfl) (fun _ _ _ h => h) (Or.inl ⟨by rfl, fun w' hS => ?_⟩) hd2 ?_
                · skip
                  go_simp
                refine wpAnyE_take (i := 2) (L := 3) (v := .pointer (some ⟨g8, off8, none⟩)) rfl rfl (by decide) (by kernel_rfl) (by kernel_rfl) (by kernel_rfl) (by kernel_rfl) (by kernel_rfl) (fun _ _ _ h => h) (Or.inl ⟨by rfl, fun w' hS => ?_⟩) hd2 ?_
                · skip
                  go_simp
                refine wpAnyE_take (i := 3) (L := 4) (v := .pointer (some ⟨g8, off8, none⟩)) rfl rfl (by decide) (by kernel_rfl) (by kernel_rfl) (by kernel_rfl) (by kernel_rfl) (by kernel_rfl) (fun _ _ _ h => h) (Or.inl ⟨by rfl, fun w' hS => ?_⟩) hd2 ?_
                · skip
                  go_simp
                refine wpAnyE_take (i := 4) (L := 11) (v := .int .i64 (x0 : Int)) rfl rfl (by decide) (by kernel_rfl) (by kernel_rfl) (by kernel_rfl) (by kernel_rfl) (by kernel_rfl) (fun _ _ _ h => h) (Or.inl ⟨by rfl, fun w' hS => ?_⟩) hd2 ?_
                · have := dk0 w' hS
                  go_simp
                refine wpAnyE_take (i := 5) (L := 8) (v := .slice (some ⟨g8, off8, none⟩) tl c8) rfl rfl (by decide) (by kernel_rfl) (by kernel_rfl) (by kernel_rfl) (by kernel_rfl) (by kernel_rfl) (fun _ _ _ h => h) (Or.inl ⟨by rfl, fun w' hS => ?_⟩) hd2 ?_
                · skip
                  go_simp
                refine wpAnyE_take (i := 6) (L := 7) (v := .int .i64 (tl : Int)) rfl rfl (by decide) (by kernel_rfl) (by kernel_rfl) (by kernel_rfl) (by kernel_rfl) (by kernel_rfl) (fun _ _ _ h => h) (Or.inl ⟨by rfl, fun w' hS => ?_⟩) hd2 ?_
                · skip
                  go_simp
                refine wpAnyE_take (i := 7) (L := 8) (v := .int .i64 (tm : Int)) rfl rfl (by decide) (by kernel_rfl) (by kernel_rfl) (by kernel_rfl) (by kernel_rfl) (by kernel_rfl) (fun _ _ _ h => h) (Or.inl ⟨by rfl, fun w' hS => ?_⟩) hd2 ?_
                · skip
                  go_simp
                refine wpAnyE_take (i := 8) (L := 9) (v := .pointer (some ⟨g8, off8 + tm * 3, none⟩)) rfl rfl (by decide) (by kernel_rfl) (by kernel_rfl) (by kernel_rfl) (by kernel_rfl) (by kernel_rfl) (fun _ _ _ h => h) (Or.inl ⟨by rfl, fun w' hS => ?_⟩) hd2 ?_
                · skip
                  go_simp
                refine wpAnyE_take (i := 9) (L := 10) (v := .pointer (some ⟨g8, off8 + tm * 3, none⟩)) rfl rfl (by decide) (by kernel_rfl) (by kernel_rfl) (by kernel_rfl) (by kernel_rfl) (by kernel_rfl) (fun _ _ _ h => h) (Or.inl ⟨by rfl, fun w' hS => ?_⟩) hd2 ?_
                · skip
                  go_simp
                refine wpAnyE_take (i := 10) (L := 11) (v := .int .i64 (xm : Int)) rfl rfl (by decide) (by kernel_rfl) (by kernel_rfl) (by kernel_rfl) (by kernel_rfl) (by kernel_rfl) (fun _ _ _ h => h) (Or.inl ⟨by rfl, fun w' hS => ?_⟩) hd2 ?_
                · have := dkm w' hS
                  go_simp
                refine wpAnyE_one (i := 11) (by kernel_rfl) rfl (by rfl) (fun K hK => ?_)
                go_simp
                refine hK.out _ _ (hd2.alloc hd2.size _) ?_
                clear hK
                refine wpAnyE_one (i := 12) (by kernel_rfl) rfl (by rfl) (fun K hK => ?_)
                go_simp
                refine (hM3 w12.drew hd2 h2).mono ?_
                rintro e w13 ⟨rfl, hb13⟩
                have hB13 : Below wr.heap.size wr w13 := (hd2.alloc hd2.size _).trans (hb13.mono (Nat.le_trans hd2.size (by simp)))
                refine hK.out _ _ hB13 ?_
                clear hK
                refine wpAnyE_last (i := 13) (by kernel_rfl) rfl (by rfl) (by kernel_rfl) (by kernel_rfl) (fun K hK => ?_)
                go_simp
                refine hK.out _ _ ?_
                clear hK hM3 dk0 dkm
                have hMr' := hMr w13 hB13
                clear hMr
                go_wp2_with (go_at_call 7; fail)
                refine hMr'.mono ?_
                rintro e w14 ⟨rfl, ⟨d14, st14, hx14, hl14, hts⟩, k14⟩
                clear hMr'
                have hTb2 := xTables_lg bx bz d14 st14 (Nw U7 w13) M6 n6 (c6 + 1 + 1) w14 hx14 hl14 (by omega)
                have hmt := merged_tt (ts := st7.tabs) (us := st14.tabs) hAB (by omega) hts
                simp only at hmt
                clear hts
                go_wp2_with (go_at_call 7; fail)
                refine hTb2.mono ?_
                rintro e w15 ⟨v15, rfl, ho15, hb15⟩
                obtain ⟨q15, c15, rfl, _, hr15, _, _⟩ := ho15.rp ttC_len
                clear hTb2 ho15
                have hB14 : Below w0.heap.size w0 w14 := below_kp2 (hBr.trans (hB13.mono hBr.size)) k14 hU7
                have hB15 : Below w0.heap.size w0 w15 := hB14.trans (hb15.mono hB14.size)
                have hrm15 := ((hrmr.below hB13).kept k14).below hb15
                obtain ⟨ql', cl', hvl', hpl', _⟩ := ((hrlr.below hB13).kept k14).below hb15
                obtain ⟨rfl, -, rfl⟩ := Value.slice.inj hvl'
                clear hvl'
                have hLg15 : Lg w15 (Nw U7 w13) bx bz M6 n6 (c6 + 1 + 1) ⟨1, [(1, b1, M)]⟩ := ⟨d14, st14, hx14.below hb15, hl14⟩
                have hSc := xScanAt_lg bx bz _ M6 n6 _ 1 (1, b1, M) [] 1099511627776 w15 hLg15 (by omega) (by unfold I64; omega) rfl (by omega) (by omega)
                simp only at hSc
                rw [fromL_nil, List.take_of_length_le (by show _ ≤ 1099511627776; omega)] at hSc
                have hUl : (st14.tabs.map ttOf).length = st14.tabs.length := List.length_map _
                rw [hUl]
                rcases hmt with hU1 | ⟨hU1, hfu, hlv, hes⟩
                · obtain ⟨UL, hULd⟩ : ∃ UL, st14.tabs.length = UL := ⟨_, rfl⟩
                  rw [hULd]
                  have hmore : (UL : Int) - ((tl : Int) - ((B : Int) - (j : Int))) = 0 := by omega
                  clear hULd hU1 hUl hr15
                  go_wp2_with (first
                    | (go_at_call 22; refine hSc.mono ?_; rintro e w16 ⟨v16, rfl, hb16, ho16⟩; obtain ⟨q16, c16, rfl, hp16, _⟩ := ho16.pairp; clear hSc; have hks := ksame_any q16 ql c16 cl M M w16 hp16 (hpl'.below hb16) (by omega) (by omega))
                    | (go_at_call 23; refine hks.mono ?_; rintro e w17 ⟨he, n17, rfl⟩; have he' : e = .returned (.bool true) := (by rw [he]; simp); clear he; subst he'; have hB17 : Below w15.heap.size w15 (w16.drewN n17) := below_drewN hb16 n17; have hHo := holds_lg bx bz _ U7 M6 n6 _ _ (w16.drewN n17) (hLg15.below hB17) (by omega) (hrm15.below hB17); clear hks)
                    | (go_at_call 15; refine hHo.mono ?_; rintro e w18 ⟨rfl, hb18⟩; clear hHo))
                  go_ret
                  exact ⟨rfl, hB15.trans ((hB17.trans (hb18.mono hB17.size)).mono hB15.size)⟩
                · obtain ⟨gu, offu, hqu, _, u1, u2⟩ := tt_cells hr15 j (by simpa using hfu)
                  subst hqu
                  simp only [List.getElem_map, ttOf] at u1 u2
                  rw [hlv] at u1
                  rw [hes] at u2
                  obtain ⟨UL, hULd⟩ : ∃ UL, st14.tabs.length = UL := ⟨_, rfl⟩
                  rw [hULd]
                  have hmore : (UL : Int) - ((tl : Int) - ((B : Int) - (j : Int))) = 1 := by omega
                  have hjU : (j : Int) < (UL : Int) := by omega
                  have hle : ¬ ((SE : Int) < (ME.length : Int)) := by omega
                  clear hULd hU1 hUl hr15 hlv hes
                  go_wp2_with (first
                    | (go_at_call 22; refine hSc.mono ?_; rintro e w16 ⟨v16, rfl, hb16, ho16⟩; obtain ⟨q16, c16, rfl, hp16, _⟩ := ho16.pairp; clear hSc; have hks := ksame_any q16 ql c16 cl M M w16 hp16 (hpl'.below hb16) (by omega) (by omega))
                    | (go_at_call 23; refine hks.mono ?_; rintro e w17 ⟨he, n17, rfl⟩; have he' : e = .returned (.bool true) := (by rw [he]; simp); clear he; subst he'; have hB17 : Below w15.heap.size w15 (w16.drewN n17) := below_drewN hb16 n17; have hHo := holds_lg bx bz _ U7 M6 n6 _ _ (w16.drewN n17) (hLg15.below hB17) (by omega) (hrm15.below hB17); clear hks)
                    | (go_at_call 15; refine hHo.mono ?_; rintro e w18 ⟨rfl, hb18⟩; clear hHo))
                  go_ret
                  exact ⟨rfl, hB15.trans ((hB17.trans (hb18.mono hB17.size)).mono hB15.size)⟩
              · have h2' : ¬ (2 : Int) < (tl : Int) := by omega
                have hd1 : Below wr.heap.size wr wr.drew := (Below.refl _ wr).drew
                have dk := fun w' (h : Below wr.heap.size wr w') => cell_below h f0
                go_wp2
                refine wp_calm ?_
                refine wp_region_E (S := fun w' => Below wr.heap.size wr w') mixedP ?_
                refine wpAnyE_take (i := 0) (L := 12) (v := .pointer (some ⟨bz, 0, none⟩)) rfl rfl (by decide) (by kernel_rfl) (by kernel_rfl) (by kernel_rfl) (by kernel_rfl) (by kernel_rfl) (fun _ _ _ h => h) (Or.inl ⟨by rfl, fun w' hS => ?_⟩) hd1 ?_
                · skip
                  go_simp
                refine wpAnyE_take (i := 1) (L := 3) (v := .slice (some ⟨g8, off8, none⟩) tl c8) rfl rfl (by decide) (by kernel_rfl) (by kernel_rfl) (by kernel_rfl) (by kernel_rfl) (by kernel_rfl) (fun _ _ _ h => h) (Or.inl ⟨by rfl, fun w' hS => ?_⟩) hd1 ?_
                · skip
                  go_simp
                refine wpAnyE_take (i := 2) (L := 3) (v := .int .i64 (j : Int)) rfl rfl (by decide) (by kernel_rfl) (by kernel_rfl) (by kernel_rfl) (by kernel_rfl) (by kernel_rfl) (fun _ _ _ h => h) (Or.inl ⟨by rfl, fun w' hS => ?_⟩) hd1 ?_
                · skip
                  go_simp
                refine wpAnyE_take (i := 3) (L := 4) (v := .pointer (some ⟨g8, off8 + j * 3, none⟩)) rfl rfl (by decide) (by kernel_rfl) (by kernel_rfl) (by kernel_rfl) (by kernel_rfl) (by kernel_rfl) (fun _ _ _ h => h) (Or.inl ⟨by rfl, fun w' hS => ?_⟩) hd1 ?_
                · skip
                  go_simp
                refine wpAnyE_take (i := 4) (L := 5) (v := .pointer (some ⟨g8, off8 + j * 3, none⟩)) rfl rfl (by decide) (by kernel_rfl) (by kernel_rfl) (by kernel_rfl) (by kernel_rfl) (by kernel_rfl) (fun _ _ _ h => h) (Or.inl ⟨by rfl, fun w' hS => ?_⟩) hd1 ?_
                · skip
                  go_simp
                refine wpAnyE_take (i := 5) (L := 11) (v := .int .i64 (xA : Int)) rfl rfl (by decide) (by kernel_rfl) (by kernel_rfl) (by kernel_rfl) (by kernel_rfl) (by kernel_rfl) (fun _ _ _ h => h) (Or.inl ⟨by rfl, fun w' hS => ?_⟩) hd1 ?_
                · have := dk w' hS
                  go_simp
                refine wpAnyE_take (i := 6) (L := 8) (v := .slice (some ⟨g8, off8, none⟩) tl c8) rfl rfl (by decide) (by kernel_rfl) (by kernel_rfl) (by kernel_rfl) (by kernel_rfl) (by kernel_rfl) (fun _ _ _ h => h) (Or.inl ⟨by rfl, fun w' hS => ?_⟩) hd1 ?_
                · skip
                  go_simp
                refine wpAnyE_take (i := 7) (L := 8) (v := .int .i64 (j : Int)) rfl rfl (by decide) (by kernel_rfl) (by kernel_rfl) (by kernel_rfl) (by kernel_rfl) (by kernel_rfl) (fun _ _ _ h => h) (Or.inl ⟨by rfl, fun w' hS => ?_⟩) hd1 ?_
                · skip
                  go_simp
                refine wpAnyE_take (i := 8) (L := 9) (v := .pointer (some ⟨g8, off8 + j * 3, none⟩)) rfl rfl (by decide) (by kernel_rfl) (by kernel_rfl) (by kernel_rfl) (by kernel_rfl) (by kernel_rfl) (fun _ _ _ h => h) (Or.inl ⟨by rfl, fun w' hS => ?_⟩) hd1 ?_
                · skip
                  go_simp
                refine wpAnyE_take (i := 9) (L := 10) (v := .pointer (some ⟨g8, off8 + j * 3, none⟩)) rfl rfl (by decide) (by kernel_rfl) (by kernel_rfl) (by kernel_rfl) (by kernel_rfl) (by kernel_rfl) (fun _ _ _ h => h) (Or.inl ⟨by rfl, fun w' hS => ?_⟩) hd1 ?_
                · skip
                  go_simp
                refine wpAnyE_take (i := 10) (L := 11) (v := .int .i64 (xA : Int)) rfl rfl (by decide) (by kernel_rfl) (by kernel_rfl) (by kernel_rfl) (by kernel_rfl) (by kernel_rfl) (fun _ _ _ h => h) (Or.inl ⟨by rfl, fun w' hS => ?_⟩) hd1 ?_
                · have := dk w' hS
                  go_simp
                refine wpAnyE_one (i := 11) (by kernel_rfl) rfl (by rfl) (fun K hK => ?_)
                go_simp
                refine hK.out _ _ (hd1.alloc hd1.size _) ?_
                clear hK
                refine wpAnyE_one (i := 12) (by kernel_rfl) rfl (by rfl) (fun K hK => ?_)
                go_simp
                refine (hM2 wr.drew hd1).mono ?_
                rintro e w13 ⟨rfl, hb13⟩
                have hB13 : Below wr.heap.size wr w13 := (hd1.alloc hd1.size _).trans (hb13.mono (Nat.le_trans hd1.size (by simp)))
                refine hK.out _ _ hB13 ?_
                clear hK
                refine wpAnyE_last (i := 13) (by kernel_rfl) rfl (by rfl) (by kernel_rfl) (by kernel_rfl) (fun K hK => ?_)
                go_simp
                refine hK.out _ _ ?_
                clear hK hM2 hM3 dk
                have hMr' := hMr w13 hB13
                clear hMr
                go_wp2_with (go_at_call 7; fail)
                refine hMr'.mono ?_
                rintro e w14 ⟨rfl, ⟨d14, st14, hx14, hl14, hts⟩, k14⟩
                clear hMr'
                have hTb2 := xTables_lg bx bz d14 st14 (Nw U7 w13) M6 n6 (c6 + 1 + 1) w14 hx14 hl14 (by omega)
                have hmt := merged_tt (ts := st7.tabs) (us := st14.tabs) hAB (by omega) hts
                simp only at hmt
                clear hts
                go_wp2_with (go_at_call 7; fail)
                refine hTb2.mono ?_
                rintro e w15 ⟨v15, rfl, ho15, hb15⟩
                obtain ⟨q15, c15, rfl, _, hr15, _, _⟩ := ho15.rp ttC_len
                clear hTb2 ho15
                have hB14 : Below w0.heap.size w0 w14 := below_kp2 (hBr.trans (hB13.mono hBr.size)) k14 hU7
                have hB15 : Below w0.heap.size w0 w15 := hB14.trans (hb15.mono hB14.size)
                have hrm15 := ((hrmr.below hB13).kept k14).below hb15
                obtain ⟨ql', cl', hvl', hpl', _⟩ := ((hrlr.below hB13).kept k14).below hb15
                obtain ⟨rfl, -, rfl⟩ := Value.slice.inj hvl'
                clear hvl'
                have hLg15 : Lg w15 (Nw U7 w13) bx bz M6 n6 (c6 + 1 + 1) ⟨1, [(1, b1, M)]⟩ := ⟨d14, st14, hx14.below hb15, hl14⟩
                have hSc := xScanAt_lg bx bz _ M6 n6 _ 1 (1, b1, M) [] 1099511627776 w15 hLg15 (by omega) (by unfold I64; omega) rfl (by omega) (by omega)
                simp only at hSc
                rw [fromL_nil, List.take_of_length_le (by show _ ≤ 1099511627776; omega)] at hSc
                have hUl : (st14.tabs.map ttOf).length = st14.tabs.length := List.length_map _
                rw [hUl]
                rcases hmt with hU1 | ⟨hU1, hfu, hlv, hes⟩
                · obtain ⟨UL, hULd⟩ : ∃ UL, st14.tabs.length = UL := ⟨_, rfl⟩
                  rw [hULd]
                  have hmore : (UL : Int) - ((tl : Int) - ((B : Int) - (j : Int))) = 0 := by omega
                  clear hULd hU1 hUl hr15
                  go_wp2_with (first
                    | (go_at_call 22; refine hSc.mono ?_; rintro e w16 ⟨v16, rfl, hb16, ho16⟩; obtain ⟨q16, c16, rfl, hp16, _⟩ := ho16.pairp; clear hSc; have hks := ksame_any q16 ql c16 cl M M w16 hp16 (hpl'.below hb16) (by omega) (by omega))
                    | (go_at_call 23; refine hks.mono ?_; rintro e w17 ⟨he, n17, rfl⟩; have he' : e = .returned (.bool true) := (by rw [he]; simp); clear he; subst he'; have hB17 : Below w15.heap.size w15 (w16.drewN n17) := below_drewN hb16 n17; have hHo := holds_lg bx bz _ U7 M6 n6 _ _ (w16.drewN n17) (hLg15.below hB17) (by omega) (hrm15.below hB17); clear hks)
                    | (go_at_call 15; refine hHo.mono ?_; rintro e w18 ⟨rfl, hb18⟩; clear hHo))
                  go_ret
                  exact ⟨rfl, hB15.trans ((hB17.trans (hb18.mono hB17.size)).mono hB15.size)⟩
                · obtain ⟨gu, offu, hqu, _, u1, u2⟩ := tt_cells hr15 j (by simpa using hfu)
                  subst hqu
                  simp only [List.getElem_map, ttOf] at u1 u2
                  rw [hlv] at u1
                  rw [hes] at u2
                  obtain ⟨UL, hULd⟩ : ∃ UL, st14.tabs.length = UL := ⟨_, rfl⟩
                  rw [hULd]
                  have hmore : (UL : Int) - ((tl : Int) - ((B : Int) - (j : Int))) = 1 := by omega
                  have hjU : (j : Int) < (UL : Int) := by omega
                  have hle : ¬ ((SE : Int) < (ME.length : Int)) := by omega
                  clear hULd hU1 hUl hr15 hlv hes
                  go_wp2_with (first
                    | (go_at_call 22; refine hSc.mono ?_; rintro e w16 ⟨v16, rfl, hb16, ho16⟩; obtain ⟨q16, c16, rfl, hp16, _⟩ := ho16.pairp; clear hSc; have hks := ksame_any q16 ql c16 cl M M w16 hp16 (hpl'.below hb16) (by omega) (by omega))
                    | (go_at_call 23; refine hks.mono ?_; rintro e w17 ⟨he, n17, rfl⟩; have he' : e = .returned (.bool true) := (by rw [he]; simp); clear he; subst he'; have hB17 : Below w15.heap.size w15 (w16.drewN n17) := below_drewN hb16 n17; have hHo := holds_lg bx bz _ U7 M6 n6 _ _ (w16.drewN n17) (hLg15.below hB17) (by omega) (hrm15.below hB17); clear hks)
                    | (go_at_call 15; refine hHo.mono ?_; rintro e w18 ⟨rfl, hb18⟩; clear hHo))
                  go_ret
                  exact ⟨rfl, hB15.trans ((hB17.trans (hb18.mono hB17.size)).mono hB15.size)⟩
end Go.Proofs.YtoabedkcieindabGreatDoor
