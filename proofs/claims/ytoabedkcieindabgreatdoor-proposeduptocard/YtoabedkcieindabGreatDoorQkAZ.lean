import Derived.Test.YtoabedkcieindabGreatDoorQkAY
namespace Go.Proofs.YtoabedkcieindabGreatDoor
open Go.RowKit Go.Maps Go.Sort
theorem after_is (x k : Nm) : bytesBefore k x = (!Op.bytesLess x k && !(x == k)) := by
  rw [less_before]
  cases h : bytesBefore x k
  · by_cases e : x = k
    · subst e; rw [h]; simp
    · rcases WideAt.bytes_total x k e with c | c
      · rw [h] at c; cases c
      · rw [c]; simp [e]
  · cases h2 : bytesBefore k x
    · rfl
    · have := before_trans h h2; rw [WideAt.bytes_irrefl] at this; cases this
set_option maxHeartbeats 4000000 in
set_option maxRecDepth 20000 in
theorem kdone_any (q : Option Addr) (qc : Nat) (l : List (Nm × Nm)) (o : Ox) (w : World) (hp : Pairp w q l) (hl : l.length ≤ 4194000) :
    Calls Tryz.prog 52 #[.slice q l.length qc, aggOp o] w fun e w' => ∃ v, e = .returned v ∧ Below w.heap.size w w' ∧ OwnP w' w.heap.size v (kdoneL l o) := by
  obtain ⟨i0, hi0, hz0, hz1, hz2⟩ := info_parts Tryz.info49
  go_enter Tryz.func52, Tryz.ntmps52
  go_wp2
  go_loopw [5, 6] (fun v i wr => ∃ k : Nat, k ≤ l.length ∧ i = .int .i64 k ∧ (l.take k).all (fun x => bytesBefore x.1 o.key) = true ∧ OwnP wr w.heap.size v (l.take k) ∧ Below w.heap.size w wr ∧ wr.heap[w.heap.size]? = some (.cells #[str o.key, str o.val, .bool o.gone] 103)) (fun _ i _ => l.length - (intOf i).toNat)
  case atStart => exact ⟨0, Nat.zero_le _, rfl, rfl, World.ownsRow_nil _ _ _ _, (Below.refl _ _).alloc (Nat.le_refl _) _, block_new _ _⟩
  case round =>
    obtain ⟨k, hk, rfl, hr, hown, hB, hbx⟩ := hrel
    have HR : Hid ((l.take k).all (fun x => bytesBefore x.1 o.key) = true) := hr
    clear hr
    obtain ⟨x0, x1, x2, _⟩ := cells3 hbx
    have hs := hB.size
    by_cases hlt : k < l.length
    · obtain ⟨g, off, rfl, c0, c1⟩ := (hp.below hB) k hlt
      cases hb : Op.bytesLess l[k].1 o.key
      · have hb' : bytesBefore l[k].1 o.key = false := by rw [← less_before]; exact hb
        have HT : Hid (l.takeWhile (fun x => bytesBefore x.1 o.key) = l.take k) := (takeWhile_take hlt HR.out).2 hb'
        cases hg : o.gone
        · have HE : Hid (kdoneL l o = (l.take k ++ [(o.key, o.val)]) ++ l.filter fun x => bytesBefore o.key x.1) := by show _ = _; unfold kdoneL; rw [HT.out, hg]; simp
          rw [hg] at x2
          go_wp2
          go_region
          go_wp2_with (first
            | (at_builtin; refine wpList_append_own _ rfl (.tmp 34) (.tmp 40) 28 rfl w.heap.size 49 i0 _ 2 32 Tryz.underlying28 hi0 hz0 hz1 hz2 rfl (by decide) _ _ _ rfl (World.ownsRow.alloc (w := wr.drew) hown _) ⟨wr.heap.size, 0, none⟩ 1 1 [str o.key, str o.val] rfl rfl (fun j u hu => by rw [Addr.add_lit, Nat.zero_add]; have h2 : (wr.alloc (.cells #[str o.key, str o.val] 49)).drew.heap[wr.heap.size]? = some (.cells #[str o.key, str o.val] 49) := block_new wr.drew _; rw [cell_block h2]; simpa using hu) (by simp [Value.oneCell']) (by unfold maxLen; rw [List.length_take]; omega) (by rw [List.length_take]; omega) (by simp; omega) ?_; intro v' w2 hown' hgrow _)
            | go_in)
          have hX : Below w.heap.size w w2 := ((hB.drew).alloc (by simp; omega) _).grown hgrow (by simp; omega) (fun k hk => (World.ownsRow.lt hown k hk).1)
          have hoX : OwnP w2 w.heap.size v' (l.take k ++ [(o.key, o.val)]) := by
            unfold OwnP
            rw [flatP_snoc, List.length_append]
            exact hown'
          have hbX : w2.heap[w.heap.size]? = some (.cells #[str o.key, str o.val, .bool o.gone] 103) := by
            refine (hgrow.block w.heap.size (by simp; omega) (fun e => ?_)).trans ?_
            · exact row_ne hbx hown e.symm (by decide) rfl
            · exact block_alloc (w := wr.drew) hbx
          have hsX := hX.size
          have hpX := hp.below hX
          have hlB : (l.take k ++ [(o.key, o.val)]).length ≤ l.length + 1 := by simp; omega
          generalize l.take k ++ [(o.key, o.val)] = B at HE hoX hlB
          go_loopw [5, 7] (fun v i wr => ∃ j : Nat, j ≤ l.length ∧ i = .int .i64 j ∧ OwnP wr w.heap.size v (B ++ (l.take j).filter fun x => bytesBefore o.key x.1) ∧ Below w.heap.size w wr ∧ wr.heap[w.heap.size]? = some (.cells #[str o.key, str o.val, .bool o.gone] 103)) (fun _ i _ => l.length - (intOf i).toNat)
          case atStart => exact ⟨0, Nat.zero_le _, rfl, by simpa using hoX, hX, hbX⟩
          case round =>
            obtain ⟨j, hj, rfl, hown3, hB3, hbx3⟩ := hrel
            obtain ⟨y0, y1, y2, _⟩ := cells3 hbx3
            have hs3 := hB3.size
            have hlen3 : (B ++ (l.take j).filter fun x => bytesBefore o.key x.1).length ≤ 2 * l.length + 1 := by
              have h1 : ((l.take j).filter fun x => bytesBefore o.key x.1).length ≤ (l.take j).length := List.length_filter_le _ _
              have h2 : (l.take j).length ≤ l.length := by rw [List.length_take]; omega
              rw [List.length_append]
              omega
            by_cases hlt3 : j < l.length
            · obtain ⟨g3, off3, hq3, d0, d1⟩ := (hp.below hB3) j hlt3
              cases hq3
              cases hb3 : Op.bytesLess l[j].1 o.key
              · cases he3 : (l[j].1 == o.key)
                · have HG : Hid (bytesBefore o.key l[j].1 = true) := by show _ = _; rw [after_is, hb3, he3]; rfl
                  generalize hM : (B ++ (l.take j).filter fun x => bytesBefore o.key x.1) = M at hown3 hlen3
                  go_wp2
                  go_region
                  go_wp2_with (first
                    | (at_builtin; refine wpList_append_own _ rfl (.tmp 56) (.tmp 61) 28 rfl w.heap.size 49 i0 _ 2 32 Tryz.underlying28 hi0 hz0 hz1 hz2 rfl (by decide) _ _ _ rfl (World.ownsRow.alloc (w := wr.drew) hown3 _) ⟨wr.heap.size, 0, none⟩ 1 1 [str l[j].1, str l[j].2] rfl rfl ?_ (by simp [Value.oneCell']) (by unfold maxLen; omega) (by omega) (by simp; omega) ?_; rotate_left; intro v' w2 hown' hgrow _)
                    | go_in)
                  · have hb2 : Below w.heap.size w w2 := ((hB3.drew).alloc (by simp; omega) _).grown hgrow (by simp; omega) (fun k hk => (World.ownsRow.lt hown3 k hk).1)
                    go_roundw
                    case rel =>
                      refine ⟨j + 1, by omega, by go_num, ?_, hb2, ?_⟩
                      · have hE : B ++ (l.take (j + 1)).filter (fun x => bytesBefore o.key x.1) = M ++ [l[j]] := by
                          rw [← hM, List.take_succ_eq_append_getElem hlt3, List.filter_append]
                          simp [HG.out]
                        unfold OwnP
                        rw [hE, flatP_snoc, List.length_append]
                        exact hown'
                      · refine (hgrow.block w.heap.size (by simp; omega) (fun e => ?_)).trans ?_
                        · exact row_ne hbx3 hown3 e.symm (by decide) rfl
                        · exact block_alloc (w := wr.drew) hbx3
                    case measure => simp [intOf]; omega
                  · intro j' u hu
                    rw [Addr.add_lit, Nat.zero_add]
                    have := block_new wr.drew (.cells #[str l[j].1, str l[j].2] 49)
                    have h2 : (wr.alloc (.cells #[str l[j].1, str l[j].2] 49)).drew.heap[wr.heap.size]? = some (.cells #[str l[j].1, str l[j].2] 49) := this
                    rw [cell_block h2]
                    simpa using hu
                · have HG : Hid (bytesBefore o.key l[j].1 = false) := by show _ = _; rw [after_is, hb3, he3]; rfl
                  go_wp2
                  go_region
                  go_wp2
                  go_roundw
                  case rel =>
                    refine ⟨j + 1, by omega, by go_num, ?_, hB3.drew, hbx3⟩
                    rw [show B ++ (l.take (j + 1)).filter (fun x => bytesBefore o.key x.1) = B ++ (l.take j).filter (fun x => bytesBefore o.key x.1) by rw [List.take_succ_eq_append_getElem hlt3, List.filter_append]; simp [HG.out]]
                    exact hown3
                  case measure => simp [intOf]; omega
              · have HG : Hid (bytesBefore o.key l[j].1 = false) := by show _ = _; rw [after_is, hb3]; rfl
                go_wp2
                go_region
                go_wp2
                go_roundw
                case rel =>
                  refine ⟨j + 1, by omega, by go_num, ?_, hB3.drew, hbx3⟩
                  rw [show B ++ (l.take (j + 1)).filter (fun x => bytesBefore o.key x.1) = B ++ (l.take j).filter (fun x => bytesBefore o.key x.1) by rw [List.take_succ_eq_append_getElem hlt3, List.filter_append]; simp [HG.out]]
                  exact hown3
                case measure => simp [intOf]; omega
            · rw [show l.take j = l from List.take_of_length_le (by omega)] at hown3
              go_wp2
              go_ret
              refine ⟨_, rfl, hB3, ?_⟩
              rw [HE.out]
              exact hown3
        · have HE : Hid (kdoneL l o = l.take k ++ l.filter fun x => bytesBefore o.key x.1) := by show _ = _; unfold kdoneL; rw [HT.out, hg]; simp
          rw [hg] at x2
          go_wp2
          go_region
          go_wp2
          have hoX : OwnP wr.drew w.heap.size u5 (l.take k) := hown
          have hX : Below w.heap.size w wr.drew := hB.drew
          have hbX : wr.drew.heap[w.heap.size]? = some (.cells #[str o.key, str o.val, .bool o.gone] 103) := hbx
          have hsX := hX.size
          have hpX := hp.below hX
          have hlB : (l.take k).length ≤ l.length + 1 := by simp; omega
          generalize l.take k = B at HE hoX hlB
          go_loopw [5, 7] (fun v i wr => ∃ j : Nat, j ≤ l.length ∧ i = .int .i64 j ∧ OwnP wr w.heap.size v (B ++ (l.take j).filter fun x => bytesBefore o.key x.1) ∧ Below w.heap.size w wr ∧ wr.heap[w.heap.size]? = some (.cells #[str o.key, str o.val, .bool o.gone] 103)) (fun _ i _ => l.length - (intOf i).toNat)
          case atStart => exact ⟨0, Nat.zero_le _, rfl, by simpa using hoX, hX, hbX⟩
          case round =>
            obtain ⟨j, hj, rfl, hown3, hB3, hbx3⟩ := hrel
            obtain ⟨y0, y1, y2, _⟩ := cells3 hbx3
            have hs3 := hB3.size
            have hlen3 : (B ++ (l.take j).filter fun x => bytesBefore o.key x.1).length ≤ 2 * l.length + 1 := by
              have h1 : ((l.take j).filter fun x => bytesBefore o.key x.1).length ≤ (l.take j).length := List.length_filter_le _ _
              have h2 : (l.take j).length ≤ l.length := by rw [List.length_take]; omega
              rw [List.length_append]
              omega
            by_cases hlt3 : j < l.length
            · obtain ⟨g3, off3, hq3, d0, d1⟩ := (hp.below hB3) j hlt3
              cases hq3
              cases hb3 : Op.bytesLess l[j].1 o.key
              · cases he3 : (l[j].1 == o.key)
                · have HG : Hid (bytesBefore o.key l[j].1 = true) := by show _ = _; rw [after_is, hb3, he3]; rfl
                  generalize hM : (B ++ (l.take j).filter fun x => bytesBefore o.key x.1) = M at hown3 hlen3
                  go_wp2
                  go_region
                  go_wp2_with (first
                    | (at_builtin; refine wpList_append_own _ rfl (.tmp 56) (.tmp 61) 28 rfl w.heap.size 49 i0 _ 2 32 Tryz.underlying28 hi0 hz0 hz1 hz2 rfl (by decide) _ _ _ rfl (World.ownsRow.alloc (w := wr.drew) hown3 _) ⟨wr.heap.size, 0, none⟩ 1 1 [str l[j].1, str l[j].2] rfl rfl ?_ (by simp [Value.oneCell']) (by unfold maxLen; omega) (by omega) (by simp; omega) ?_; rotate_left; intro v' w2 hown' hgrow _)
                    | go_in)
                  · have hb2 : Below w.heap.size w w2 := ((hB3.drew).alloc (by simp; omega) _).grown hgrow (by simp; omega) (fun k hk => (World.ownsRow.lt hown3 k hk).1)
                    go_roundw
                    case rel =>
                      refine ⟨j + 1, by omega, by go_num, ?_, hb2, ?_⟩
                      · have hE : B ++ (l.take (j + 1)).filter (fun x => bytesBefore o.key x.1) = M ++ [l[j]] := by
                          rw [← hM, List.take_succ_eq_append_getElem hlt3, List.filter_append]
                          simp [HG.out]
                        unfold OwnP
                        rw [hE, flatP_snoc, List.length_append]
                        exact hown'
                      · refine (hgrow.block w.heap.size (by simp; omega) (fun e => ?_)).trans ?_
                        · exact row_ne hbx3 hown3 e.symm (by decide) rfl
                        · exact block_alloc (w := wr.drew) hbx3
                    case measure => simp [intOf]; omega
                  · intro j' u hu
                    rw [Addr.add_lit, Nat.zero_add]
                    have := block_new wr.drew (.cells #[str l[j].1, str l[j].2] 49)
                    have h2 : (wr.alloc (.cells #[str l[j].1, str l[j].2] 49)).drew.heap[wr.heap.size]? = some (.cells #[str l[j].1, str l[j].2] 49) := this
                    rw [cell_block h2]
                    simpa using hu
                · have HG : Hid (bytesBefore o.key l[j].1 = false) := by show _ = _; rw [after_is, hb3, he3]; rfl
                  go_wp2
                  go_region
                  go_wp2
                  go_roundw
                  case rel =>
                    refine ⟨j + 1, by omega, by go_num, ?_, hB3.drew, hbx3⟩
                    rw [show B ++ (l.take (j + 1)).filter (fun x => bytesBefore o.key x.1) = B ++ (l.take j).filter (fun x => bytesBefore o.key x.1) by rw [List.take_succ_eq_append_getElem hlt3, List.filter_append]; simp [HG.out]]
                    exact hown3
                  case measure => simp [intOf]; omega
              · have HG : Hid (bytesBefore o.key l[j].1 = false) := by show _ = _; rw [after_is, hb3]; rfl
                go_wp2
                go_region
                go_wp2
                go_roundw
                case rel =>
                  refine ⟨j + 1, by omega, by go_num, ?_, hB3.drew, hbx3⟩
                  rw [show B ++ (l.take (j + 1)).filter (fun x => bytesBefore o.key x.1) = B ++ (l.take j).filter (fun x => bytesBefore o.key x.1) by rw [List.take_succ_eq_append_getElem hlt3, List.filter_append]; simp [HG.out]]
                  exact hown3
                case measure => simp [intOf]; omega
            · rw [show l.take j = l from List.take_of_length_le (by omega)] at hown3
              go_wp2
              go_ret
              refine ⟨_, rfl, hB3, ?_⟩
              rw [HE.out]
              exact hown3
      · have hb' : bytesBefore l[k].1 o.key = true := by rw [← less_before]; exact hb
        go_wp2
        go_region
        go_wp2_with (first
          | (at_builtin; refine wpList_append_own _ rfl (.tmp 24) (.tmp 29) 28 rfl w.heap.size 49 i0 _ 2 32 Tryz.underlying28 hi0 hz0 hz1 hz2 rfl (by decide) _ _ _ rfl (World.ownsRow.alloc (w := wr.drew) hown _) ⟨wr.heap.size, 0, none⟩ 1 1 [str l[k].1, str l[k].2] rfl rfl ?_ (by simp [Value.oneCell']) (by unfold maxLen; rw [List.length_take]; omega) (by rw [List.length_take]; omega) (by simp; omega) ?_; rotate_left; intro v' w2 hown' hgrow _)
          | go_in)
        · have hb2 : Below w.heap.size w w2 := ((hB.drew).alloc (by simp; omega) _).grown hgrow (by simp; omega) (fun k hk => (World.ownsRow.lt hown k hk).1)
          go_roundw
          case rel =>
            refine ⟨k + 1, by omega, by go_num, (takeWhile_take hlt HR.out).1 hb', ?_, hb2, ?_⟩
            · unfold OwnP
              rw [List.take_succ_eq_append_getElem hlt, flatP_snoc, List.length_append]
              exact hown'
            · refine (hgrow.block w.heap.size (by simp; omega) (fun e => ?_)).trans ?_
              · exact row_ne hbx hown e.symm (by decide) rfl
              · exact block_alloc (w := wr.drew) hbx
          case measure => simp [intOf]; omega
        · intro j u hu
          rw [Addr.add_lit, Nat.zero_add]
          have := block_new wr.drew (.cells #[str l[k].1, str l[k].2] 49)
          have h2 : (wr.alloc (.cells #[str l[k].1, str l[k].2] 49)).drew.heap[wr.heap.size]? = some (.cells #[str l[k].1, str l[k].2] 49) := this
          rw [cell_block h2]
          simpa using hu
    · have HT : Hid (l.takeWhile (fun x => bytesBefore x.1 o.key) = l.take k) := by
        show _ = _
        have := HR.out
        rw [List.take_of_length_le (by omega)] at this ⊢
        exact takeWhile_whole this
      cases hg : o.gone
      · have HE : Hid (kdoneL l o = (l.take k ++ [(o.key, o.val)]) ++ l.filter fun x => bytesBefore o.key x.1) := by show _ = _; unfold kdoneL; rw [HT.out, hg]; simp
        rw [hg] at x2
        go_wp2
        go_region
        go_wp2_with (first
          | (at_builtin; refine wpList_append_own _ rfl (.tmp 34) (.tmp 40) 28 rfl w.heap.size 49 i0 _ 2 32 Tryz.underlying28 hi0 hz0 hz1 hz2 rfl (by decide) _ _ _ rfl (World.ownsRow.alloc (w := wr.drew) hown _) ⟨wr.heap.size, 0, none⟩ 1 1 [str o.key, str o.val] rfl rfl (fun j u hu => by rw [Addr.add_lit, Nat.zero_add]; have h2 : (wr.alloc (.cells #[str o.key, str o.val] 49)).drew.heap[wr.heap.size]? = some (.cells #[str o.key, str o.val] 49) := block_new wr.drew _; rw [cell_block h2]; simpa using hu) (by simp [Value.oneCell']) (by unfold maxLen; rw [List.length_take]; omega) (by rw [List.length_take]; omega) (by simp; omega) ?_; intro v' w2 hown' hgrow _)
          | go_in)
        have hX : Below w.heap.size w w2 := ((hB.drew).alloc (by simp; omega) _).grown hgrow (by simp; omega) (fun k hk => (World.ownsRow.lt hown k hk).1)
        have hoX : OwnP w2 w.heap.size v' (l.take k ++ [(o.key, o.val)]) := by
          unfold OwnP
          rw [flatP_snoc, List.length_append]
          exact hown'
        have hbX : w2.heap[w.heap.size]? = some (.cells #[str o.key, str o.val, .bool o.gone] 103) := by
          refine (hgrow.block w.heap.size (by simp; omega) (fun e => ?_)).trans ?_
          · exact row_ne hbx hown e.symm (by decide) rfl
          · exact block_alloc (w := wr.drew) hbx
        have hsX := hX.size
        have hpX := hp.below hX
        have hlB : (l.take k ++ [(o.key, o.val)]).length ≤ l.length + 1 := by simp; omega
        generalize l.take k ++ [(o.key, o.val)] = B at HE hoX hlB
        go_loopw [5, 7] (fun v i wr => ∃ j : Nat, j ≤ l.length ∧ i = .int .i64 j ∧ OwnP wr w.heap.size v (B ++ (l.take j).filter fun x => bytesBefore o.key x.1) ∧ Below w.heap.size w wr ∧ wr.heap[w.heap.size]? = some (.cells #[str o.key, str o.val, .bool o.gone] 103)) (fun _ i _ => l.length - (intOf i).toNat)
        case atStart => exact ⟨0, Nat.zero_le _, rfl, by simpa using hoX, hX, hbX⟩
        case round =>
          obtain ⟨j, hj, rfl, hown3, hB3, hbx3⟩ := hrel
          obtain ⟨y0, y1, y2, _⟩ := cells3 hbx3
          have hs3 := hB3.size
          have hlen3 : (B ++ (l.take j).filter fun x => bytesBefore o.key x.1).length ≤ 2 * l.length + 1 := by
            have h1 : ((l.take j).filter fun x => bytesBefore o.key x.1).length ≤ (l.take j).length := List.length_filter_le _ _
            have h2 : (l.take j).length ≤ l.length := by rw [List.length_take]; omega
            rw [List.length_append]
            omega
          by_cases hlt3 : j < l.length
          · obtain ⟨g3, off3, hq3, d0, d1⟩ := (hp.below hB3) j hlt3
            subst hq3
            cases hb3 : Op.bytesLess l[j].1 o.key
            · cases he3 : (l[j].1 == o.key)
              · have HG : Hid (bytesBefore o.key l[j].1 = true) := by show _ = _; rw [after_is, hb3, he3]; rfl
                generalize hM : (B ++ (l.take j).filter fun x => bytesBefore o.key x.1) = M at hown3 hlen3
                go_wp2
                go_region
                go_wp2_with (first
                  | (at_builtin; refine wpList_append_own _ rfl (.tmp 56) (.tmp 61) 28 rfl w.heap.size 49 i0 _ 2 32 Tryz.underlying28 hi0 hz0 hz1 hz2 rfl (by decide) _ _ _ rfl (World.ownsRow.alloc (w := wr.drew) hown3 _) ⟨wr.heap.size, 0, none⟩ 1 1 [str l[j].1, str l[j].2] rfl rfl ?_ (by simp [Value.oneCell']) (by unfold maxLen; omega) (by omega) (by simp; omega) ?_; rotate_left; intro v' w2 hown' hgrow _)
                  | go_in)
                · have hb2 : Below w.heap.size w w2 := ((hB3.drew).alloc (by simp; omega) _).grown hgrow (by simp; omega) (fun k hk => (World.ownsRow.lt hown3 k hk).1)
                  go_roundw
                  case rel =>
                    refine ⟨j + 1, by omega, by go_num, ?_, hb2, ?_⟩
                    · have hE : B ++ (l.take (j + 1)).filter (fun x => bytesBefore o.key x.1) = M ++ [l[j]] := by
                        rw [← hM, List.take_succ_eq_append_getElem hlt3, List.filter_append]
                        simp [HG.out]
                      unfold OwnP
                      rw [hE, flatP_snoc, List.length_append]
                      exact hown'
                    · refine (hgrow.block w.heap.size (by simp; omega) (fun e => ?_)).trans ?_
                      · exact row_ne hbx3 hown3 e.symm (by decide) rfl
                      · exact block_alloc (w := wr.drew) hbx3
                  case measure => simp [intOf]; omega
                · intro j' u hu
                  rw [Addr.add_lit, Nat.zero_add]
                  have := block_new wr.drew (.cells #[str l[j].1, str l[j].2] 49)
                  have h2 : (wr.alloc (.cells #[str l[j].1, str l[j].2] 49)).drew.heap[wr.heap.size]? = some (.cells #[str l[j].1, str l[j].2] 49) := this
                  rw [cell_block h2]
                  simpa using hu
              · have HG : Hid (bytesBefore o.key l[j].1 = false) := by show _ = _; rw [after_is, hb3, he3]; rfl
                go_wp2
                go_region
                go_wp2
                go_roundw
                case rel =>
                  refine ⟨j + 1, by omega, by go_num, ?_, hB3.drew, hbx3⟩
                  rw [show B ++ (l.take (j + 1)).filter (fun x => bytesBefore o.key x.1) = B ++ (l.take j).filter (fun x => bytesBefore o.key x.1) by rw [List.take_succ_eq_append_getElem hlt3, List.filter_append]; simp [HG.out]]
                  exact hown3
                case measure => simp [intOf]; omega
            · have HG : Hid (bytesBefore o.key l[j].1 = false) := by show _ = _; rw [after_is, hb3]; rfl
              go_wp2
              go_region
              go_wp2
              go_roundw
              case rel =>
                refine ⟨j + 1, by omega, by go_num, ?_, hB3.drew, hbx3⟩
                rw [show B ++ (l.take (j + 1)).filter (fun x => bytesBefore o.key x.1) = B ++ (l.take j).filter (fun x => bytesBefore o.key x.1) by rw [List.take_succ_eq_append_getElem hlt3, List.filter_append]; simp [HG.out]]
                exact hown3
              case measure => simp [intOf]; omega
          · rw [show l.take j = l from List.take_of_length_le (by omega)] at hown3
            go_wp2
            go_ret
            refine ⟨_, rfl, hB3, ?_⟩
            rw [HE.out]
            exact hown3
      · have HE : Hid (kdoneL l o = l.take k ++ l.filter fun x => bytesBefore o.key x.1) := by show _ = _; unfold kdoneL; rw [HT.out, hg]; simp
        rw [hg] at x2
        go_wp2
        go_region
        go_wp2
        have hoX : OwnP wr.drew w.heap.size u5 (l.take k) := hown
        have hX : Below w.heap.size w wr.drew := hB.drew
        have hbX : wr.drew.heap[w.heap.size]? = some (.cells #[str o.key, str o.val, .bool o.gone] 103) := hbx
        have hsX := hX.size
        have hpX := hp.below hX
        have hlB : (l.take k).length ≤ l.length + 1 := by simp; omega
        generalize l.take k = B at HE hoX hlB
        go_loopw [5, 7] (fun v i wr => ∃ j : Nat, j ≤ l.length ∧ i = .int .i64 j ∧ OwnP wr w.heap.size v (B ++ (l.take j).filter fun x => bytesBefore o.key x.1) ∧ Below w.heap.size w wr ∧ wr.heap[w.heap.size]? = some (.cells #[str o.key, str o.val, .bool o.gone] 103)) (fun _ i _ => l.length - (intOf i).toNat)
        case atStart => exact ⟨0, Nat.zero_le _, rfl, by simpa using hoX, hX, hbX⟩
        case round =>
          obtain ⟨j, hj, rfl, hown3, hB3, hbx3⟩ := hrel
          obtain ⟨y0, y1, y2, _⟩ := cells3 hbx3
          have hs3 := hB3.size
          have hlen3 : (B ++ (l.take j).filter fun x => bytesBefore o.key x.1).length ≤ 2 * l.length + 1 := by
            have h1 : ((l.take j).filter fun x => bytesBefore o.key x.1).length ≤ (l.take j).length := List.length_filter_le _ _
            have h2 : (l.take j).length ≤ l.length := by rw [List.length_take]; omega
            rw [List.length_append]
            omega
          by_cases hlt3 : j < l.length
          · obtain ⟨g3, off3, hq3, d0, d1⟩ := (hp.below hB3) j hlt3
            subst hq3
            cases hb3 : Op.bytesLess l[j].1 o.key
            · cases he3 : (l[j].1 == o.key)
              · have HG : Hid (bytesBefore o.key l[j].1 = true) := by show _ = _; rw [after_is, hb3, he3]; rfl
                generalize hM : (B ++ (l.take j).filter fun x => bytesBefore o.key x.1) = M at hown3 hlen3
                go_wp2
                go_region
                go_wp2_with (first
                  | (at_builtin; refine wpList_append_own _ rfl (.tmp 56) (.tmp 61) 28 rfl w.heap.size 49 i0 _ 2 32 Tryz.underlying28 hi0 hz0 hz1 hz2 rfl (by decide) _ _ _ rfl (World.ownsRow.alloc (w := wr.drew) hown3 _) ⟨wr.heap.size, 0, none⟩ 1 1 [str l[j].1, str l[j].2] rfl rfl ?_ (by simp [Value.oneCell']) (by unfold maxLen; omega) (by omega) (by simp; omega) ?_; rotate_left; intro v' w2 hown' hgrow _)
                  | go_in)
                · have hb2 : Below w.heap.size w w2 := ((hB3.drew).alloc (by simp; omega) _).grown hgrow (by simp; omega) (fun k hk => (World.ownsRow.lt hown3 k hk).1)
                  go_roundw
                  case rel =>
                    refine ⟨j + 1, by omega, by go_num, ?_, hb2, ?_⟩
                    · have hE : B ++ (l.take (j + 1)).filter (fun x => bytesBefore o.key x.1) = M ++ [l[j]] := by
                        rw [← hM, List.take_succ_eq_append_getElem hlt3, List.filter_append]
                        simp [HG.out]
                      unfold OwnP
                      rw [hE, flatP_snoc, List.length_append]
                      exact hown'
                    · refine (hgrow.block w.heap.size (by simp; omega) (fun e => ?_)).trans ?_
                      · exact row_ne hbx3 hown3 e.symm (by decide) rfl
                      · exact block_alloc (w := wr.drew) hbx3
                  case measure => simp [intOf]; omega
                · intro j' u hu
                  rw [Addr.add_lit, Nat.zero_add]
                  have := block_new wr.drew (.cells #[str l[j].1, str l[j].2] 49)
                  have h2 : (wr.alloc (.cells #[str l[j].1, str l[j].2] 49)).drew.heap[wr.heap.size]? = some (.cells #[str l[j].1, str l[j].2] 49) := this
                  rw [cell_block h2]
                  simpa using hu
              · have HG : Hid (bytesBefore o.key l[j].1 = false) := by show _ = _; rw [after_is, hb3, he3]; rfl
                go_wp2
                go_region
                go_wp2
                go_roundw
                case rel =>
                  refine ⟨j + 1, by omega, by go_num, ?_, hB3.drew, hbx3⟩
                  rw [show B ++ (l.take (j + 1)).filter (fun x => bytesBefore o.key x.1) = B ++ (l.take j).filter (fun x => bytesBefore o.key x.1) by rw [List.take_succ_eq_append_getElem hlt3, List.filter_append]; simp [HG.out]]
                  exact hown3
                case measure => simp [intOf]; omega
            · have HG : Hid (bytesBefore o.key l[j].1 = false) := by show _ = _; rw [after_is, hb3]; rfl
              go_wp2
              go_region
              go_wp2
              go_roundw
              case rel =>
                refine ⟨j + 1, by omega, by go_num, ?_, hB3.drew, hbx3⟩
                rw [show B ++ (l.take (j + 1)).filter (fun x => bytesBefore o.key x.1) = B ++ (l.take j).filter (fun x => bytesBefore o.key x.1) by rw [List.take_succ_eq_append_getElem hlt3, List.filter_append]; simp [HG.out]]
                exact hown3
              case measure => simp [intOf]; omega
          · rw [show l.take j = l from List.take_of_length_le (by omega)] at hown3
            go_wp2
            go_ret
            refine ⟨_, rfl, hB3, ?_⟩
            rw [HE.out]
            exact hown3
end Go.Proofs.YtoabedkcieindabGreatDoor
