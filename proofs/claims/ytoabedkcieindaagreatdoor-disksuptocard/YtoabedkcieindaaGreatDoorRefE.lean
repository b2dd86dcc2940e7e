/- The document's own disk (strataref): Rename. -/
import Derived.Test.YtoabedkcieindaaGreatDoorRefD
import Derived.Deep.RegionWith
namespace Go.Proofs.YtoabedkcieindaaGreatDoor
open Go.RowKit

set_option maxHeartbeats 2000000 in
set_option maxRecDepth 20000 in
theorem yRename_any (b : Nat) (d : Dk) (n m : Nm) (S : Nat → Prop) (w : World) (hR : RefAt w S b d) (hok : d.Ok) (hl : d.files.length ≤ 4194302) (hn : m.length ≤ 1099511627776) :
    Calls Tryz.prog 82 #[.pointer (some ⟨b, 0, none⟩), .string ⟨n.toArray⟩, .string ⟨m.toArray⟩] w fun e w' => e = .returned (.int .i64 (d.rename n m).1) ∧ RefAt w' (Nw S w) b (d.rename n m).2 ∧ Kp S w w' := by
  obtain ⟨v, hb, hrow, sb, sg⟩ := id hR
  obtain ⟨p, cap, rfl, hp⟩ := rowp hrow
  obtain ⟨c0, c1, c2, c3, f0, f1, f2, f3⟩ := cells4 hb
  have hnm := named_any ⟨m.toArray⟩ w (by show m.length ≤ _; unfold maxLen; omega)
  have hfd := yfind_any b cap p _ _ _ d.files n w (by omega) hb hp
  by_cases hd : d.dead = true
  · have HX : Hid (d.rename n m = (4, d)) := by simp [Hid, Dk.rename, hd]
    clear hb
    go_enter Tryz.func82, Tryz.ntmps82
    go_wp2_with (first
      | (go_at_call 122; refine hnm.mono ?_; rintro e w' ⟨rfl, rfl⟩)
      | (go_at_call 125; refine hfd.mono ?_; rintro e w' ⟨r, rfl, rfl, hF⟩))
    go_ret
    rw [HX.out]
    exact ⟨rfl, hR.nw, Kp.refl _ _⟩
  · rw [Bool.not_eq_true] at hd
    rw [hd] at hb
    by_cases hk : nameOk m = false
    · have HX : Hid (d.rename n m = (1, d)) := by simp [Hid, Dk.rename, hd, hk]
      clear hb
      go_enter Tryz.func82, Tryz.ntmps82
      go_wp2_with (first
        | (go_at_call 122; refine hnm.mono ?_; rintro e w' ⟨rfl, rfl⟩; simp only [hk])
        | (go_at_call 125; refine hfd.mono ?_; rintro e w' ⟨r, rfl, rfl, hF⟩))
      go_ret
      rw [HX.out]
      exact ⟨rfl, hR.nw, Kp.refl _ _⟩
    · rw [Bool.not_eq_false] at hk
      cases hg : getF n d.files with
      | none =>
        have HX : Hid (d.rename n m = (2, d)) := by simp [Hid, Dk.rename, hd, hk, hg]
        clear hb
        go_enter Tryz.func82, Tryz.ntmps82
        go_wp2_with (first
          | (go_at_call 122; refine hnm.mono ?_; rintro e w' ⟨rfl, rfl⟩; simp only [hk])
          | (go_at_call 125; refine hfd.mono ?_; rintro e w' ⟨r, rfl, rfl, hF⟩; obtain rfl := hF.none hg))
        go_ret
        rw [HX.out]
        exact ⟨rfl, hR.nw, Kp.refl _ _⟩
      | some f =>
        by_cases hz : d.left = 0
        · have hbu := burnt_die hb hrow hz
          have HX : Hid (d.rename n m = (4, d.die)) := by simp [Hid, Dk.rename, hd, hk, hg, hz]
          clear hb
          go_enter Tryz.func82, Tryz.ntmps82
          go_wp2_with (first
            | (go_at_call 122; refine hnm.mono ?_; rintro e w' ⟨rfl, rfl⟩; simp only [hk])
            | (go_at_call 125; refine hfd.mono ?_; rintro e w' ⟨r, rfl, rfl, hF⟩; obtain ⟨k, hk', rfl, hkn, rfl⟩ := hF.some hg)
            | (go_at_call 124; refine hbu.mono ?_; rintro e w1 ⟨rfl, kp, hb1, hr1⟩))
          go_ret
          rw [HX.out]
          exact ⟨rfl, ⟨_, hb1, hr1, .inl sb, fun g hg => .inl (sg g hg)⟩, kp.b sb⟩
        · have hbu := burnt_go hb hrow hok.left0 hok.left1 hz
          have HX : Hid (d.rename n m = (0, ⟨d.quota, moved n m f d.files, max (d.left - 1) (-1), false, d.turn⟩)) := by simp [Hid, Dk.rename, hd, hk, hg, hz, Dk.burn]
          clear hb
          by_cases hnm' : n = m
          · have HM : Hid (moved n m f d.files = d.files) := by simp [Hid, moved, hnm']
            have heq : (n == m) = true := by simpa using hnm'
            have H' : Hid (n = m) := hnm'
            clear hnm'
            go_enter Tryz.func82, Tryz.ntmps82
            go_wp2_with (first
              | (go_at_call 122; refine hnm.mono ?_; rintro e w' ⟨rfl, rfl⟩; simp only [hk])
              | (go_at_call 125; refine hfd.mono ?_; rintro e w' ⟨r, rfl, rfl, hF⟩; obtain ⟨k, hk', rfl, hkn, rfl⟩ := hF.some hg)
              | (go_at_call 124; refine hbu.mono ?_; rintro e w1 ⟨rfl, kp, hb1, hr1⟩))
            go_ret
            rw [HX.out, HM.out]
            exact ⟨rfl, ⟨_, hb1, hr1, .inl sb, fun g hg => .inl (sg g hg)⟩, kp.b sb⟩
          · have HM : Hid (moved n m f d.files = ins (m, f) (del m (del n d.files))) := by simp [Hid, moved, hnm']
            have heq : (n == m) = false := by simpa using hnm'
            have H' : Hid (¬ n = m) := hnm'
            clear hnm'
            cases hgm : getF m d.files with
            | none =>
              go_enter Tryz.func82, Tryz.ntmps82
              go_wp2_with (first
                | (go_at_call 122; refine hnm.mono ?_; rintro e w' ⟨rfl, rfl⟩; simp only [hk]; clear hnm)
                | (go_at_call 125; refine hfd.mono ?_; rintro e w' ⟨r, rfl, rfl, hF⟩; obtain ⟨k, hk', rfl, hkn, rfl⟩ := hF.some hg; clear hfd)
                | (go_at_call 124; refine hbu.mono ?_; rintro e w1 ⟨rfl, kp, hb1, hr1⟩; clear hbu; obtain ⟨e0, e1, e2, e3, _, _, _, _⟩ := cells4 hb1; have hblt := lt_of_block hb1; obtain ⟨p', cap', hpe, hp'⟩ := rowp hr1; obtain ⟨rfl, rfl⟩ : p = p' ∧ cap = cap' := (by simpa using hpe); obtain ⟨g, rfl, k0, k1, k2⟩ := hp' k hk')
                | (go_at_call 128; refine (without_any _ cap d.files k (w1.alloc _) (by omega) hk' (hp'.below ((Below.refl _ w1).alloc (Nat.le_refl _) _))).mono ?_; rintro e w3 ⟨v3, rfl, hbl3, hr3⟩; obtain ⟨p3, cap3, rfl, hp3⟩ := rowp hr3; have hb3 := block_at2 (block_alloc hb1) hbl3; have hF3 := block_at2 (block_new w1 _) hbl3; obtain ⟨i0, i1, i2, i3, j0, j1, j2, j3⟩ := cells4 hb3))
              obtain ⟨s1, s2⟩ := ref_newrow (block_alloc hb1) hbl3 hr3
              have kp4 := (((kp.b (S := Nw S w') (.inl sb)).alloc (.cells #[.string ⟨n.toArray⟩, .string ⟨d.files[k].2.bytes.toArray⟩, .int .i64 d.files[k].2.safe] 172)).trans (T := fun _ => False) (Kp.of_below hbl3) (fun _ _ f => f.elim)).put (o := 1) (.inl sb) (.slice p3 (d.files.eraseIdx k).length cap3)
              have hF4 := block_set_ne (b := b) (j := 1) hF3 (by omega) (.slice p3 (d.files.eraseIdx k).length cap3)
              have hsz4 : w'.heap.size ≤ w1.heap.size := kp.size
              have hg4 : ∀ g', (Value.slice p3 (d.files.eraseIdx k).length cap3).ownBlock = some g' → w1.heap.size + 1 ≤ g' := fun g' hg' => by have := (hr3.lt g' hg').1; simpa using this
              clear kp hb3 hF3 hbl3 hr3 hp3 i0 i1 i2 i3 j0 j1 j2 j3 e0 e1 e2 e3 k0 k1 k2 c0 c1 c2 c3 f0 f1 f2 f3 hb1 hr1 hp' hp hrow
              generalize w3.setCell ⟨b, 1, none⟩ (.slice p3 (d.files.eraseIdx k).length cap3) = w4 at s1 s2 kp4 hF4 ⊢
              have hde := del_erase hok.rise hk'
              rw [hkn] at hde
              rw [← hde] at s1 s2 hg4
              generalize hL : del n d.files = L at s1 s2 hg4 hde
              have hLr : rising L := by rw [← hL]; exact rising_del hok.rise
              have hLl : L.length ≤ 4194302 := by rw [← hL]; exact Nat.le_trans (List.length_filter_le _ _) hl
              have hLg : getF m L = getF m d.files := by rw [← hL]; exact getF_del_ne (fun e => H'.out e.symm) _
              rw [hgm] at hLg
              have HL : Hid (del n d.files = L) := hL
              clear hL hde
              obtain ⟨p4, cap4, hpe4, hp4⟩ := rowp s2
              obtain ⟨rfl, rfl⟩ : p3 = p4 ∧ cap3 = cap4 := by simpa using hpe4
              obtain ⟨i0, i1, i2, i3, j0, j1, j2, j3⟩ := cells4 s1
              obtain ⟨m0, m1, m2, z0, z1, z2⟩ := cells3 hF4
              go_wp2_with (go_at_call 125; refine (yfind_any b cap3 p3 _ _ _ L m w4 (by omega) s1 hp4).mono ?_; rintro e w7 ⟨r, rfl, rfl, hF⟩; obtain rfl := hF.none hLg)
              have hb5 := block_set_ne (b := w1.heap.size) (j := 0) s1 (by omega) (.string ⟨m.toArray⟩)
              have hF5 := block_set (j := 0) hF4 (.string ⟨m.toArray⟩)
              have hr5 : (w7.setCell ⟨w1.heap.size, 0, none⟩ (.string ⟨m.toArray⟩)).ownsRow 0 172 3 (.slice p3 L.length cap3) L.length (L.flatMap fcells) := ownsRow_of_block s2 (fun g' hg' => Below.heap_setCell _ _ _ _ (by have := hg4 g' hg'; show g' ≠ w1.heap.size; omega))
              have kp5 := kp4.put (g := w1.heap.size) (o := 0) (.inr hsz4) (.string ⟨m.toArray⟩)
              generalize w7.setCell ⟨w1.heap.size, 0, none⟩ (.string ⟨m.toArray⟩) = w5 at hb5 hF5 hr5 kp5 ⊢
              simp only [List.setIfInBounds_toArray, List.set_cons_zero] at hF5
              obtain ⟨p5, cap5, hpe5, hp5⟩ := rowp hr5
              obtain ⟨rfl, rfl⟩ : p3 = p5 ∧ cap3 = cap5 := by simpa using hpe5
              obtain ⟨x0, x1, x2, x3, y0, y1, y2, y3⟩ := cells4 hb5
              obtain ⟨o0, o1, o2, q0, q1, q2⟩ := cells3 hF5
              have hbl5 := lt_of_block hb5
              clear s1 s2 hF4 kp4 hp4 i0 i1 i2 i3 j0 j1 j2 j3 m0 m1 m2 z0 z1 z2
              go_region_with (go_at_call 126; refine (put_any p3 cap3 L (m, d.files[k].2) w5.drew (by omega) (show Rowp w5.drew p3 L from hp5)).mono ?_; rintro e w6 ⟨v6, rfl, hbl6, hr6⟩; obtain ⟨p6, cap6, rfl, _⟩ := rowp hr6; obtain ⟨t0, t1, t2, t3, r0, r1, r2, r3⟩ := cells4 (block_at2 (w1 := w5.drew) hb5 hbl6))
              all_goals go_wp2
              all_goals go_ret
              all_goals
                obtain ⟨s1, s2⟩ := ref_newrow (w1 := w5.drew) hb5 hbl6 hr6
                rw [HX.out, HM.out, HL.out, del_none hLg]
                exact ⟨rfl, ⟨_, s1, s2, .inl sb, fun g' hg' => .inr (by have := (hr6.lt g' hg').1; have := kp5.size; simp at *; omega)⟩, kpNw ((kp5.drew.trans (T := fun _ => False) (Kp.of_below (w := w5.drew) hbl6) (fun _ _ f => f.elim)).put (.inl sb) _)⟩
            | some f2 =>
              go_enter Tryz.func82, Tryz.ntmps82
              go_wp2_with (first
                | (go_at_call 122; refine hnm.mono ?_; rintro e w' ⟨rfl, rfl⟩; simp only [hk]; clear hnm)
                | (go_at_call 125; refine hfd.mono ?_; rintro e w' ⟨r, rfl, rfl, hF⟩; obtain ⟨k, hk', rfl, hkn, rfl⟩ := hF.some hg; clear hfd)
                | (go_at_call 124; refine hbu.mono ?_; rintro e w1 ⟨rfl, kp, hb1, hr1⟩; clear hbu; obtain ⟨e0, e1, e2, e3, _, _, _, _⟩ := cells4 hb1; have hblt := lt_of_block hb1; obtain ⟨p', cap', hpe, hp'⟩ := rowp hr1; obtain ⟨rfl, rfl⟩ : p = p' ∧ cap = cap' := (by simpa using hpe); obtain ⟨g, rfl, k0, k1, k2⟩ := hp' k hk')
                | (go_at_call 128; refine (without_any _ cap d.files k (w1.alloc _) (by omega) hk' (hp'.below ((Below.refl _ w1).alloc (Nat.le_refl _) _))).mono ?_; rintro e w3 ⟨v3, rfl, hbl3, hr3⟩; obtain ⟨p3, cap3, rfl, hp3⟩ := rowp hr3; have hb3 := block_at2 (block_alloc hb1) hbl3; have hF3 := block_at2 (block_new w1 _) hbl3; obtain ⟨i0, i1, i2, i3, j0, j1, j2, j3⟩ := cells4 hb3))
              obtain ⟨s1, s2⟩ := ref_newrow (block_alloc hb1) hbl3 hr3
              have kp4 := (((kp.b (S := Nw S w') (.inl sb)).alloc (.cells #[.string ⟨n.toArray⟩, .string ⟨d.files[k].2.bytes.toArray⟩, .int .i64 d.files[k].2.safe] 172)).trans (T := fun _ => False) (Kp.of_below hbl3) (fun _ _ f => f.elim)).put (o := 1) (.inl sb) (.slice p3 (d.files.eraseIdx k).length cap3)
              have hF4 := block_set_ne (b := b) (j := 1) hF3 (by omega) (.slice p3 (d.files.eraseIdx k).length cap3)
              have hsz4 : w'.heap.size ≤ w1.heap.size := kp.size
              have hg4 : ∀ g', (Value.slice p3 (d.files.eraseIdx k).length cap3).ownBlock = some g' → w1.heap.size + 1 ≤ g' := fun g' hg' => by have := (hr3.lt g' hg').1; simpa using this
              clear kp hb3 hF3 hbl3 hr3 hp3 i0 i1 i2 i3 j0 j1 j2 j3 e0 e1 e2 e3 k0 k1 k2 c0 c1 c2 c3 f0 f1 f2 f3 hb1 hr1 hp' hp hrow
              generalize w3.setCell ⟨b, 1, none⟩ (.slice p3 (d.files.eraseIdx k).length cap3) = w4 at s1 s2 kp4 hF4 ⊢
              have hde := del_erase hok.rise hk'
              rw [hkn] at hde
              rw [← hde] at s1 s2 hg4
              generalize hL : del n d.files = L at s1 s2 hg4 hde
              have hLr : rising L := by rw [← hL]; exact rising_del hok.rise
              have hLl : L.length ≤ 4194302 := by rw [← hL]; exact Nat.le_trans (List.length_filter_le _ _) hl
              have hLg : getF m L = getF m d.files := by rw [← hL]; exact getF_del_ne (fun e => H'.out e.symm) _
              rw [hgm] at hLg
              have HL : Hid (del n d.files = L) := hL
              clear hL hde
              obtain ⟨p4, cap4, hpe4, hp4⟩ := rowp s2
              obtain ⟨rfl, rfl⟩ : p3 = p4 ∧ cap3 = cap4 := by simpa using hpe4
              obtain ⟨i0, i1, i2, i3, j0, j1, j2, j3⟩ := cells4 s1
              obtain ⟨m0, m1, m2, z0, z1, z2⟩ := cells3 hF4
              have hFb : w1.heap.size ≠ b := by omega
              go_wp2_with (first
                | (go_at_call 125; refine (yfind_any b cap3 p3 _ _ _ L m w4 (by omega) s1 hp4).mono ?_; rintro e w7 ⟨r, rfl, rfl, hF⟩; obtain ⟨k2, hk2, rfl, hkn2, hkf2⟩ := hF.some hLg; clear hkf2)
                | (go_at_call 128; refine (without_any p3 cap3 L k2 w7 (by omega) hk2 hp4).mono ?_; rintro e w8 ⟨v8, rfl, hbl8, hr8⟩; obtain ⟨p8, cap8, rfl, hp8⟩ := rowp hr8; obtain ⟨l0, l1, l2, l3, n0, n1, n2, n3⟩ := cells4 (block_at2 s1 hbl8); have hF8 := block_at2 hF4 hbl8; obtain ⟨a0, a1, a2, b0, b1, b2⟩ := cells3 hF8))
              obtain ⟨s3, s4⟩ := ref_newrow s1 hbl8 hr8
              have kp6 := (kp4.trans (T := fun _ => False) (Kp.of_below hbl8) (fun _ _ f => f.elim)).put (o := 1) (.inl sb) (.slice p8 (L.eraseIdx k2).length cap8)
              have hF6 := block_set_ne (b := b) (j := 1) hF8 hFb (.slice p8 (L.eraseIdx k2).length cap8)
              have hg6 : ∀ g', (Value.slice p8 (L.eraseIdx k2).length cap8).ownBlock = some g' → w1.heap.size + 1 ≤ g' := fun g' hg' => by have h1 := (hr8.lt g' hg').1; have h2 := lt_of_block hF4; omega
              have hde2 := del_erase hLr hk2
              rw [hkn2] at hde2
              have HL2 : Hid (del m L = L.eraseIdx k2) := hde2
              have hll2 : (L.eraseIdx k2).length ≤ 4194302 := Nat.le_trans (List.length_eraseIdx_le _ _) hLl
              clear hde2
              have hb5 := block_set_ne (b := w1.heap.size) (j := 0) s3 (by omega) (.string ⟨m.toArray⟩)
              have hF5 := block_set (j := 0) hF6 (.string ⟨m.toArray⟩)
              have hr5 : ((w8.setCell ⟨b, 1, none⟩ (.slice p8 (L.eraseIdx k2).length cap8)).setCell ⟨w1.heap.size, 0, none⟩ (.string ⟨m.toArray⟩)).ownsRow 0 172 3 (.slice p8 (L.eraseIdx k2).length cap8) (L.eraseIdx k2).length ((L.eraseIdx k2).flatMap fcells) := ownsRow_of_block s4 (fun g' hg' => Below.heap_setCell _ _ _ _ (by have := hg6 g' hg'; show g' ≠ w1.heap.size; omega))
              have kp5 := kp6.put (g := w1.heap.size) (o := 0) (.inr hsz4) (.string ⟨m.toArray⟩)
              generalize (w8.setCell ⟨b, 1, none⟩ (.slice p8 (L.eraseIdx k2).length cap8)).setCell ⟨w1.heap.size, 0, none⟩ (.string ⟨m.toArray⟩) = w5 at hb5 hF5 hr5 kp5 ⊢
              simp only [List.setIfInBounds_toArray, List.set_cons_zero] at hF5
              obtain ⟨p5, cap5, hpe5, hp5⟩ := rowp hr5
              obtain ⟨rfl, rfl⟩ : p8 = p5 ∧ cap8 = cap5 := by simpa using hpe5
              obtain ⟨x0, x1, x2, x3, y0, y1, y2, y3⟩ := cells4 hb5
              obtain ⟨o0, o1, o2, q0, q1, q2⟩ := cells3 hF5
              have hbl5 := lt_of_block hb5
              clear s1 s2 s3 s4 hF4 kp4 kp6 hF6 hF8 hp4 hr8 hbl8 hp8 i0 i1 i2 i3 j0 j1 j2 j3 m0 m1 m2 z0 z1 z2 l0 l1 l2 l3 n0 n1 n2 n3 a0 a1 a2 b0 b1 b2
              go_region_with (go_at_call 126; refine (put_any p8 cap8 (L.eraseIdx k2) (m, d.files[k].2) w5.drew (by omega) (show Rowp w5.drew p8 (L.eraseIdx k2) from hp5)).mono ?_; rintro e w6 ⟨v6, rfl, hbl6, hr6⟩; obtain ⟨p6, cap6, rfl, _⟩ := rowp hr6; obtain ⟨t0, t1, t2, t3, r0, r1, r2, r3⟩ := cells4 (block_at2 (w1 := w5.drew) hb5 hbl6))
              all_goals go_wp2
              all_goals go_ret
              all_goals
                obtain ⟨s1, s2⟩ := ref_newrow (w1 := w5.drew) hb5 hbl6 hr6
                rw [HX.out, HM.out, HL.out, HL2.out]
                exact ⟨rfl, ⟨_, s1, s2, .inl sb, fun g' hg' => .inr (by have := (hr6.lt g' hg').1; have := kp5.size; simp at *; omega)⟩, kpNw ((kp5.drew.trans (T := fun _ => False) (Kp.of_below (w := w5.drew) hbl6) (fun _ _ f => f.elim)).put (.inl sb) _)⟩


end Go.Proofs.YtoabedkcieindaaGreatDoor
