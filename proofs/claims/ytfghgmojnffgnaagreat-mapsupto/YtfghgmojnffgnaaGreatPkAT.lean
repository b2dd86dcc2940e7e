import Derived.Test.YtfghgmojnffgnaaGreatPkAS
import Derived.Deep.RegionWith
import Derived.Test.YtfghgmojnffgnaaGreatPkAQ
set_option maxHeartbeats 4000000
set_option maxRecDepth 20000
namespace Go.Proofs.YtfghgmojnffgnaaGreat
open Go.RowKit
theorem yRename_any (b : Nat) (d : Dk) (n m : Nm) (S : Nat -> Prop) (w : World) (hR : RefAt w S b d) (hok : d.Ok) (hl : d.files.length <= 4194302) (hn : m.length <= 1099511627776) :
   Calls Tryz.prog 50 #[.pointer (some ⟨b, 0, none⟩), .string ⟨n.toArray⟩, .string ⟨m.toArray⟩] w fun e w' => e = .returned (.int .i64 (d.rename n m).1) /\ RefAt w' (Nw S w) b (d.rename n m).2 /\ Kp S w w' := by
 obtain ⟨v, hb, hrow, sb, sg⟩ := id hR
 obtain ⟨p, cap, rfl, hp⟩ := rowp hrow
 obtain ⟨c0, c1, c2, c3, f0, f1, f2, f3⟩ := cells4 hb
 have hnm := named_any ⟨m.toArray⟩ w (by show m.length <= _; unfold maxLen; omega)
 have hfd := yfind_any b cap p _ _ _ d.files n w (by omega) hb hp
 by_cases hd : d.dead = true
 . have HX : Hid (d.rename n m = (4, d)) := by simp [Hid, Dk.rename, hd]
   clear hb
   go_enter Tryz.func50, Tryz.ntmps50
   go_wp2_with (first
     | (go_at_call 81; refine hnm.mono ?_; rintro e w' ⟨rfl, rfl⟩)
     | (go_at_call 84; refine hfd.mono ?_; rintro e w' ⟨r, rfl, rfl, hF⟩))
   go_ret
   rw [HX.out]
   exact ⟨rfl, hR.nw, Kp.refl _ _⟩
 . rw [Bool.not_eq_true] at hd
   rw [hd] at hb
   by_cases hk : nameOk m = false
   . have HX : Hid (d.rename n m = (1, d)) := by simp [Hid, Dk.rename, hd, hk]
     clear hb
     go_enter Tryz.func50, Tryz.ntmps50
     go_wp2_with (first
       | (go_at_call 81; refine hnm.mono ?_; rintro e w' ⟨rfl, rfl⟩; simp only [hk])
       | (go_at_call 84; refine hfd.mono ?_; rintro e w' ⟨r, rfl, rfl, hF⟩))
     go_ret
     rw [HX.out]
     exact ⟨rfl, hR.nw, Kp.refl _ _⟩
   . rw [Bool.not_eq_false] at hk
     cases hg : getF n d.files with
     | none =>
       have HX : Hid (d.rename n m = (2, d)) := by simp [Hid, Dk.rename, hd, hk, hg]
       clear hb
       go_enter Tryz.func50, Tryz.ntmps50
       go_wp2_with (first
         | (go_at_call 81; refine hnm.mono ?_; rintro e w' ⟨rfl, rfl⟩; simp only [hk])
         | (go_at_call 84; refine hfd.mono ?_; rintro e w' ⟨r, rfl, rfl, hF⟩; obtain rfl := hF.none hg))
       go_ret
       rw [HX.out]
       exact ⟨rfl, hR.nw, Kp.refl _ _⟩
     | some f =>
       by_cases hz : d.left = 0
       . have hbu := burnt_die hb hrow hz
         have HX : Hid (d.rename n m = (4, d.die)) := by simp [Hid, Dk.rename, hd, hk, hg, hz]
         clear hb
         go_enter Tryz.func50, Tryz.ntmps50
         go_wp2_with (first
           | (go_at_call 81; refine hnm.mono ?_; rintro e w' ⟨rfl, rfl⟩; simp only [hk])
           | (go_at_call 84; refine hfd.mono ?_; rintro e w' ⟨r, rfl, rfl, hF⟩; obtain ⟨k, hk', rfl, hkn, rfl⟩ := hF.some hg)
           | (go_at_call 83; refine hbu.mono ?_; rintro e w1 ⟨rfl, kp, hb1, hr1⟩))
         go_ret
         rw [HX.out]
         exact ⟨rfl, ⟨_, hb1, hr1, .inl sb, fun g hg => .inl (sg g hg)⟩, kp.b sb⟩
       . have hbu := burnt_go hb hrow hok.left0 hok.left1 hz
         have HX : Hid (d.rename n m = (0, ⟨d.quota, moved n m f d.files, max (d.left - 1) (-1), false, d.turn⟩)) := by simp [Hid, Dk.rename, hd, hk, hg, hz, Dk.burn]
         clear hb
         by_cases hnm' : n = m
         . have HM : Hid (moved n m f d.files = d.files) := by simp [Hid, moved, hnm']
           have heq : (n == m) = true := by simpa using hnm'
           have H' : Hid (n = m) := hnm'
           clear hnm'
           go_enter Tryz.func50, Tryz.ntmps50
           go_wp2_with (first
             | (go_at_call 81; refine hnm.mono ?_; rintro e w' ⟨rfl, rfl⟩; simp only [hk])
             | (go_at_call 84; refine hfd.mono ?_; rintro e w' ⟨r, rfl, rfl, hF⟩; obtain ⟨k, hk', rfl, hkn, rfl⟩ := hF.some hg)
             | (go_at_call 83; refine hbu.mono ?_; rintro e w1 ⟨rfl, kp, hb1, hr1⟩))
           go_ret
           rw [HX.out, HM.out]
           exact ⟨rfl, ⟨_, hb1, hr1, .inl sb, fun g hg => .inl (sg g hg)⟩, kp.b sb⟩
         . have HM : Hid (moved n m f d.files = ins (m, f) (del m (del n d.files))) := by simp [Hid, moved, hnm']
           have heq : (n == m) = false := by simpa using hnm'
           have H' : Hid (¬ n = m) := hnm'
           clear hnm'
           cases hgm : getF m d.files with
           | none =>
             go_enter Tryz.func50, Tryz.ntmps50
             go_wp2_with (first
               | (go_at_call 81; refine hnm.mono ?_; rintro e w' ⟨rfl, rfl⟩; simp only [hk]; clear hnm)
               | (go_at_call 84; refine hfd.mono ?_; rintro e w' ⟨r, rfl, rfl, hF⟩; obtain ⟨k, hk', rfl, hkn, rfl⟩ := hF.some hg; clear hfd)
               | (go_at_call 83; refine hbu.mono ?_; rintro e w1 ⟨rfl, kp, hb1, hr1⟩; clear hbu; obtain ⟨e0, e1, e2, e3, _, _, _, _⟩ := cells4 hb1; have hblt := lt_of_block hb1; obtain ⟨p', cap', hpe, hp'⟩ := rowp hr1; obtain ⟨rfl, rfl⟩ : p = p' /\ cap = cap' := (by simpa using hpe); obtain ⟨g, rfl, k0, k1, k2⟩ := hp' k hk')
               | (go_at_call 87; refine (without_any _ cap d.files k (w1.alloc _) (by omega) hk' (hp'.below ((Below.refl _ w1).alloc (Nat.le_refl _) _))).mono ?_; rintro e w3 ⟨v3, rfl, hbl3, hr3⟩; obtain ⟨p3, cap3, rfl, hp3⟩ := rowp hr3; have hb3 := block_at2 (block_alloc hb1) hbl3; have hF3 := block_at2 (block_new w1 _) hbl3; obtain ⟨i0, i1, i2, i3, j0, j1, j2, j3⟩ := cells4 hb3))
             obtain ⟨s1, s2⟩ := ref_newrow (block_alloc hb1) hbl3 hr3
             have kp4 := (((kp.b (S := Nw S w') (.inl sb)).alloc (.cells #[.string ⟨n.toArray⟩, .string ⟨d.files[k].2.bytes.toArray⟩, .int .i64 d.files[k].2.safe] 145)).trans (T := fun _ => False) (Kp.of_below hbl3) (fun _ _ f => f.elim)).put (o := 1) (.inl sb) (.slice p3 (d.files.eraseIdx k).length cap3)
             have hF4 := block_set_ne (b := b) (j := 1) hF3 (by omega) (.slice p3 (d.files.eraseIdx k).length cap3)
             have hsz4 : w'.heap.size <= w1.heap.size := kp.size
             have hg4 : ∀ g', (Value.slice p3 (d.files.eraseIdx k).length cap3).ownBlock = some g' -> w1.heap.size + 1 <= g' := fun g' hg' => by have := (hr3.lt g' hg').1; simpa using this
             clear kp hb3 hF3 hbl3 hr3 hp3 i0 i1 i2 i3 j0 j1 j2 j3 e0 e1 e2 e3 k0 k1 k2 c0 c1 c2 c3 f0 f1 f2 f3 hb1 hr1 hp' hp hrow
             generalize w3.setCell ⟨b, 1, none⟩ (.slice p3 (d.files.eraseIdx k).length cap3) = w4 at s1 s2 kp4 hF4 ⊢
             have hde := del_erase hok.rise hk'
             rw [hkn] at hde
             rw [<- hde] at s1 s2 hg4
             generalize hL : del n d.files = L at s1 s2 hg4 hde
             have hLr : rising L := by rw [<- hL]; exact rising_del hok.rise
             have hLl : L.length <= 4194302 := by rw [<- hL]; exact Nat.le_trans (List.length_filter_le _ _) hl
             have hLg : getF m L = getF m d.files := by rw [<- hL]; exact getF_del_ne (fun e => H'.out e.symm) _
             rw [hgm] at hLg
             have HL : Hid (del n d.files = L) := hL
             clear hL hde
             obtain ⟨p4, cap4, hpe4, hp4⟩ := rowp s2
             obtain ⟨rfl, rfl⟩ : p3 = p4 /\ cap3 = cap4 := by simpa using hpe4
             obtain ⟨i0, i1, i2, i3, j0, j1, j2, j3⟩ := cells4 s1
             obtain ⟨m0, m1, m2, z0, z1, z2⟩ := cells3 hF4
             go_wp2_with (go_at_call 84; refine (yfind_any b cap3 p3 _ _ _ L m w4 (by omega) s1 hp4).mono ?_; rintro e w7 ⟨r, rfl, rfl, hF⟩; obtain rfl := hF.none hLg)
             have hb5 := block_set_ne (b := w1.heap.size) (j := 0) s1 (by omega) (.string ⟨m.toArray⟩)
             have hF5 := block_set (j := 0) hF4 (.string ⟨m.toArray⟩)
             have hr5 : (w7.setCell ⟨w1.heap.size, 0, none⟩ (.string ⟨m.toArray⟩)).ownsRow 0 145 3 (.slice p3 L.length cap3) L.length (L.flatMap fcells) := ownsRow_of_block s2 (fun g' hg' => Below.heap_setCell _ _ _ _ (by have := hg4 g' hg'; show g' ≠ w1.heap.size; omega))
             have kp5 := kp4.put (g := w1.heap.size) (o := 0) (.inr hsz4) (.string ⟨m.toArray⟩)
             generalize w7.setCell ⟨w1.heap.size, 0, none⟩ (.string ⟨m.toArray⟩) = w5 at hb5 hF5 hr5 kp5 ⊢
             simp only [List.setIfInBounds_toArray, List.set_cons_zero] at hF5
             obtain ⟨p5, cap5, hpe5, hp5⟩ := rowp hr5
             obtain ⟨rfl, rfl⟩ : p3 = p5 /\ cap3 = cap5 := by simpa using hpe5
             obtain ⟨x0, x1, x2, x3, y0, y1, y2, y3⟩ := cells4 hb5
             obtain ⟨o0, o1, o2, q0, q1, q2⟩ := cells3 hF5
             have hbl5 := lt_of_block hb5
             clear s1 s2 hF4 kp4 hp4 i0 i1 i2 i3 j0 j1 j2 j3 m0 m1 m2 z0 z1 z2
             go_region_with (go_at_call 85; refine (put_any p3 cap3 L (m, d.files[k].2) w5.drew (by omega) (show Rowp w5.drew p3 L from hp5)).mono ?_; rintro e w6 ⟨v6, rfl, hbl6, hr6⟩; obtain ⟨p6, cap6, rfl, _⟩ := rowp hr6; obtain ⟨t0, t1, t2, t3, r0, r1, r2, r3⟩ := cells4 (block_at2 (w1 := w5.drew) hb5 hbl6))
             all_goals go_wp2
             all_goals go_ret
             all_goals
               obtain ⟨s1, s2⟩ := ref_newrow (w1 := w5.drew) hb5 hbl6 hr6
               rw [HX.out, HM.out, HL.out, del_none hLg]
               exact ⟨rfl, ⟨_, s1, s2, .inl sb, fun g' hg' => .inr (by have := (hr6.lt g' hg').1; have := kp5.size; simp at *; omega)⟩, kpNw ((kp5.drew.trans (T := fun _ => False) (Kp.of_below (w := w5.drew) hbl6) (fun _ _ f => f.elim)).put (.inl sb) _)⟩
           | some f2 =>
             go_enter Tryz.func50, Tryz.ntmps50
             go_wp2_with (first
               | (go_at_call 81; refine hnm.mono ?_; rintro e w' ⟨rfl, rfl⟩; simp only [hk]; clear hnm)
               | (go_at_call 84; refine hfd.mono ?_; rintro e w' ⟨r, rfl, rfl, hF⟩; obtain ⟨k, hk', rfl, hkn, rfl⟩ := hF.some hg; clear hfd)
               | (go_at_call 83; refine hbu.mono ?_; rintro e w1 ⟨rfl, kp, hb1, hr1⟩; clear hbu; obtain ⟨e0, e1, e2, e3, _, _, _, _⟩ := cells4 hb1; have hblt := lt_of_block hb1; obtain ⟨p', cap', hpe, hp'⟩ := rowp hr1; obtain ⟨rfl, rfl⟩ : p = p' /\ cap = cap' := (by simpa using hpe); obtain ⟨g, rfl, k0, k1, k2⟩ := hp' k hk')
               | (go_at_call 87; refine (without_any _ cap d.files k (w1.alloc _) (by omega) hk' (hp'.below ((Below.refl _ w1).alloc (Nat.le_refl _) _))).mono ?_; rintro e w3 ⟨v3, rfl, hbl3, hr3⟩; obtain ⟨p3, cap3, rfl, hp3⟩ := rowp hr3; have hb3 := block_at2 (block_alloc hb1) hbl3; have hF3 := block_at2 (block_new w1 _) hbl3; obtain ⟨i0, i1, i2, i3, j0, j1, j2, j3⟩ := cells4 hb3))
             obtain ⟨s1, s2⟩ := ref_newrow (block_alloc hb1) hbl3 hr3
             have kp4 := (((kp.b (S := Nw S w') (.inl sb)).alloc (.cells #[.string ⟨n.toArray⟩, .string ⟨d.files[k].2.bytes.toArray⟩, .int .i64 d.files[k].2.safe] 145)).trans (T := fun _ => False) (Kp.of_below hbl3) (fun _ _ f => f.elim)).put (o := 1) (.inl sb) (.slice p3 (d.files.eraseIdx k).length cap3)
             have hF4 := block_set_ne (b := b) (j := 1) hF3 (by omega) (.slice p3 (d.files.eraseIdx k).length cap3)
             have hsz4 : w'.heap.size <= w1.heap.size := kp.size
             have hg4 : ∀ g', (Value.slice p3 (d.files.eraseIdx k).length cap3).ownBlock = some g' -> w1.heap.size + 1 <= g' := fun g' hg' => by have := (hr3.lt g' hg').1; simpa using this
             clear kp hb3 hF3 hbl3 hr3 hp3 i0 i1 i2 i3 j0 j1 j2 j3 e0 e1 e2 e3 k0 k1 k2 c0 c1 c2 c3 f0 f1 f2 f3 hb1 hr1 hp' hp hrow
             generalize w3.setCell ⟨b, 1, none⟩ (.slice p3 (d.files.eraseIdx k).length cap3) = w4 at s1 s2 kp4 hF4 ⊢
             have hde := del_erase hok.rise hk'
             rw [hkn] at hde
             rw [<- hde] at s1 s2 hg4
             generalize hL : del n d.files = L at s1 s2 hg4 hde
             have hLr : rising L := by rw [<- hL]; exact rising_del hok.rise
             have hLl : L.length <= 4194302 := by rw [<- hL]; exact Nat.le_trans (List.length_filter_le _ _) hl
             have hLg : getF m L = getF m d.files := by rw [<- hL]; exact getF_del_ne (fun e => H'.out e.symm) _
             rw [hgm] at hLg
             have HL : Hid (del n d.files = L) := hL
             clear hL hde
             obtain ⟨p4, cap4, hpe4, hp4⟩ := rowp s2
             obtain ⟨rfl, rfl⟩ : p3 = p4 /\ cap3 = cap4 := by simpa using hpe4
             obtain ⟨i0, i1, i2, i3, j0, j1, j2, j3⟩ := cells4 s1
             obtain ⟨m0, m1, m2, z0, z1, z2⟩ := cells3 hF4
             have hFb : w1.heap.size ≠ b := by omega
             go_wp2_with (first
               | (go_at_call 84; refine (yfind_any b cap3 p3 _ _ _ L m w4 (by omega) s1 hp4).mono ?_; rintro e w7 ⟨r, rfl, rfl, hF⟩; obtain ⟨k2, hk2, rfl, hkn2, hkf2⟩ := hF.some hLg; clear hkf2)
               | (go_at_call 87; refine (without_any p3 cap3 L k2 w7 (by omega) hk2 hp4).mono ?_; rintro e w8 ⟨v8, rfl, hbl8, hr8⟩; obtain ⟨p8, cap8, rfl, hp8⟩ := rowp hr8; obtain ⟨l0, l1, l2, l3, n0, n1, n2, n3⟩ := cells4 (block_at2 s1 hbl8); have hF8 := block_at2 hF4 hbl8; obtain ⟨a0, a1, a2, b0, b1, b2⟩ := cells3 hF8))
             obtain ⟨s3, s4⟩ := ref_newrow s1 hbl8 hr8
             have kp6 := (kp4.trans (T := fun _ => False) (Kp.of_below hbl8) (fun _ _ f => f.elim)).put (o := 1) (.inl sb) (.slice p8 (L.eraseIdx k2).length cap8)
             have hF6 := block_set_ne (b := b) (j := 1) hF8 hFb (.slice p8 (L.eraseIdx k2).length cap8)
             have hg6 : ∀ g', (Value.slice p8 (L.eraseIdx k2).length cap8).ownBlock = some g' -> w1.heap.size + 1 <= g' := fun g' hg' => by have h1 := (hr8.lt g' hg').1; have h2 := lt_of_block hF4; omega
             have hde2 := del_erase hLr hk2
             rw [hkn2] at hde2
             have HL2 : Hid (del m L = L.eraseIdx k2) := hde2
             have hll2 : (L.eraseIdx k2).length <= 4194302 := Nat.le_trans (List.length_eraseIdx_le _ _) hLl
             clear hde2
             have hb5 := block_set_ne (b := w1.heap.size) (j := 0) s3 (by omega) (.string ⟨m.toArray⟩)
             have hF5 := block_set (j := 0) hF6 (.string ⟨m.toArray⟩)
             have hr5 : ((w8.setCell ⟨b, 1, none⟩ (.slice p8 (L.eraseIdx k2).length cap8)).setCell ⟨w1.heap.size, 0, none⟩ (.string ⟨m.toArray⟩)).ownsRow 0 145 3 (.slice p8 (L.eraseIdx k2).length cap8) (L.eraseIdx k2).length ((L.eraseIdx k2).flatMap fcells) := ownsRow_of_block s4 (fun g' hg' => Below.heap_setCell _ _ _ _ (by have := hg6 g' hg'; show g' ≠ w1.heap.size; omega))
             have kp5 := kp6.put (g := w1.heap.size) (o := 0) (.inr hsz4) (.string ⟨m.toArray⟩)
             generalize (w8.setCell ⟨b, 1, none⟩ (.slice p8 (L.eraseIdx k2).length cap8)).setCell ⟨w1.heap.size, 0, none⟩ (.string ⟨m.toArray⟩) = w5 at hb5 hF5 hr5 kp5 ⊢
             simp only [List.setIfInBounds_toArray, List.set_cons_zero] at hF5
             obtain ⟨p5, cap5, hpe5, hp5⟩ := rowp hr5
             obtain ⟨rfl, rfl⟩ : p8 = p5 /\ cap8 = cap5 := by simpa using hpe5
             obtain ⟨x0, x1, x2, x3, y0, y1, y2, y3⟩ := cells4 hb5
             obtain ⟨o0, o1, o2, q0, q1, q2⟩ := cells3 hF5
             have hbl5 := lt_of_block hb5
             clear s1 s2 s3 s4 hF4 kp4 kp6 hF6 hF8 hp4 hr8 hbl8 hp8 i0 i1 i2 i3 j0 j1 j2 j3 m0 m1 m2 z0 z1 z2 l0 l1 l2 l3 n0 n1 n2 n3 a0 a1 a2 b0 b1 b2
             go_region_with (go_at_call 85; refine (put_any p8 cap8 (L.eraseIdx k2) (m, d.files[k].2) w5.drew (by omega) (show Rowp w5.drew p8 (L.eraseIdx k2) from hp5)).mono ?_; rintro e w6 ⟨v6, rfl, hbl6, hr6⟩; obtain ⟨p6, cap6, rfl, _⟩ := rowp hr6; obtain ⟨t0, t1, t2, t3, r0, r1, r2, r3⟩ := cells4 (block_at2 (w1 := w5.drew) hb5 hbl6))
             all_goals go_wp2
             all_goals go_ret
             all_goals
               obtain ⟨s1, s2⟩ := ref_newrow (w1 := w5.drew) hb5 hbl6 hr6
               rw [HX.out, HM.out, HL.out, HL2.out]
               exact ⟨rfl, ⟨_, s1, s2, .inl sb, fun g' hg' => .inr (by have := (hr6.lt g' hg').1; have := kp5.size; simp at *; omega)⟩, kpNw ((kp5.drew.trans (T := fun _ => False) (Kp.of_below (w := w5.drew) hbl6) (fun _ _ f => f.elim)).put (.inl sb) _)⟩
theorem yNames_any (b : Nat) (d : Dk) (S : Nat -> Prop) (w : World) (hR : RefAt w S b d) (hl : d.files.length <= 4194303) (hd : d.dead = false) :
   Calls Tryz.prog 58 #[.pointer (some ⟨b, 0, none⟩)] w fun e w' => ∃ v, e = .returned (.tuple #[v, .int .i64 0]) /\ Below w.heap.size w w' /\ OwnS w' w.heap.size v (nmsOf d.files) := by
 obtain ⟨v, hb, hrow, sb, sg⟩ := id hR
 obtain ⟨p, cap, rfl, hp⟩ := rowp hrow
 rw [hd] at hb
 obtain ⟨i0, hi, hz0, hz1, hz2⟩ := info_parts Tryz.info9
 obtain ⟨c0, c1, c2, c3, f0, f1, f2, f3⟩ := cells4 hb
 have hblt := lt_of_block hb
 generalize hL : d.files = L at *
 clear hL
 clear hb hR hrow
 go_enter Tryz.func58, Tryz.ntmps58
 go_wp2
 go_loopw [4, 5] (fun v i wr => ∃ j : Nat, j <= L.length /\ i = .int .i64 j /\ Below w.heap.size w wr /\ OwnS wr w.heap.size v (nmsOf (L.take j))) (fun _ i _ => L.length - (intOf i).toNat)
 case atStart => exact ⟨0, Nat.zero_le _, rfl, Below.refl _ _, World.ownsRow_nil _ _ _ _⟩
 case round =>
   obtain ⟨j, hj, rfl, hbl, hown⟩ := hrel
   have hsz := hbl.size
   have e1 := (hbl.cell (p := ⟨b, 1, none⟩) hblt).trans c1
   clear c0 c1 c2 c3 f0 f1 f2 f3
   by_cases hlt : j < L.length
   . obtain ⟨g, rfl, d0, d1, d2⟩ := (hp.below hbl) j hlt
     have hll : (nmsOf (L.take j)).length <= 4194303 := by simp [nmsOf]; omega
     have HT : Hid (nmsOf (L.take (j + 1)) = nmsOf (L.take j) ++ [L[j].1]) := by unfold nmsOf; rw [List.take_succ_eq_append_getElem hlt, List.map_append]; rfl
     generalize hT : nmsOf (L.take j) = T at *
     clear hT
     unfold OwnS at hown
     go_wp2_with (first
       | (at_builtin; refine wpList_append_own _ rfl (.tmp 19) (.tmp 28) 106 rfl w.heap.size 9 i0 _ 1 16 Tryz.underlying106 hi hz0 hz1 hz2 rfl (by decide) _ _ _ rfl (hown.alloc _) ⟨wr.heap.size, 0, none⟩ 1 1 [encS L[j].1] rfl rfl (one_at _ _ _) (by intro u hu; simp at hu; subst hu; rfl) (by unfold maxLen; omega) (by omega) (by simp; omega) ?_; intro v' w1 hown' hgrow _)
       | go_in)
     have HO : Hid (OwnS w1 w.heap.size v' (T ++ [L[j].1])) := own_snoc1 hown'
     have HB : Hid (Below w.heap.size w w1) := (hbl.alloc hsz _).grown hgrow (by simp; omega) (fun q hq => (hown.lt q hq).1)
     clear hown' hgrow hown d0 d1 d2
     go_wp2
     go_roundw
     case rel => exact ⟨j + 1, by omega, by go_num, HB.out, by rw [HT.out]; exact HO.out⟩
     case measure => simp [intOf]; omega
   . have : j = L.length := by omega
     subst this
     rw [List.take_length] at hown
     go_wp2
     go_ret2
     exact ⟨_, rfl, hbl, hown⟩
theorem yNames_dead (b : Nat) (d : Dk) (S : Nat -> Prop) (w : World) (hR : RefAt w S b d) (hd : d.dead = true) :
   Calls Tryz.prog 58 #[.pointer (some ⟨b, 0, none⟩)] w fun e w' => e = .returned (.tuple #[.slice none 0 0, .int .i64 4]) /\ w' = w := by
 obtain ⟨v, hb, hrow, sb, sg⟩ := id hR
 rw [hd] at hb
 obtain ⟨c0, c1, c2, c3, f0, f1, f2, f3⟩ := cells4 hb
 clear hb
 go_enter Tryz.func58, Tryz.ntmps58
 go_wp2
 go_ret2
 exact ⟨rfl, rfl⟩
theorem crash_step {S : Nat -> Prop} {w wr : World} {b g cap j : Nat} {quota left dd : Value} {fs : List (Nm × Fl)} {ks : List Int} {i : Int} (m : Nat) (kp : Kp S w wr) (hbr : wr.heap[b]? = some (.cells #[quota, .slice (some ⟨g, 0, none⟩) fs.length cap, left, dd] 141))
   (hrr : wr.ownsRow 0 145 3 (.slice (some ⟨g, 0, none⟩) fs.length cap) fs.length ((crashK ks fs j).flatMap fcells)) (hlt : j < fs.length) (hi : i = (keptN (ks.getD j 0) fs[j].2 : Nat)) (hm : (m : Int) = i) (sg : S g) :
   Kp S w ((wr.setCell ⟨g, j * 3 + 1, none⟩ (.string ((⟨fs[j].2.bytes.toArray⟩ : ByteArray).extract 0 m))).setCell ⟨g, j * 3 + 2, none⟩ (.int .i64 i)).drew /\
   ((wr.setCell ⟨g, j * 3 + 1, none⟩ (.string ((⟨fs[j].2.bytes.toArray⟩ : ByteArray).extract 0 m))).setCell ⟨g, j * 3 + 2, none⟩ (.int .i64 i)).drew.heap[b]? = some (.cells #[quota, .slice (some ⟨g, 0, none⟩) fs.length cap, left, dd] 141) /\
   ((wr.setCell ⟨g, j * 3 + 1, none⟩ (.string ((⟨fs[j].2.bytes.toArray⟩ : ByteArray).extract 0 m))).setCell ⟨g, j * 3 + 2, none⟩ (.int .i64 i)).drew.ownsRow 0 145 3 (.slice (some ⟨g, 0, none⟩) fs.length cap) fs.length ((crashK ks fs (j + 1)).flatMap fcells) := by
 obtain rfl : m = keptN (ks.getD j 0) fs[j].2 := by omega
 subst hi
 have hlen := crashK_len ks fs j
 have hj : j < (crashK ks fs j).length := by omega
 have hat := crashK_here ks fs j hlt
 rw [ByteArray.extract_mk]
 simp only [List.drop_zero, Nat.sub_zero]
 refine ⟨((kp.put sg _).put sg _).drew, ?_, ?_⟩
 . have hne : g ≠ b := row_ne hbr hrr rfl (by decide)
   exact block_set_ne (block_set_ne hbr (Ne.symm hne) _) (Ne.symm hne) _
 . have h1 : wr.ownsRow 0 145 3 (.slice (some ⟨g, 0, none⟩) (crashK ks fs j).length cap) (crashK ks fs j).length ((crashK ks fs j).flatMap fcells) := by rw [hlen]; exact hrr
   have h2 := (h1.stored (j * 3 + 1) (.string ⟨(fs[j].2.bytes.take (keptN (ks.getD j 0) fs[j].2)).toArray⟩)).1
   rw [flat_set (crashK ks fs j) j 1 _ (fs[j].1, ⟨fs[j].2.bytes.take (keptN (ks.getD j 0) fs[j].2), fs[j].2.safe⟩) hj (by rw [hat]; simp [fcells]) (by omega)] at h2
   have h3 := (h2.stored (j * 3 + 2) (.int .i64 (keptN (ks.getD j 0) fs[j].2 : Nat))).1
   have hj2 : j < ((crashK ks fs j).set j (fs[j].1, ⟨fs[j].2.bytes.take (keptN (ks.getD j 0) fs[j].2), fs[j].2.safe⟩)).length := by simpa using hj
   rw [flat_set _ j 2 _ (fs[j].1, kept (ks.getD j 0) fs[j].2) hj2 (by simp [fcells, kept, keptN]) (by omega), List.set_set, <- crashK_succ ks fs j hlt, hlen] at h3
   exact h3
theorem yCrash_any (b : Nat) (d : Dk) (q : Option Addr) (qc : Nat) (ks : List Int) (S : Nat -> Prop) (w : World) (hR : RefAt w S b d) (hok : d.Ok) (hl : d.files.length <= 4194303) (hkl : ks.length <= 4611686018427387904) (hi : Intp w q ks) (hq : ∀ a, q = some a -> 0 < ks.length -> ¬ S a.block) :
   Calls Tryz.prog 95 #[.pointer (some ⟨b, 0, none⟩), .slice q ks.length qc] w fun e w' => e = .returned (.tuple #[]) /\ RefAt w' (Nw S w) b (d.crash ks) /\ Kp S w w' := by
 obtain ⟨v, hb, hrow, sb, sg⟩ := id hR
 obtain ⟨p, cap, rfl, hp⟩ := rowp hrow
 have hsafe : ∀ i (h : i < d.files.length), d.files[i].2.safe <= d.files[i].2.bytes.length /\ d.files[i].2.bytes.length <= 1048576 := fun i h => ⟨hok.safe _ (List.getElem_mem h), Nat.le_trans (used_ge d.files i h) (Nat.le_trans hok.used hok.quota)⟩
 obtain ⟨quota, fs, left, dead, turn⟩ := d
 simp only at *
 go_enter Tryz.func95, Tryz.ntmps95
 go_wp2
 go_loopw [4] (fun i wr => ∃ j : Nat, j <= fs.length /\ i = .int .i64 j /\ Kp S w wr /\ wr.heap[b]? = some (.cells #[.int .i64 quota, .slice p fs.length cap, .int .i64 left, .bool dead] 141) /\ wr.ownsRow 0 145 3 (.slice p fs.length cap) fs.length ((crashK ks fs j).flatMap fcells)) (fun i _ => fs.length - (intOf i).toNat)
 case atStart => exact ⟨0, Nat.zero_le _, rfl, Kp.refl _ _, hb, by simpa [crashK] using hrow⟩
 case round =>
   obtain ⟨j, hj, rfl, kp, hbr, hrr⟩ := hrel
   have hrr' : wr.ownsRow 0 145 3 (.slice p (crashK ks fs j).length cap) (crashK ks fs j).length ((crashK ks fs j).flatMap fcells) := by rw [crashK_len]; exact hrr
   obtain ⟨c0, c1, c2, c3, f0, f1, f2, f3⟩ := cells4 hbr
   by_cases hlt : j < fs.length
   . obtain ⟨p', cap', hpe, hp'⟩ := rowp hrr'
     obtain ⟨rfl, rfl⟩ : p = p' /\ cap = cap' := by simpa using hpe
     obtain ⟨g, rfl, d0, d1, d2⟩ := hp' j (by rw [crashK_len]; exact hlt)
     rw [crashK_here ks fs j hlt] at d0 d1 d2
     have z1 := hrr.frozenAt (j * 3 + 1)
     have z2 := hrr.frozenAt (j * 3 + 2)
     obtain ⟨hs1, hs2⟩ := hsafe j hlt
     have hik := hi.kept kp hq
     have HR : Hid (wr.ownsRow 0 145 3 (.slice (some ⟨g, 0, none⟩) fs.length cap) fs.length ((crashK ks fs j).flatMap fcells)) := hrr
     have HB : Hid (wr.heap[b]? = some (.cells #[.int .i64 quota, .slice (some ⟨g, 0, none⟩) fs.length cap, .int .i64 left, .bool dead] 141)) := hbr
     clear hrr hrr' hp' hp hb hrow hpe hbr hi hsafe
     have hne : g ≠ b := row_ne HB.out HR.out rfl (by decide)
     have hne' : b ≠ g := hne.symm
     have KP : Hid (Kp S w wr) := kp
     clear kp
     have sg' := sg g rfl
     by_cases hjk : j < ks.length
     . obtain ⟨gk, ok, rfl, hck⟩ := hik j hjk
       clear hik hq
       by_cases h0 : 0 < ks[j]
       . by_cases h1 : ks[j] < (fs[j].2.bytes.length : Int) - (fs[j].2.safe : Int)
         . have HI : Hid ((fs[j].2.safe : Int) + ks[j] = (keptN (ks.getD j 0) fs[j].2 : Nat)) := by
             show _ = _; rw [getD_in hjk]; unfold keptN; omega
           go_wp2
           go_region
           go_wp2
           go_roundw
           case rel => exact ⟨j + 1, by omega, by go_num, crash_step _ KP.out HB.out HR.out hlt HI.out (by omega) sg'⟩
           case measure => simp [intOf]; omega
         . have HI : Hid ((fs[j].2.safe : Int) + ((fs[j].2.bytes.length : Int) - (fs[j].2.safe : Int)) = (keptN (ks.getD j 0) fs[j].2 : Nat)) := by
             show _ = _; rw [getD_in hjk]; unfold keptN; omega
           go_wp2
           go_region
           go_wp2
           go_roundw
           case rel => exact ⟨j + 1, by omega, by go_num, crash_step _ KP.out HB.out HR.out hlt HI.out (by omega) sg'⟩
           case measure => simp [intOf]; omega
       . have HI : Hid ((fs[j].2.safe : Int) = (keptN (ks.getD j 0) fs[j].2 : Nat)) := by
           show _ = _; rw [getD_in hjk]; unfold keptN; omega
         go_wp2
         go_region
         go_wp2
         go_roundw
         case rel => exact ⟨j + 1, by omega, by go_num, crash_step _ KP.out HB.out HR.out hlt HI.out (by omega) sg'⟩
         case measure => simp [intOf]; omega
     . have HI : Hid ((fs[j].2.safe : Int) = (keptN (ks.getD j 0) fs[j].2 : Nat)) := by
         show _ = _; rw [getD_out (by omega)]; unfold keptN; omega
       clear hik hq
       go_wp2
       go_region
       go_wp2
       go_roundw
       case rel => exact ⟨j + 1, by omega, by go_num, crash_step _ KP.out HB.out HR.out hlt HI.out (by omega) sg'⟩
       case measure => simp [intOf]; omega
   . have : j = fs.length := by omega
     subst this
     rw [crashK_end] at hrr
     have hne : ∀ g, (Value.slice p fs.length cap).ownBlock = some g -> g ≠ b := fun g hg => row_ne hbr hrr hg (by decide)
     have HB : Hid (wr.heap[b]? = some (.cells #[.int .i64 quota, .slice p fs.length cap, .int .i64 left, .bool dead] 141)) := hbr
     clear hbr hrr' hi hq hb hp hrow
     go_wp2
     go_end0
     refine ⟨rfl, ⟨.slice p fs.length cap, (block_set (block_set HB.out _) _).trans rfl, ?_, .inl sb, fun g hg => .inl (sg g hg)⟩, (kp.put sb _).put sb _⟩
     show World.ownsRow _ _ _ _ _ (crashL ks fs).length ((crashL ks fs).flatMap fcells)
     rw [crashL_len]
     exact ownsRow_of_block hrr (fun g hg => (Below.heap_setCell _ _ _ _ (hne g hg)).trans (Below.heap_setCell _ _ _ _ (hne g hg)))
end Go.Proofs.YtfghgmojnffgnaaGreat
namespace Go.Proofs.YtfghgmojnffgnaaGreat
open Go.RowKit Go.Maps Go.Sort
theorem num_any (a : Int) (w : World) : Calls Tryz.prog 44 #[.int .i64 a] w fun e w' => e = .returned (.int .i64 a) /\ w' = w := by
 go_enter Tryz.func44, Tryz.ntmps44
 go_wp2
 go_ret
 exact ⟨rfl, rfl⟩
def letter (m : Nat) : UInt8 := UInt8.ofNat (97 + m % 26)
def textOf (m : Nat) : List UInt8 := [109, 97, 114, 107, 32, letter m, letter (m / 26)]
theorem letter_toNat (m : Nat) : (letter m).toNat = 97 + m % 26 := by
 unfold letter
 rw [UInt8.toNat_ofNat']
 omega
theorem text_any (m : Nat) (hm : m <= 1099511627776) (w : World) : Calls Tryz.prog 65 #[.int .i64 m] w fun e w' => e = .returned (.string ⟨(textOf m).toArray⟩) /\ Below w.heap.size w w' := by
 have l0 := letter_toNat m
 have l1 := letter_toNat (m / 26)
 have hcv : (convert 167 9 (.slice (some ⟨w.heap.size, 0, none⟩) 2 2)).run Tryz.prog (w.alloc (.cells #[encB (letter m), encB (letter (m / 26))] 5)) = .ok (.string ⟨[letter m, letter (m / 26)].toArray⟩) (w.alloc (.cells #[encB (letter m), encB (letter (m / 26))] 5)) :=
   conv_bytes (l := [letter m, letter (m / 26)]) (base := 0) (World.ownsRow_lit (size := 1) w #[encB (letter m), encB (letter (m / 26))] 2 (Nat.zero_le _) (by unfold maxLen; omega) rfl)
 unfold encB at hcv
 rw [l0, l1] at hcv
 have e0 : ((97 + m % 26 : Nat) : Int) = 97 + (m : Int) % 26 := by omega
 have e1 : ((97 + m / 26 % 26 : Nat) : Int) = 97 + (m : Int) / 26 % 26 := by omega
 rw [e0, e1] at hcv
 clear e0 e1 l0 l1
 go_enter Tryz.func65, Tryz.ntmps65
 go_wp2
 go_ret
 exact ⟨rfl, (Below.refl _ _).alloc (Nat.le_refl _) _⟩
def Strp (w : World) (a : Option Addr) (l : List (List UInt8)) : Prop := ∀ i (_ : i < l.length), ∃ g, a = some ⟨g, 0, none⟩ /\ w.cell? ⟨g, i, none⟩ = some (encS l[i])
theorem sameTexts_any (a b : Option Addr) (ca cb : Nat) (l : List (List UInt8)) (w : World) (hl : l.length <= 4194304) (ha : Strp w a l) (hb : Strp w b l) :
   Calls Tryz.prog 59 #[.slice a l.length ca, .slice b l.length cb] w fun e w' => e = .returned (.bool true) /\ ∃ n, w' = w.drewN n := by
 go_enter Tryz.func59, Tryz.ntmps59
 go_wp2
 go_loopw [5] (fun i wr => ∃ j n : Nat, j <= l.length /\ i = .int .i64 j /\ wr = w.drewN n) (fun i _ => l.length - (intOf i).toNat)
 case atStart => exact ⟨0, 0, Nat.zero_le _, rfl, rfl⟩
 case round =>
   obtain ⟨j, n, hj, rfl, rfl⟩ := hrel
   by_cases hlt : j < l.length
   . obtain ⟨g, rfl, hc⟩ := ha j hlt
     obtain ⟨g', rfl, hc'⟩ := hb j hlt
     unfold encS at hc hc'
     clear ha hb
     go_wp2
     go_quiet (fail)
     go_wp2
     go_roundw
     case rel => exact ⟨j + 1, _, by omega, by go_num, rfl⟩
     case measure => simp [intOf]; omega
   . go_wp2
     go_ret
     exact ⟨rfl, _, rfl⟩
theorem pick_any (c n : Int) (w : World) (hc0 : -9223372036854775808 <= c) (hc1 : c <= 9223372036854775807) (hn : 0 < n) (hn2 : n <= 4194304) :
   Calls Tryz.prog 61 #[.int .i64 c, .int .i64 n] w fun e w' => ∃ r : Int, e = .returned (.int .i64 r) /\ 0 <= r /\ r < n /\ w' = w := by
 by_cases h : c < 0
 . have HM : Hid (-(c + 1).tmod n = (-(c + 1)) % n) := by
     show _ = _
     rw [<- Int.neg_tmod, Int.tmod_eq_emod_of_nonneg (by omega)]
   go_enter Tryz.func61, Tryz.ntmps61
   go_wp2
   go_ret
   exact ⟨_, rfl, by rw [HM.out]; exact Int.emod_nonneg _ (by omega), by rw [HM.out]; exact Int.emod_lt_of_pos _ hn, rfl⟩
 . go_enter Tryz.func61, Tryz.ntmps61
   go_wp2
   go_ret
   exact ⟨_, rfl, Int.emod_nonneg _ (by omega), Int.emod_lt_of_pos _ hn, rfl⟩
end Go.Proofs.YtfghgmojnffgnaaGreat
