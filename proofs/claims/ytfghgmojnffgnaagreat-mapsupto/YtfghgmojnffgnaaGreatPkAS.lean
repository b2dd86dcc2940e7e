import Derived.Test.YtfghgmojnffgnaaGreatPkAR
set_option maxHeartbeats 4000000
set_option maxRecDepth 20000
namespace Go.Proofs.YtfghgmojnffgnaaGreat
open Go.RowKit
def RefAt (w : World) (S : Nat -> Prop) (b : Nat) (d : Dk) : Prop :=
 ∃ v, w.heap[b]? = some (.cells #[.int .i64 d.quota, v, .int .i64 d.left, .bool d.dead] 141) /\ w.ownsRow 0 145 3 v d.files.length (d.files.flatMap fcells) /\ S b /\ (∀ g, v.ownBlock = some g -> S g)
theorem RefAt.mono {w : World} {S T : Nat -> Prop} {b : Nat} {d : Dk} (h : RefAt w S b d) (hT : ∀ k, k < w.heap.size -> S k -> T k) : RefAt w T b d := by
 obtain ⟨v, h1, h2, h3, h4⟩ := h
 exact ⟨v, h1, h2, hT _ (lt_of_block h1) h3, fun g hg => hT g (h2.lt g hg).2 (h4 g hg)⟩
theorem RefAt.kept {w w' : World} {S T : Nat -> Prop} {b : Nat} {d : Dk} (h : RefAt w S b d) (k : Kp T w w') (hT : ∀ k, S k -> ¬ T k) : RefAt w' S b d := by
 obtain ⟨v, h1, h2, h3, h4⟩ := h
 exact ⟨v, k.at h1 (hT _ h3), k.row h2 (fun g hg => hT _ (h4 g hg)), h3, h4⟩
theorem RefAt.nw {w w' : World} {S : Nat -> Prop} {b : Nat} {d : Dk} (h : RefAt w' S b d) : RefAt w' (Nw S w) b d := h.mono (fun _ _ s => .inl s)
theorem ref_store {w1 : World} {b g cap k j : Nat} {q l dd : Value} {fs : List (Nm × Fl)} {u : Value} {y : Nm × Fl} (hb1 : w1.heap[b]? = some (.cells #[q, .slice (some ⟨g, 0, none⟩) fs.length cap, l, dd] 141)) (hr1 : w1.ownsRow 0 145 3 (.slice (some ⟨g, 0, none⟩) fs.length cap) fs.length (fs.flatMap fcells))
   (hk : k < fs.length) (hset : (fcells fs[k]).set j u = fcells y) (hj : j < 3) :
   (w1.setCell ⟨g, k * 3 + j, none⟩ u).heap[b]? = some (.cells #[q, .slice (some ⟨g, 0, none⟩) (fs.set k y).length cap, l, dd] 141) /\
   (w1.setCell ⟨g, k * 3 + j, none⟩ u).ownsRow 0 145 3 (.slice (some ⟨g, 0, none⟩) (fs.set k y).length cap) (fs.set k y).length ((fs.set k y).flatMap fcells) := by
 have hne : g ≠ b := row_ne hb1 hr1 rfl (by decide)
 rw [List.length_set]
 refine ⟨block_set_ne hb1 (Ne.symm hne) u, ?_⟩
 have := (hr1.stored (k * 3 + j) u).1
 rwa [flat_set fs k j u y hk hset hj] at this
theorem burnt_die {b : Nat} {q v : Value} {left : Int} {w : World} {n : Nat} {xs : List Value} (hb : w.heap[b]? = some (.cells #[q, v, .int .i64 left, .bool false] 141)) (hrow : w.ownsRow 0 145 3 v n xs) (hz : left = 0) :
   Calls Tryz.prog 83 #[.pointer (some ⟨b, 0, none⟩)] w fun e w' => e = .returned (.bool true) /\ Kp (fun i => i = b) w w' /\ w'.heap[b]? = some (.cells #[q, v, .int .i64 left, .bool true] 141) /\ w'.ownsRow 0 145 3 v n xs := by
 subst hz
 refine (burnt_any b q v 0 w (by omega) (by omega) hb).mono ?_
 rintro e w' ⟨rfl, kp, h1⟩
 exact ⟨rfl, kp, h1, kp.row hrow (fun g hg => row_ne hb hrow hg (by decide))⟩
theorem burnt_go {b : Nat} {q v : Value} {left : Int} {w : World} {n : Nat} {xs : List Value} (hb : w.heap[b]? = some (.cells #[q, v, .int .i64 left, .bool false] 141)) (hrow : w.ownsRow 0 145 3 v n xs) (h0 : -1 <= left) (h1 : left <= 9223372036854775807) (hz : ¬ left = 0) :
   Calls Tryz.prog 83 #[.pointer (some ⟨b, 0, none⟩)] w fun e w' => e = .returned (.bool false) /\ Kp (fun i => i = b) w w' /\ w'.heap[b]? = some (.cells #[q, v, .int .i64 (max (left - 1) (-1)), .bool false] 141) /\ w'.ownsRow 0 145 3 v n xs := by
 refine (burnt_any b q v left w h0 h1 hb).mono ?_
 rintro e w' ⟨rfl, kp, h1⟩
 refine ⟨by rw [show isNil left = false by simp [isNil, hz]], kp, ?_, kp.row hrow (fun g hg => row_ne hb hrow hg (by decide))⟩
 rw [h1, burntCells, if_neg hz]
theorem ySync_any (b : Nat) (d : Dk) (n : Nm) (S : Nat -> Prop) (w : World) (hR : RefAt w S b d) (hok : d.Ok) (hl : d.files.length <= 4194303) :
   Calls Tryz.prog 48 #[.pointer (some ⟨b, 0, none⟩), .string ⟨n.toArray⟩] w fun e w' => e = .returned (.int .i64 (d.sync n).1) /\ RefAt w' (Nw S w) b (d.sync n).2 /\ Kp S w w' := by
 obtain ⟨v, hb, hrow, sb, sg⟩ := id hR
 obtain ⟨p, cap, rfl, hp⟩ := rowp hrow
 obtain ⟨c0, c1, c2, c3, f0, f1, f2, f3⟩ := cells4 hb
 have hfd := yfind_any b cap p _ _ _ d.files n w (by omega) hb hp
 by_cases hd : d.dead = true
 . have HX : Hid (d.sync n = (4, d)) := by simp [Hid, Dk.sync, hd]
   clear hb
   go_enter Tryz.func48, Tryz.ntmps48
   go_wp2_with (go_at_call 84; refine hfd.mono ?_; rintro e w' ⟨r, rfl, rfl, hF⟩)
   go_ret
   rw [HX.out]
   exact ⟨rfl, hR.nw, Kp.refl _ _⟩
 . rw [Bool.not_eq_true] at hd
   cases hg : getF n d.files with
   | none =>
     have HX : Hid (d.sync n = (2, d)) := by simp [Hid, Dk.sync, hd, hg]
     clear hb
     go_enter Tryz.func48, Tryz.ntmps48
     go_wp2_with (go_at_call 84; refine hfd.mono ?_; rintro e w' ⟨r, rfl, rfl, hF⟩; obtain rfl := hF.none hg)
     go_ret
     rw [HX.out]
     exact ⟨rfl, hR.nw, Kp.refl _ _⟩
   | some f =>
     rw [hd] at hb
     by_cases hz : d.left = 0
     . have hbu := burnt_die hb hrow hz
       have HX : Hid (d.sync n = (4, d.die)) := by simp [Hid, Dk.sync, hd, hg, hz]
       clear hb
       go_enter Tryz.func48, Tryz.ntmps48
       go_wp2_with (first
         | (go_at_call 84; refine hfd.mono ?_; rintro e w' ⟨r, rfl, rfl, hF⟩; obtain ⟨k, hk, rfl, hkn, rfl⟩ := hF.some hg)
         | (go_at_call 83; refine hbu.mono ?_; rintro e w1 ⟨rfl, kp, hb1, hr1⟩))
       go_ret
       rw [HX.out]
       exact ⟨rfl, ⟨_, hb1, hr1, .inl sb, fun g hg => .inl (sg g hg)⟩, kp.mono (fun i hi => by subst hi; exact sb)⟩
     . have hbu := burnt_go hb hrow hok.left0 hok.left1 hz
       have HX : Hid (d.sync n = (0, ⟨d.quota, upd n allSafe d.files, max (d.left - 1) (-1), false, d.turn⟩)) := by simp [Hid, Dk.sync, hd, hg, hz, Dk.burn]
       clear hb
       go_enter Tryz.func48, Tryz.ntmps48
       go_wp2_with (first
         | (go_at_call 84; refine hfd.mono ?_; rintro e w' ⟨r, rfl, rfl, hF⟩; obtain ⟨k, hk, rfl, hkn, rfl⟩ := hF.some hg)
         | (go_at_call 83; refine hbu.mono ?_; rintro e w1 ⟨rfl, kp, hb1, hr1⟩))
       clear hbu hfd
       obtain ⟨e0, e1, e2, e3, _, _, _, _⟩ := cells4 hb1
       obtain ⟨p', cap', hpe, hp'⟩ := rowp hr1
       obtain ⟨g, rfl, k0, k1, k2⟩ := hp' k hk
       obtain ⟨rfl, rfl⟩ : p = some ⟨g, 0, none⟩ /\ cap = cap' := by simpa using hpe
       have z2 := hr1.frozenAt (k * 3 + 2)
       have hlen : d.files[k].2.bytes.length <= 1048576 := Nat.le_trans (used_ge d.files k hk) (Nat.le_trans hok.used hok.quota)
       clear hp hp' c0 c1 c2 c3 f0 f1 f2 f3
       go_region
       go_wp2
       go_ret
       obtain ⟨s1, s2⟩ := ref_store (u := .int .i64 d.files[k].2.bytes.length) (y := (n, allSafe d.files[k].2)) (j := 2) hb1 hr1 hk (by simp [fcells, allSafe, hkn]) (by omega)
       rw [<- upd_set hok.rise hk n hkn] at s1 s2
       rw [HX.out]
       exact ⟨rfl, ⟨_, s1, s2, .inl sb, fun g hg => .inl (sg g hg)⟩, ((kp.mono (fun i hi => by subst hi; exact sb)).put (sg _ rfl) _).drew⟩
theorem ref_newrow {w1 w2 : World} {b n : Nat} {q v v2 l dd : Value} {xs : List Value} (hb1 : w1.heap[b]? = some (.cells #[q, v, l, dd] 141)) (hbl : Below w1.heap.size w1 w2) (hr2 : w2.ownsRow w1.heap.size 145 3 v2 n xs) :
   (w2.setCell ⟨b, 1, none⟩ v2).heap[b]? = some (.cells #[q, v2, l, dd] 141) /\ (w2.setCell ⟨b, 1, none⟩ v2).ownsRow 0 145 3 v2 n xs := by
 have hlt := lt_of_block hb1
 have hb2 : w2.heap[b]? = _ := (hbl.block b hlt).trans hb1
 refine ⟨(block_set hb2 v2).trans rfl, ownsRow_base (ownsRow_of_block hr2 (fun g hg => ?_)) (Nat.zero_le _)⟩
 have := (hr2.lt g hg).1
 exact Below.heap_setCell _ _ _ _ (by show g ≠ b; omega)
theorem yRemove_any (b : Nat) (d : Dk) (n : Nm) (S : Nat -> Prop) (w : World) (hR : RefAt w S b d) (hok : d.Ok) (hl : d.files.length <= 4194303) :
   Calls Tryz.prog 52 #[.pointer (some ⟨b, 0, none⟩), .string ⟨n.toArray⟩] w fun e w' => e = .returned (.int .i64 (d.remove n).1) /\ RefAt w' (Nw S w) b (d.remove n).2 /\ Kp S w w' := by
 obtain ⟨v, hb, hrow, sb, sg⟩ := id hR
 obtain ⟨p, cap, rfl, hp⟩ := rowp hrow
 obtain ⟨c0, c1, c2, c3, f0, f1, f2, f3⟩ := cells4 hb
 have hfd := yfind_any b cap p _ _ _ d.files n w (by omega) hb hp
 by_cases hd : d.dead = true
 . have HX : Hid (d.remove n = (4, d)) := by simp [Hid, Dk.remove, hd]
   clear hb
   go_enter Tryz.func52, Tryz.ntmps52
   go_wp2_with (go_at_call 84; refine hfd.mono ?_; rintro e w' ⟨r, rfl, rfl, hF⟩)
   go_ret
   rw [HX.out]
   exact ⟨rfl, hR.nw, Kp.refl _ _⟩
 . rw [Bool.not_eq_true] at hd
   cases hg : getF n d.files with
   | none =>
     have HX : Hid (d.remove n = (2, d)) := by simp [Hid, Dk.remove, hd, hg]
     clear hb
     go_enter Tryz.func52, Tryz.ntmps52
     go_wp2_with (go_at_call 84; refine hfd.mono ?_; rintro e w' ⟨r, rfl, rfl, hF⟩; obtain rfl := hF.none hg)
     go_ret
     rw [HX.out]
     exact ⟨rfl, hR.nw, Kp.refl _ _⟩
   | some f =>
     rw [hd] at hb
     by_cases hz : d.left = 0
     . have hbu := burnt_die hb hrow hz
       have HX : Hid (d.remove n = (4, d.die)) := by simp [Hid, Dk.remove, hd, hg, hz]
       clear hb
       go_enter Tryz.func52, Tryz.ntmps52
       go_wp2_with (first
         | (go_at_call 84; refine hfd.mono ?_; rintro e w' ⟨r, rfl, rfl, hF⟩; obtain ⟨k, hk, rfl, hkn, rfl⟩ := hF.some hg)
         | (go_at_call 83; refine hbu.mono ?_; rintro e w1 ⟨rfl, kp, hb1, hr1⟩))
       go_ret
       rw [HX.out]
       exact ⟨rfl, ⟨_, hb1, hr1, .inl sb, fun g hg => .inl (sg g hg)⟩, kp.b sb⟩
     . have hbu := burnt_go hb hrow hok.left0 hok.left1 hz
       have HX : Hid (d.remove n = (0, ⟨d.quota, del n d.files, max (d.left - 1) (-1), false, d.turn⟩)) := by simp [Hid, Dk.remove, hd, hg, hz, Dk.burn]
       clear hb
       go_enter Tryz.func52, Tryz.ntmps52
       go_wp2_with (first
         | (go_at_call 84; refine hfd.mono ?_; rintro e w' ⟨r, rfl, rfl, hF⟩; obtain ⟨k, hk, rfl, hkn, rfl⟩ := hF.some hg)
         | (go_at_call 83; refine hbu.mono ?_; rintro e w1 ⟨rfl, kp, hb1, hr1⟩; obtain ⟨e0, e1, e2, e3, _, _, _, _⟩ := cells4 hb1; obtain ⟨p', cap', hpe, hp'⟩ := rowp hr1; obtain ⟨rfl, rfl⟩ : p = p' /\ cap = cap' := (by simpa using hpe))
         | (go_at_call 87; refine (without_any p cap d.files k w1 (by omega) hk hp').mono ?_; rintro e w2 ⟨v2, rfl, hbl, hr2⟩; obtain ⟨p2, cap2, rfl, _⟩ := rowp hr2; obtain ⟨i0, i1, i2, i3, j0, j1, j2, j3⟩ := cells4 ((hbl.block b (lt_of_block hb1)).trans hb1)))
       go_ret
       obtain ⟨s1, s2⟩ := ref_newrow hb1 hbl hr2
       have hde := del_erase hok.rise hk
       rw [hkn] at hde
       rw [HX.out, hde]
       exact ⟨rfl, ⟨_, s1, s2, .inl sb, fun g hg => .inr (by have := (hr2.lt g hg).1; have := kp.size; omega)⟩, ((kp.b sb).trans (T := fun _ => False) (Kp.of_below hbl) (fun _ _ f => f.elim)).put sb _⟩
theorem yRead_any (b : Nat) (d : Dk) (n : Nm) (S : Nat -> Prop) (w : World) (hR : RefAt w S b d) (hl : d.files.length <= 4194303) :
   Calls Tryz.prog 54 #[.pointer (some ⟨b, 0, none⟩), .string ⟨n.toArray⟩] w fun e w' => e = .returned (.tuple #[.string ⟨(d.read n).1.toArray⟩, .int .i64 (d.read n).2]) /\ w' = w := by
 obtain ⟨v, hb, hrow, sb, sg⟩ := id hR
 obtain ⟨p, cap, rfl, hp⟩ := rowp hrow
 obtain ⟨c0, c1, c2, c3, f0, f1, f2, f3⟩ := cells4 hb
 have hfd := yfind_any b cap p _ _ _ d.files n w (by omega) hb hp
 clear hb
 by_cases hd : d.dead = true
 . have HX : Hid (d.read n = ([], 4)) := by simp [Hid, Dk.read, hd]
   rw [HX.out]
   go_enter Tryz.func54, Tryz.ntmps54
   go_wp2_with (go_at_call 84; refine hfd.mono ?_; rintro e w' ⟨r, rfl, rfl, hF⟩)
   go_ret2
   exact ⟨rfl, rfl⟩
 . rw [Bool.not_eq_true] at hd
   cases hg : getF n d.files with
   | none =>
     have HX : Hid (d.read n = ([], 2)) := by simp [Hid, Dk.read, hd, hg]
     rw [HX.out]
     go_enter Tryz.func54, Tryz.ntmps54
     go_wp2_with (go_at_call 84; refine hfd.mono ?_; rintro e w' ⟨r, rfl, rfl, hF⟩; obtain rfl := hF.none hg)
     go_ret2
     exact ⟨rfl, rfl⟩
   | some f =>
     have HX : Hid (d.read n = (f.bytes, 0)) := by simp [Hid, Dk.read, hd, hg]
     rw [HX.out]
     go_enter Tryz.func54, Tryz.ntmps54
     go_wp2_with (go_at_call 84; refine hfd.mono ?_; rintro e w' ⟨r, rfl, rfl, hF⟩; obtain ⟨k, hk, rfl, hkn, rfl⟩ := hF.some hg; obtain ⟨g, rfl, k0, k1, k2⟩ := hp k hk)
     go_ret2
     exact ⟨rfl, rfl⟩
theorem ySafe_any (b : Nat) (d : Dk) (n : Nm) (S : Nat -> Prop) (w : World) (hR : RefAt w S b d) (hl : d.files.length <= 4194303) :
   Calls Tryz.prog 56 #[.pointer (some ⟨b, 0, none⟩), .string ⟨n.toArray⟩] w fun e w' => e = .returned (.tuple #[.int .i64 (d.safe n).1, .int .i64 (d.safe n).2]) /\ w' = w := by
 obtain ⟨v, hb, hrow, sb, sg⟩ := id hR
 obtain ⟨p, cap, rfl, hp⟩ := rowp hrow
 obtain ⟨c0, c1, c2, c3, f0, f1, f2, f3⟩ := cells4 hb
 have hfd := yfind_any b cap p _ _ _ d.files n w (by omega) hb hp
 clear hb
 by_cases hd : d.dead = true
 . have HX : Hid (d.safe n = (0, 4)) := by simp [Hid, Dk.safe, hd]
   rw [HX.out]
   go_enter Tryz.func56, Tryz.ntmps56
   go_wp2_with (go_at_call 84; refine hfd.mono ?_; rintro e w' ⟨r, rfl, rfl, hF⟩)
   go_ret2
   exact ⟨rfl, rfl⟩
 . rw [Bool.not_eq_true] at hd
   cases hg : getF n d.files with
   | none =>
     have HX : Hid (d.safe n = (0, 2)) := by simp [Hid, Dk.safe, hd, hg]
     rw [HX.out]
     go_enter Tryz.func56, Tryz.ntmps56
     go_wp2_with (go_at_call 84; refine hfd.mono ?_; rintro e w' ⟨r, rfl, rfl, hF⟩; obtain rfl := hF.none hg)
     go_ret2
     exact ⟨rfl, rfl⟩
   | some f =>
     have HX : Hid (d.safe n = (f.safe, 0)) := by simp [Hid, Dk.safe, hd, hg]
     rw [HX.out]
     go_enter Tryz.func56, Tryz.ntmps56
     go_wp2_with (go_at_call 84; refine hfd.mono ?_; rintro e w' ⟨r, rfl, rfl, hF⟩; obtain ⟨k, hk, rfl, hkn, rfl⟩ := hF.some hg; obtain ⟨g, rfl, k0, k1, k2⟩ := hp k hk)
     go_ret2
     exact ⟨rfl, rfl⟩
theorem yFuse_any (b : Nat) (d : Dk) (n : Int) (S : Nat -> Prop) (w : World) (hR : RefAt w S b d) :
   Calls Tryz.prog 92 #[.pointer (some ⟨b, 0, none⟩), .int .i64 n] w fun e w' => e = .returned (.tuple #[]) /\ RefAt w' (Nw S w) b (d.fuse n) /\ Kp S w w' := by
 obtain ⟨v, hb, hrow, sb, sg⟩ := id hR
 obtain ⟨c0, c1, c2, c3, f0, f1, f2, f3⟩ := cells4 hb
 have hne : ∀ g, v.ownBlock = some g -> g ≠ b := fun g hg => row_ne hb hrow hg (by decide)
 have HB : Hid (w.heap[b]? = some (.cells #[.int .i64 d.quota, v, .int .i64 d.left, .bool d.dead] 141)) := hb
 clear hb
 by_cases hd : d.dead = true
 . have HX : Hid (d.fuse n = d) := by simp [Hid, Dk.fuse, hd]
   go_enter Tryz.func92, Tryz.ntmps92
   go_wp2
   refine bodyPost_ret (results_none rfl _ _ _) rfl ?_
   rw [HX.out]
   exact ⟨rfl, hR.nw, Kp.refl _ _⟩
 . rw [Bool.not_eq_true] at hd
   by_cases hn : 0 <= n
   . have HX : Hid (d.fuse n = ⟨d.quota, d.files, n, d.dead, d.turn⟩) := by simp [Hid, Dk.fuse, hd]; omega
     go_enter Tryz.func92, Tryz.ntmps92
     go_wp2
     go_end0
     rw [HX.out]
     exact ⟨rfl, ⟨v, (block_set (block_set HB.out _) _).trans rfl, ownsRow_of_block hrow (fun g hg => (Below.heap_setCell _ _ _ _ (hne g hg)).trans (Below.heap_setCell _ _ _ _ (hne g hg))), .inl sb, fun g hg => .inl (sg g hg)⟩, ((Kp.refl _ _).put sb _).put sb _⟩
   . have HX : Hid (d.fuse n = ⟨d.quota, d.files, -1, d.dead, d.turn⟩) := by simp [Hid, Dk.fuse, hd]; omega
     go_enter Tryz.func92, Tryz.ntmps92
     go_wp2
     go_end0
     rw [HX.out]
     exact ⟨rfl, ⟨v, (block_set HB.out _).trans rfl, ownsRow_of_block hrow (fun g hg => Below.heap_setCell _ _ _ _ (hne g hg)), .inl sb, fun g hg => .inl (sg g hg)⟩, (Kp.refl _ _).put sb _⟩
theorem RefAt.drewN {w : World} {S : Nat -> Prop} {b : Nat} {d : Dk} (h : RefAt w S b d) (m : Nat) : RefAt (w.drewN m) S b d := h
theorem yWrite_any (b : Nat) (d : Dk) (n : Nm) (c : List UInt8) (S : Nat -> Prop) (w : World) (hR : RefAt w S b d) (hok : d.Ok) (hl : d.files.length <= 4194302) (hn : n.length <= 1099511627776) (hc : c.length <= 1099511627776) :
   Calls Tryz.prog 46 #[.pointer (some ⟨b, 0, none⟩), .string ⟨n.toArray⟩, .string ⟨c.toArray⟩] w fun e w' => e = .returned (.int .i64 (d.write n c).1) /\ RefAt w' (Nw S w) b (d.write n c).2 /\ Kp S w w' := by
 obtain ⟨v, hb, hrow, sb, sg⟩ := id hR
 obtain ⟨p, cap, rfl, hp⟩ := rowp hrow
 obtain ⟨c0, c1, c2, c3, f0, f1, f2, f3⟩ := cells4 hb
 have hnm := named_any ⟨n.toArray⟩ w (by show n.length <= _; unfold maxLen; omega)
 have hus := fun m => used_any b cap p _ _ _ d.files (w.drewN m) (by omega) (Nat.le_trans hok.used hok.quota) hb hp
 have hu1 := hok.used
 have hu2 := hok.quota
 by_cases hd : d.dead = true
 . have HX : Hid (d.write n c = (4, d)) := by simp [Hid, Dk.write, hd]
   clear hb
   go_enter Tryz.func46, Tryz.ntmps46
   go_wp2_with (go_at_call 81; refine hnm.mono ?_; rintro e w' ⟨rfl, rfl⟩)
   go_ret
   rw [HX.out]
   exact ⟨rfl, hR.nw, Kp.refl _ _⟩
 . rw [Bool.not_eq_true] at hd
   rw [hd] at hb
   by_cases hk : nameOk n = false
   . have HX : Hid (d.write n c = (1, d)) := by simp [Hid, Dk.write, hd, hk]
     clear hb
     go_enter Tryz.func46, Tryz.ntmps46
     go_wp2_with (go_at_call 81; refine hnm.mono ?_; rintro e w' ⟨rfl, rfl⟩; simp only [hk])
     go_ret
     rw [HX.out]
     exact ⟨rfl, hR.nw, Kp.refl _ _⟩
   . rw [Bool.not_eq_false] at hk
     by_cases hq : d.quota < used d.files + c.length
     . have HX : Hid (d.write n c = (3, d)) := by simp [Hid, Dk.write, hd, hk, hq]
       clear hb
       go_enter Tryz.func46, Tryz.ntmps46
       go_wp2_with (go_at_call 81; refine hnm.mono ?_; rintro e w' ⟨rfl, rfl⟩; simp only [hk])
       go_quiet ((go_at_call 82; exact Calls.quiet_of_same (hus _)))
       go_wp2
       go_ret
       rw [HX.out]
       exact ⟨rfl, hR.nw.drewN _, (Kp.refl _ _).drewN _⟩
     . by_cases hz : d.left = 0
       . have HX : Hid (d.write n c = (4, d.die)) := by simp [Hid, Dk.write, hd, hk, hq, hz]
         have hbu := fun m => burnt_die (w := w.drewN m) hb hrow hz
         clear hb
         go_enter Tryz.func46, Tryz.ntmps46
         go_wp2_with (go_at_call 81; refine hnm.mono ?_; rintro e w' ⟨rfl, rfl⟩; simp only [hk])
         go_quiet ((go_at_call 82; exact Calls.quiet_of_same (hus _)))
         go_wp2_with (go_at_call 83; refine (hbu _).mono ?_; rintro e w1 ⟨rfl, kp, hb1, hr1⟩)
         go_ret
         rw [HX.out]
         exact ⟨rfl, ⟨_, hb1, hr1, .inl sb, fun g hg => .inl (sg g hg)⟩, kp.und.b sb⟩
       . have hbu := fun m => burnt_go (w := w.drewN m) hb hrow hok.left0 hok.left1 hz
         cases hg : getF n d.files with
         | none =>
           have HX : Hid (d.write n c = (0, ⟨d.quota, ins (n, ⟨c, 0⟩) d.files, max (d.left - 1) (-1), false, d.turn⟩)) := by simp [Hid, Dk.write, hd, hk, hq, hz, hg, Dk.burn]
           clear hb
           go_enter Tryz.func46, Tryz.ntmps46
           go_wp2_with (go_at_call 81; refine hnm.mono ?_; rintro e w' ⟨rfl, rfl⟩; simp only [hk])
           go_quiet ((go_at_call 82; exact Calls.quiet_of_same (hus _)))
           go_wp2_with (first
             | (go_at_call 83; refine (hbu _).mono ?_; rintro e w1 ⟨rfl, kp, hb1, hr1⟩; obtain ⟨e0, e1, e2, e3, _, _, _, _⟩ := cells4 hb1; obtain ⟨p', cap', hpe, hp'⟩ := rowp hr1; obtain ⟨rfl, rfl⟩ : p = p' /\ cap = cap' := (by simpa using hpe))
             | (go_at_call 84; refine (yfind_any b cap p _ _ _ d.files n w1 (by omega) hb1 hp').mono ?_; rintro e w2 ⟨r, rfl, rfl, hF⟩; obtain rfl := hF.none hg)
             | (go_at_call 85; refine (put_any p cap d.files (n, ⟨c, 0⟩) w2 (by omega) hp').mono ?_; rintro e w3 ⟨v2, rfl, hbl, hr2⟩; obtain ⟨p2, cap2, rfl, _⟩ := rowp hr2; obtain ⟨i0, i1, i2, i3, j0, j1, j2, j3⟩ := cells4 ((hbl.block b (lt_of_block hb1)).trans hb1)))
           go_ret
           obtain ⟨s1, s2⟩ := ref_newrow hb1 hbl hr2
           rw [HX.out]
           exact ⟨rfl, ⟨_, s1, s2, .inl sb, fun g hg => .inr (by have := (hr2.lt g hg).1; have := kp.size; simp at this; omega)⟩, ((kp.und.b sb).trans (T := fun _ => False) (Kp.of_below hbl) (fun _ _ f => f.elim)).put sb _⟩
         | some f =>
           have HX : Hid (d.write n c = (0, ⟨d.quota, upd n (addB c) d.files, max (d.left - 1) (-1), false, d.turn⟩)) := by simp [Hid, Dk.write, hd, hk, hq, hz, hg, Dk.burn]
           clear hb
           go_enter Tryz.func46, Tryz.ntmps46
           go_wp2_with (go_at_call 81; refine hnm.mono ?_; rintro e w' ⟨rfl, rfl⟩; simp only [hk])
           go_quiet ((go_at_call 82; exact Calls.quiet_of_same (hus _)))
           go_wp2_with (first
             | (go_at_call 83; refine (hbu _).mono ?_; rintro e w1 ⟨rfl, kp, hb1, hr1⟩; obtain ⟨e0, e1, e2, e3, _, _, _, _⟩ := cells4 hb1; obtain ⟨p', cap', hpe, hp'⟩ := rowp hr1; obtain ⟨rfl, rfl⟩ : p = p' /\ cap = cap' := (by simpa using hpe))
             | (go_at_call 84; refine (yfind_any b cap p _ _ _ d.files n w1 (by omega) hb1 hp').mono ?_; rintro e w2 ⟨r, rfl, rfl, hF⟩; obtain ⟨k, hk', rfl, hkn, rfl⟩ := hF.some hg; obtain ⟨g, rfl, k0, k1, k2⟩ := hp' k hk'))
           have z2 := hr1.frozenAt (k * 3 + 1)
           have hlen : d.files[k].2.bytes.length <= 1048576 := Nat.le_trans (used_ge d.files k hk') (Nat.le_trans hok.used hok.quota)
           clear hp hp' c0 c1 c2 c3 f0 f1 f2 f3 hbu hus hnm hk hq
           go_region
           go_wp2
           go_ret
           rw [ByteArray.mk_append_mk]
           obtain ⟨s1, s2⟩ := ref_store (u := .string ⟨(d.files[k].2.bytes ++ c).toArray⟩) (y := (n, addB c d.files[k].2)) (j := 1) hb1 hr1 hk' (by simp [fcells, addB, hkn]) (by omega)
           rw [<- upd_set hok.rise hk' n hkn] at s1 s2
           rw [HX.out]
           exact ⟨rfl, ⟨_, s1, s2, .inl sb, fun g hg => .inl (sg g hg)⟩, ((kp.und.b sb).put (sg _ rfl) _).drew⟩
theorem yNew_bad (q : Int) (w : World) (hq : quotaOk q = false) : Calls Tryz.prog 43 #[.int .i64 q] w fun e w' => e = .returned (.tuple #[.pointer none, .int .i64 1]) /\ w' = w := by
 rcases (by simp [quotaOk] at hq; omega : q < 0 \/ 1048576 < q) with h | h
 . clear hq
   go_enter Tryz.func43, Tryz.ntmps43
   go_wp2
   go_ret2
   exact ⟨rfl, rfl⟩
 . clear hq
   go_enter Tryz.func43, Tryz.ntmps43
   go_wp2
   go_ret2
   exact ⟨rfl, rfl⟩
theorem yNew_ok (q : Int) (w : World) (hq : quotaOk q = true) : Calls Tryz.prog 43 #[.int .i64 q] w fun e w' => e = .returned (.tuple #[.pointer (some ⟨w.heap.size, 0, none⟩), .int .i64 0]) /\ RefAt w' (fun k => w.heap.size <= k) w.heap.size (newDk q) /\ Below w.heap.size w w' := by
 obtain ⟨h0, h1⟩ : 0 <= q /\ q <= 1048576 := by simpa [quotaOk] using hq
 clear hq
 have HQ : Hid (((q.toNat : Nat) : Int) = q) := by simp [Hid]; omega
 go_enter Tryz.func43, Tryz.ntmps43
 go_wp2
 go_ret2
 refine ⟨rfl, ⟨_, (block_new _ _).trans (by simp only [newDk]; rw [HQ.out]), World.ownsRow_nil _ _ _ _, Nat.le_refl _, fun g hg => by simp [Value.ownBlock] at hg⟩, (Below.refl _ _).alloc (Nat.le_refl _) _⟩
end Go.Proofs.YtfghgmojnffgnaaGreat
