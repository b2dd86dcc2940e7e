/- The document's own disk (strataref): Write, NewDisk. -/
import Derived.Test.YtoabedkcieindaaGreatDoorRefC
namespace Go.Proofs.YtoabedkcieindaaGreatDoor
open Go.RowKit

theorem RefAt.drewN {w : World} {S : Nat → Prop} {b : Nat} {d : Dk} (h : RefAt w S b d) (m : Nat) : RefAt (w.drewN m) S b d := h
set_option maxHeartbeats 1000000 in
set_option maxRecDepth 20000 in
theorem yWrite_any (b : Nat) (d : Dk) (n : Nm) (c : List UInt8) (S : Nat → Prop) (w : World) (hR : RefAt w S b d) (hok : d.Ok) (hl : d.files.length ≤ 4194302) (hn : n.length ≤ 1099511627776) (hc : c.length ≤ 1099511627776) :
    Calls Tryz.prog 79 #[.pointer (some ⟨b, 0, none⟩), .string ⟨n.toArray⟩, .string ⟨c.toArray⟩] w fun e w' => e = .returned (.int .i64 (d.write n c).1) ∧ RefAt w' (Nw S w) b (d.write n c).2 ∧ Kp S w w' := by
  obtain ⟨v, hb, hrow, sb, sg⟩ := id hR
  obtain ⟨p, cap, rfl, hp⟩ := rowp hrow
  obtain ⟨c0, c1, c2, c3, f0, f1, f2, f3⟩ := cells4 hb
  have hnm := named_any ⟨n.toArray⟩ w (by show n.length ≤ _; unfold maxLen; omega)
  have hus := fun m => used_any b cap p _ _ _ d.files (w.drewN m) (by omega) (Nat.le_trans hok.used hok.quota) hb hp
  have hu1 := hok.used
  have hu2 := hok.quota
  by_cases hd : d.dead = true
  · have HX : Hid (d.write n c = (4, d)) := by simp [Hid, Dk.write, hd]
    clear hb
    go_enter Tryz.func79, Tryz.ntmps79
    go_wp2_with (go_at_call 122; refine hnm.mono ?_; rintro e w' ⟨rfl, rfl⟩)
    go_ret
    rw [HX.out]
    exact ⟨rfl, hR.nw, Kp.refl _ _⟩
  · rw [Bool.not_eq_true] at hd
    rw [hd] at hb
    by_cases hk : nameOk n = false
    · have HX : Hid (d.write n c = (1, d)) := by simp [Hid, Dk.write, hd, hk]
      clear hb
      go_enter Tryz.func79, Tryz.ntmps79
      go_wp2_with (go_at_call 122; refine hnm.mono ?_; rintro e w' ⟨rfl, rfl⟩; simp only [hk])
      go_ret
      rw [HX.out]
      exact ⟨rfl, hR.nw, Kp.refl _ _⟩
    · rw [Bool.not_eq_false] at hk
      by_cases hq : d.quota < used d.files + c.length
      · have HX : Hid (d.write n c = (3, d)) := by simp [Hid, Dk.write, hd, hk, hq]
        clear hb
        go_enter Tryz.func79, Tryz.ntmps79
        go_wp2_with (go_at_call 122; refine hnm.mono ?_; rintro e w' ⟨rfl, rfl⟩; simp only [hk])
        go_quiet ((go_at_call 123; exact Calls.quiet_of_same (hus _)))
        go_wp2
        go_ret
        rw [HX.out]
        exact ⟨rfl, hR.nw.drewN _, (Kp.refl _ _).drewN _⟩
      · by_cases hz : d.left = 0
        · have HX : Hid (d.write n c = (4, d.die)) := by simp [Hid, Dk.write, hd, hk, hq, hz]
          have hbu := fun m => burnt_die (w := w.drewN m) hb hrow hz
          clear hb
          go_enter Tryz.func79, Tryz.ntmps79
          go_wp2_with (go_at_call 122; refine hnm.mono ?_; rintro e w' ⟨rfl, rfl⟩; simp only [hk])
          go_quiet ((go_at_call 123; exact Calls.quiet_of_same (hus _)))
          go_wp2_with (go_at_call 124; refine (hbu _).mono ?_; rintro e w1 ⟨rfl, kp, hb1, hr1⟩)
          go_ret
          rw [HX.out]
          exact ⟨rfl, ⟨_, hb1, hr1, .inl sb, fun g hg => .inl (sg g hg)⟩, kp.und.b sb⟩
        · have hbu := fun m => burnt_go (w := w.drewN m) hb hrow hok.left0 hok.left1 hz
          cases hg : getF n d.files with
          | none =>
            have HX : Hid (d.write n c = (0, ⟨d.quota, ins (n, ⟨c, 0⟩) d.files, max (d.left - 1) (-1), false, d.turn⟩)) := by simp [Hid, Dk.write, hd, hk, hq, hz, hg, Dk.burn]
            clear hb
            go_enter Tryz.func79, Tryz.ntmps79
            go_wp2_with (go_at_call 122; refine hnm.mono ?_; rintro e w' ⟨rfl, rfl⟩; simp only [hk])
            go_quiet ((go_at_call 123; exact Calls.quiet_of_same (hus _)))
            go_wp2_with (first
              | (go_at_call 124; refine (hbu _).mono ?_; rintro e w1 ⟨rfl, kp, hb1, hr1⟩; obtain ⟨e0, e1, e2, e3, _, _, _, _⟩ := cells4 hb1; obtain ⟨p', cap', hpe, hp'⟩ := rowp hr1; obtain ⟨rfl, rfl⟩ : p = p' ∧ cap = cap' := (by simpa using hpe))
              | (go_at_call 125; refine (yfind_any b cap p _ _ _ d.files n w1 (by omega) hb1 hp').mono ?_; rintro e w2 ⟨r, rfl, rfl, hF⟩; obtain rfl := hF.none hg)
              | (go_at_call 126; refine (put_any p cap d.files (n, ⟨c, 0⟩) w2 (by omega) hp').mono ?_; rintro e w3 ⟨v2, rfl, hbl, hr2⟩; obtain ⟨p2, cap2, rfl, _⟩ := rowp hr2; obtain ⟨i0, i1, i2, i3, j0, j1, j2, j3⟩ := cells4 ((hbl.block b (lt_of_block hb1)).trans hb1)))
            go_ret
            obtain ⟨s1, s2⟩ := ref_newrow hb1 hbl hr2
            rw [HX.out]
            exact ⟨rfl, ⟨_, s1, s2, .inl sb, fun g hg => .inr (by have := (hr2.lt g hg).1; have := kp.size; simp at this; omega)⟩, ((kp.und.b sb).trans (T := fun _ => False) (Kp.of_below hbl) (fun _ _ f => f.elim)).put sb _⟩
          | some f =>
            have HX : Hid (d.write n c = (0, ⟨d.quota, upd n (addB c) d.files, max (d.left - 1) (-1), false, d.turn⟩)) := by simp [Hid, Dk.write, hd, hk, hq, hz, hg, Dk.burn]
            clear hb
            go_enter Tryz.func79, Tryz.ntmps79
            go_wp2_with (go_at_call 122; refine hnm.mono ?_; rintro e w' ⟨rfl, rfl⟩; simp only [hk])
            go_quiet ((go_at_call 123; exact Calls.quiet_of_same (hus _)))
            go_wp2_with (first
              | (go_at_call 124; refine (hbu _).mono ?_; rintro e w1 ⟨rfl, kp, hb1, hr1⟩; obtain ⟨e0, e1, e2, e3, _, _, _, _⟩ := cells4 hb1; obtain ⟨p', cap', hpe, hp'⟩ := rowp hr1; obtain ⟨rfl, rfl⟩ : p = p' ∧ cap = cap' := (by simpa using hpe))
              | (go_at_call 125; refine (yfind_any b cap p _ _ _ d.files n w1 (by omega) hb1 hp').mono ?_; rintro e w2 ⟨r, rfl, rfl, hF⟩; obtain ⟨k, hk', rfl, hkn, rfl⟩ := hF.some hg; obtain ⟨g, rfl, k0, k1, k2⟩ := hp' k hk'))
            have z2 := hr1.frozenAt (k * 3 + 1)
            have hlen : d.files[k].2.bytes.length ≤ 1048576 := Nat.le_trans (used_ge d.files k hk') (Nat.le_trans hok.used hok.quota)
            clear hp hp' c0 c1 c2 c3 f0 f1 f2 f3 hbu hus hnm hk hq
            go_region
            go_wp2
            go_ret
            rw [ByteArray.mk_append_mk]
            obtain ⟨s1, s2⟩ := ref_store (u := .string ⟨(d.files[k].2.bytes ++ c).toArray⟩) (y := (n, addB c d.files[k].2)) (j := 1) hb1 hr1 hk' (by simp [fcells, addB, hkn]) (by omega)
            rw [← upd_set hok.rise hk' n hkn] at s1 s2
            rw [HX.out]
            exact ⟨rfl, ⟨_, s1, s2, .inl sb, fun g hg => .inl (sg g hg)⟩, ((kp.und.b sb).put (sg _ rfl) _).drew⟩

set_option maxHeartbeats 1000000 in
theorem yNew_bad (q : Int) (w : World) (hq : quotaOk q = false) : Calls Tryz.prog 77 #[.int .i64 q] w fun e w' => e = .returned (.tuple #[.pointer none, .int .i64 1]) ∧ w' = w := by
  rcases (by simp [quotaOk] at hq; omega : q < 0 ∨ 1048576 < q) with h | h
  · clear hq
    go_enter Tryz.func77, Tryz.ntmps77
    go_wp2
    go_ret2
    exact ⟨rfl, rfl⟩
  · clear hq
    go_enter Tryz.func77, Tryz.ntmps77
    go_wp2
    go_ret2
    exact ⟨rfl, rfl⟩

set_option maxHeartbeats 1000000 in
theorem yNew_ok (q : Int) (w : World) (hq : quotaOk q = true) : Calls Tryz.prog 77 #[.int .i64 q] w fun e w' => e = .returned (.tuple #[.pointer (some ⟨w.heap.size, 0, none⟩), .int .i64 0]) ∧ RefAt w' (fun k => w.heap.size ≤ k) w.heap.size (newDk q) ∧ Below w.heap.size w w' := by
  obtain ⟨h0, h1⟩ : 0 ≤ q ∧ q ≤ 1048576 := by simpa [quotaOk] using hq
  clear hq
  have HQ : Hid (((q.toNat : Nat) : Int) = q) := by simp [Hid]; omega
  go_enter Tryz.func77, Tryz.ntmps77
  go_wp2
  go_ret2
  refine ⟨rfl, ⟨_, (block_new _ _).trans (by simp only [newDk]; rw [HQ.out]), World.ownsRow_nil _ _ _ _, Nat.le_refl _, fun g hg => by simp [Value.ownBlock] at hg⟩, (Below.refl _ _).alloc (Nat.le_refl _) _⟩


end Go.Proofs.YtoabedkcieindaaGreatDoor
