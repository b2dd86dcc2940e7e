/- The program's store: Sync, secure; the calls of strata.Store. -/
import Derived.Test.YtfghgmojnffgnaaGreatCodeR
namespace Go.Proofs.YtfghgmojnffgnaaGreat
open Go.RowKit Go.Maps Go.Sort

def syncX (d : Dk) (st : St) : Int × Dk × St :=
  if writable d.turn d.dead st ≠ 0 then (writable d.turn d.dead st, d, st)
  else if st.loose = false then (0, d, st)
  else if (d.sync logN).1 ≠ 0 then ((d.sync logN).1, (d.sync logN).2, st)
  else (0, (d.sync logN).2, { st with loose := false })

set_option maxHeartbeats 2000000 in
set_option maxRecDepth 20000 in
theorem sSync_any (bd bs : Nat) (d : Dk) (st : St) (U : Nat → Prop) (w : World) (hS : Sys w U bd bs d st) (hok : d.Ok) :
    Calls Tryz.prog 33 #[.pointer (some ⟨bs, 0, none⟩)] w fun e w' => e = .returned (.int .i64 (syncX d st).1) ∧ Sys w' (Nw U w) bd bs (syncX d st).2.1 (syncX d st).2.2 ∧ Kp U w w' := by
  obtain ⟨S, T, bm, u1, u2, u3, hP, hT⟩ := hS.ex
  obtain ⟨dm, dr, df, hd, hsd⟩ := hP.raw
  have hw := Writable_any hT hd
  have hUs := u2 _ hT.ts
  by_cases e1 : writable d.turn d.dead st = 0
  · rw [e1] at hw
    cases e2 : st.loose
    · have HX : Hid (syncX d st = (0, d, st)) := by simp [Hid, syncX, e1, e2]
      go_enter Tryz.func33, Tryz.ntmps33
      go_wp2_with (go_at_call 69; refine hw.mono ?_; rintro e w1 ⟨rfl, hb1⟩; clear hw; have hT1 := hT.below hb1; obtain ⟨c0, c1, c2, c3, c4, f0, f1, f2, f3, f4⟩ := cells5 hT1.raw; rw [e2] at c3)
      go_ret
      rw [HX.out]
      exact ⟨rfl, (hS.below hb1).mono (fun _ _ s => .inl s), kp_below (Kp.refl U w) hb1⟩
    · generalize hR : (d.sync logN).1 = R at *
      have HX : Hid (syncX d st = if R ≠ 0 then (R, (d.sync logN).2, st) else (0, (d.sync logN).2, { st with loose := false })) := by simp [Hid, syncX, e1, e2, hR]
      have hsy := fun w1 (hP1 : ProgAt w1 S bd d) => dSync_any bd d logN S w1 hP1 hok (by decide)
      by_cases hR0 : R = 0
      · subst hR0
        go_enter Tryz.func33, Tryz.ntmps33
        go_wp2_with (first
          | (go_at_call 69; refine hw.mono ?_; rintro e w1 ⟨rfl, hb1⟩; clear hw; have hT1 := hT.below hb1; obtain ⟨c0, c1, c2, c3, c4, f0, f1, f2, f3, f4⟩ := cells5 hT1.raw; rw [e2] at c3)
          | (go_at_call 70; refine (hsy w1 (hP.below hb1)).mono ?_; rintro e w2 ⟨rfl, hP2, k2⟩; rw [hR]; obtain ⟨T', v1, v2, v3, hT2, kw2⟩ := sys_wrote u1 u2 u3 hT1 (kp_below (Kp.refl U w) hb1) k2; obtain ⟨g0, g1, g2, g3, g4, z0, z1, z2, z3, z4⟩ := cells5 hT2.raw))
        go_ret
        rw [HX.out]
        have hT5 := hT2.put (st' := { st with loose := false }) 3 (.bool false) rfl ((block_set hT2.raw _).trans rfl)
        exact ⟨rfl, Sys.of v1 v2 v3 (hP2.kept (Kp.set1 w2 bs 3 (.bool false)) (fun i s e => by rw [e] at s; exact v3 _ s hT2.ts)) hT5, kw2.put hUs _⟩
      · go_enter Tryz.func33, Tryz.ntmps33
        go_wp2_with (first
          | (go_at_call 69; refine hw.mono ?_; rintro e w1 ⟨rfl, hb1⟩; clear hw; have hT1 := hT.below hb1; obtain ⟨c0, c1, c2, c3, c4, f0, f1, f2, f3, f4⟩ := cells5 hT1.raw; rw [e2] at c3)
          | (go_at_call 70; refine (hsy w1 (hP.below hb1)).mono ?_; rintro e w2 ⟨rfl, hP2, k2⟩; rw [hR]; obtain ⟨T', v1, v2, v3, hT2, kw2⟩ := sys_wrote u1 u2 u3 hT1 (kp_below (Kp.refl U w) hb1) k2; obtain ⟨g0, g1, g2, g3, g4, z0, z1, z2, z3, z4⟩ := cells5 hT2.raw))
        go_ret
        rw [HX.out, if_pos hR0]
        exact ⟨rfl, Sys.of v1 v2 v3 hP2 hT2, kw2⟩
  · have HX : Hid (syncX d st = (writable d.turn d.dead st, d, st)) := by simp [Hid, syncX, e1]
    have HE := e1
    clear e1
    generalize writable d.turn d.dead st = R at *
    go_enter Tryz.func33, Tryz.ntmps33
    go_wp2_with (go_at_call 69; refine hw.mono ?_; rintro e w1 ⟨rfl, hb1⟩; clear hw)
    go_ret
    rw [HX.out]
    exact ⟨rfl, (hS.below hb1).mono (fun _ _ s => .inl s), kp_below (Kp.refl U w) hb1⟩

def secureX (d : Dk) (st : St) (n : Nat) : Int × Dk × St :=
  if (d.safe logN).2 ≠ 0 then ((d.safe logN).2, d, st) else syncX d { st with loose := decide ((d.safe logN).1 < n) }

set_option maxHeartbeats 2000000 in
set_option maxRecDepth 20000 in
theorem secure_any (bd bs : Nat) (d : Dk) (st : St) (U : Nat → Prop) (n : Nat) (w : World) (hS : Sys w U bd bs d st) (hok : d.Ok) :
    Calls Tryz.prog 128 #[.pointer (some ⟨bs, 0, none⟩), .int .i64 n] w fun e w' => e = .returned (.int .i64 (secureX d st n).1) ∧ Sys w' (Nw U w) bd bs (secureX d st n).2.1 (secureX d st n).2.2 ∧ Kp U w w' := by
  obtain ⟨S, T, bm, u1, u2, u3, hP, hT⟩ := hS.ex
  have hUs := u2 _ hT.ts
  have hsf := dSafe_any bd d logN S w hP (by decide)
  obtain ⟨c0, c1, c2, c3, c4, f0, f1, f2, f3, f4⟩ := cells5 hT.raw
  by_cases e1 : (d.safe logN).2 = 0
  · have HX : Hid (secureX d st n = syncX d { st with loose := decide ((d.safe logN).1 < n) }) := by simp [Hid, secureX, e1]
    have hT5 := hT.put (st' := { st with loose := decide ((d.safe logN).1 < n) }) 3 (.bool (decide ((d.safe logN).1 < n))) rfl ((block_set hT.raw _).trans rfl)
    have hS5 : Sys (w.setCell ⟨bs, 3, none⟩ (.bool (decide ((d.safe logN).1 < n)))) U bd bs d { st with loose := decide ((d.safe logN).1 < n) } := Sys.of u1 u2 u3 (hP.kept (Kp.set1 w bs 3 _) (fun i s e => by rw [e] at s; exact u3 _ s hT.ts)) hT5
    have hsy := sSync_any bd bs d _ U _ hS5 hok
    rw [e1] at hsf
    generalize (d.safe logN).1 = s0 at *
    have hbb : decide ((s0 : Int) < (n : Int)) = decide (s0 < n) := by simp
    go_enter Tryz.func128, Tryz.ntmps128
    go_wp2_with (first
      | (go_at_call 90; refine hsf.mono ?_; rintro e w1 ⟨rfl, rfl⟩; clear hsf)
      | (go_at_call 33; (first | refine hsy.mono ?_ | (rw [hbb]; refine hsy.mono ?_)); rintro e w2 ⟨rfl, hS2, k2⟩))
    go_ret
    rw [HX.out]
    exact ⟨rfl, hS2.mono (fun _ _ s => s.imp id (fun h => by simpa [World.setCell] using h)), ((Kp.refl U _).put hUs _).trans k2 (fun _ _ s => s)⟩
  · have HX : Hid (secureX d st n = ((d.safe logN).2, d, st)) := by simp [Hid, secureX, e1]
    generalize (d.safe logN).2 = R at *
    go_enter Tryz.func128, Tryz.ntmps128
    go_wp2_with (go_at_call 90; refine hsf.mono ?_; rintro e w1 ⟨rfl, rfl⟩; clear hsf)
    go_ret
    rw [HX.out]
    exact ⟨rfl, hS.mono (fun _ _ s => .inl s), Kp.refl _ _⟩

end Go.Proofs.YtfghgmojnffgnaaGreat
