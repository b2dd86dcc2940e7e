/- The program's disk: Read, Safe, Fuse, add, drop. -/
import Derived.Test.YtoabedkcieindaaGreatDoorCodeB
namespace Go.Proofs.YtoabedkcieindaaGreatDoor
open Go.RowKit Go.Maps

theorem ownB_cells {w : World} {base g n cap : Nat} {l : List UInt8} (h : OwnB w base (.slice (some ⟨g, 0, none⟩) n cap) l) : ∀ i (hi : i < l.length), w.cell? ⟨g, i, none⟩ = some (encB l[i]) := by
  intro i hi
  obtain ⟨a, c, e⟩ := ownB_shape h
  have hn : n = l.length := by simpa using (Value.slice.inj e).2.1
  subst hn
  have := World.ownsRow.cellAt (size := 1) h i (by omega)
  rw [this]
  simp [hi]

theorem nums_bytes (l : List UInt8) : strOfNums (l.map fun c => (c.toNat : Int)) = ⟨l.toArray⟩ := by
  have : (strOfNums (l.map fun c => (c.toNat : Int))).data.toList = l := by
    rw [strOfNums_data, List.map_map]
    conv => rhs; rw [← List.map_id l]
    apply List.map_congr_left
    intro c _
    simp
  cases h : strOfNums (l.map fun c => (c.toNat : Int)) with
  | mk a => rw [h] at this; simp at this; subst this; simp

theorem conv_bytes {w : World} {base : Nat} {v : Value} {l : List UInt8} (h : OwnB w base v l) : (convert 91 9 v).run Tryz.prog w = .ok (.string ⟨l.toArray⟩) w := by
  obtain ⟨a, cap, rfl⟩ := ownB_shape h
  rcases h.2 with ⟨hv, hn⟩ | ⟨g, cap', cur, hv, _⟩
  · have hl : l = [] := List.eq_nil_of_length_eq_zero hn
    subst hl
    rw [hv]
    exact run_convert_bytes_nil w _ 5 Tryz.underlying91 Tryz.underlying5 _ _ _ Tryz.underlying9
  · obtain ⟨rfl, -, rfl⟩ : a = some ⟨g, 0, none⟩ ∧ True ∧ cap = cap' := by simpa using hv
    rw [run_convert_bytes_arg w _ 5 Tryz.underlying91 Tryz.underlying5 g 0 l.length cap (l.map fun c => (c.toNat : Int)) (by simp) (fun i hi => by
      rw [Nat.zero_add, ownB_cells h i hi]
      simp [encB, List.getD, hi]) _ Tryz.underlying9, nums_bytes]

set_option maxHeartbeats 1000000 in
theorem dRead_any (b : Nat) (d : Dk) (n : Nm) (S : Nat → Prop) (w : World) (hP : ProgAt w S b d) (hn : n.length ≤ maxLen) :
    Calls Tryz.prog 106 #[.pointer (some ⟨b, 0, none⟩), .string ⟨n.toArray⟩] w fun e w' => e = .returned (.tuple #[.string ⟨(d.read n).1.toArray⟩, .int .i64 (d.read n).2]) ∧ w' = w := by
  obtain ⟨bm, ps, hst, hfs⟩ := id hP
  have hgf := getF_fs n ps
  rw [hfs] at hgf
  cases hd : d.dead
  · rw [hd] at hst
    cases hg : getF n ps with
    | none =>
      rw [hg] at hgf
      have HX : Hid (d.read n = ([], 2)) := by simp [Hid, Dk.read, hd, hgf]
      have hfd := dfind_none hst n hn hg
      rw [HX.out]
      clear hst hgf
      go_enter Tryz.func106, Tryz.ntmps106
      go_wp2_with (go_at_call 152; refine hfd.mono ?_; rintro e w' ⟨rfl, rfl⟩)
      go_ret2
      exact ⟨rfl, rfl⟩
    | some p =>
      rw [hg] at hgf
      simp only [Option.map_some] at hgf
      have hfd := dfind_some hst n p hn hg
      have HX : Hid (d.read n = (p.fl.bytes, 0)) := by simp [Hid, Dk.read, hd, hgf]
      rw [HX.out]
      have hfl := hst.file _ (getF_mem hg)
      have hcv := conv_bytes hfl.2
      obtain ⟨a, cap, hsv⟩ := ownB_shape hfl.2
      obtain ⟨c0, c1, z0, z1⟩ := cells2 hfl.1
      simp only at hsv hcv c0
      rw [hsv] at c0 hcv
      clear hgf hst hfl hsv
      go_enter Tryz.func106, Tryz.ntmps106
      go_wp2_with (go_at_call 152; refine hfd.mono ?_; rintro e w' ⟨rfl, rfl⟩; clear hfd)
      go_ret2
      exact ⟨rfl, rfl⟩
  · rw [hd] at hst
    have HX : Hid (d.read n = ([], 4)) := by simp [Hid, Dk.read, hd]
    have hfd := dfind_dead hst n
    rw [HX.out]
    clear hst hgf
    go_enter Tryz.func106, Tryz.ntmps106
    go_wp2_with (go_at_call 152; refine hfd.mono ?_; rintro e w' ⟨rfl, rfl⟩)
    go_ret2
    exact ⟨rfl, rfl⟩

set_option maxHeartbeats 1000000 in
theorem dSafe_any (b : Nat) (d : Dk) (n : Nm) (S : Nat → Prop) (w : World) (hP : ProgAt w S b d) (hn : n.length ≤ maxLen) :
    Calls Tryz.prog 130 #[.pointer (some ⟨b, 0, none⟩), .string ⟨n.toArray⟩] w fun e w' => e = .returned (.tuple #[.int .i64 (d.safe n).1, .int .i64 (d.safe n).2]) ∧ w' = w := by
  obtain ⟨bm, ps, hst, hfs⟩ := id hP
  have hgf := getF_fs n ps
  rw [hfs] at hgf
  cases hd : d.dead
  · rw [hd] at hst
    cases hg : getF n ps with
    | none =>
      rw [hg] at hgf
      have HX : Hid (d.safe n = (0, 2)) := by simp [Hid, Dk.safe, hd, hgf]
      have hfd := dfind_none hst n hn hg
      rw [HX.out]
      clear hst hgf
      go_enter Tryz.func130, Tryz.ntmps130
      go_wp2_with (go_at_call 152; refine hfd.mono ?_; rintro e w' ⟨rfl, rfl⟩)
      go_ret2
      exact ⟨rfl, rfl⟩
    | some p =>
      rw [hg] at hgf
      simp only [Option.map_some] at hgf
      have hfd := dfind_some hst n p hn hg
      have HX : Hid (d.safe n = (p.fl.safe, 0)) := by simp [Hid, Dk.safe, hd, hgf]
      rw [HX.out]
      have hfl := hst.file _ (getF_mem hg)
      obtain ⟨c0, c1, z0, z1⟩ := cells2 hfl.1
      simp only at c0 c1
      clear hgf hst hfl
      go_enter Tryz.func130, Tryz.ntmps130
      go_wp2_with (go_at_call 152; refine hfd.mono ?_; rintro e w' ⟨rfl, rfl⟩; clear hfd)
      go_ret2
      exact ⟨rfl, rfl⟩
  · rw [hd] at hst
    have HX : Hid (d.safe n = (0, 4)) := by simp [Hid, Dk.safe, hd]
    have hfd := dfind_dead hst n
    rw [HX.out]
    clear hst hgf
    go_enter Tryz.func130, Tryz.ntmps130
    go_wp2_with (go_at_call 152; refine hfd.mono ?_; rintro e w' ⟨rfl, rfl⟩)
    go_ret2
    exact ⟨rfl, rfl⟩

set_option maxHeartbeats 1000000 in
theorem dFuse_any (b : Nat) (d : Dk) (n : Int) (S : Nat → Prop) (w : World) (hP : ProgAt w S b d) :
    Calls Tryz.prog 56 #[.pointer (some ⟨b, 0, none⟩), .int .i64 n] w fun e w' => e = .returned (.tuple #[]) ∧ ProgAt w' (Nw S w) b (d.fuse n) ∧ Kp S w w' := by
  obtain ⟨bm, ps, hst, hfs⟩ := id hP
  have hdd := isDead_any hst.blk
  cases hd : d.dead
  · have HX : Hid (d.fuse n = ⟨d.quota, d.files, max n (-1), false, d.turn⟩) := by simp [Hid, Dk.fuse, hd]
    obtain ⟨c0, c1, c2, c3, c8, f0, f1, f2, f3, f9⟩ := cells5 hst.blk
    rw [hd] at hdd hst
    go_enter Tryz.func56, Tryz.ntmps56
    go_wp2_with (go_at_call 99; refine hdd.mono ?_; rintro e w' ⟨rfl, rfl⟩)
    go_end0
    rw [HX.out]
    exact ⟨rfl, ⟨bm, ps, (hst.fields (Kp.set1 _ _ _ _) ((block_set hst.blk _).trans rfl)).mono (fun _ _ s => .inl s), hfs⟩, (Kp.set1 _ _ _ _).b hst.sb⟩
  · have HX : Hid (d.fuse n = d) := by simp [Hid, Dk.fuse, hd]
    rw [hd] at hdd
    go_enter Tryz.func56, Tryz.ntmps56
    go_wp2_with (go_at_call 99; refine hdd.mono ?_; rintro e w' ⟨rfl, rfl⟩)
    refine bodyPost_ret (results_none rfl _ _ _) rfl ?_
    rw [HX.out]
    exact ⟨rfl, hP.nw, Kp.refl _ _⟩

end Go.Proofs.YtoabedkcieindaaGreatDoor
