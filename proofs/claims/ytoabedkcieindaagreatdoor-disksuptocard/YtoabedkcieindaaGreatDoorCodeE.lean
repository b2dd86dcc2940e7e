/- The program's disk: Write. -/
import Derived.Test.YtoabedkcieindaaGreatDoorApp
namespace Go.Proofs.YtoabedkcieindaaGreatDoor
open Go.RowKit Go.Maps

theorem used_ins (x : Nm × Fl) (fs : List (Nm × Fl)) : used (ins x fs) = used fs + x.2.bytes.length := by
  have := ((ins_perm x fs).map (fun y => y.2.bytes.length)).sum_nat
  simp only [used]
  rw [this]
  simp only [List.map_cons, List.sum_cons]
  omega

theorem upd_none {α : Type} {n : Nm} {f : α → α} {fs : List (Nm × α)} (h : getF n fs = none) : upd n f fs = fs := by
  induction fs with
  | nil => rfl
  | cons x r ih =>
    rw [getF] at h
    split at h
    · cases h
    · rename_i e
      show (if x.1 = n then _ else _) :: upd n f r = _
      rw [if_neg e, ih h]
theorem upd_ins {α : Type} {n : Nm} {f : α → α} {x : α} : ∀ {fs : List (Nm × α)}, getF n fs = none → upd n f (ins (n, x) fs) = ins (n, f x) fs
  | [], _ => by simp [ins, upd]
  | y :: r, h => by
    have h0 := h
    rw [getF] at h
    split at h
    · cases h
    · rename_i e
      rw [ins, ins]
      show upd n f (if bytesBefore n y.1 then _ else _) = if bytesBefore n y.1 then _ else _
      split
      · show (if n = n then _ else _) :: upd n f (y :: r) = _
        rw [if_pos rfl, upd_none h0]
      · show (if y.1 = n then _ else _) :: upd n f (ins (n, x) r) = _
        rw [if_neg e, upd_ins h]
theorem before_trans {a b c : Nm} (h1 : bytesBefore a b = true) (h2 : bytesBefore b c = true) : bytesBefore a c = true := WideShapes.bytes_trans a b c h1 h2
theorem rising_ins {α : Type} {n : Nm} {x : α} : ∀ {fs : List (Nm × α)}, rising fs → getF n fs = none → rising (ins (n, x) fs)
  | [], _, _ => by simp [ins, rising]
  | y :: r, hr, h => by
    rw [getF] at h
    split at h
    · cases h
    · rename_i e
      have hc := List.pairwise_cons.1 hr
      rw [ins]
      split
      · rename_i hb
        refine List.pairwise_cons.2 ⟨fun z hz => ?_, hr⟩
        rcases List.mem_cons.1 hz with rfl | hz
        · exact hb
        · exact before_trans hb (hc.1 z hz)
      · rename_i hb
        refine List.pairwise_cons.2 ⟨fun z hz => ?_, rising_ins hc.2 h⟩
        rcases List.mem_cons.1 ((ins_perm (n, x) r).mem_iff.1 hz) with rfl | hz
        · rcases WideAt.bytes_total y.1 n e with h1 | h1
          · exact h1
          · exact absurd h1 hb
        · exact hc.1 z hz
theorem getF_ins {α : Type} {n : Nm} {x : α} {fs : List (Nm × α)} (hr : rising fs) (h : getF n fs = none) : getF n (ins (n, x) fs) = some x := by
  have hm : (n, x) ∈ ins (n, x) fs := (ins_perm (n, x) fs).mem_iff.2 (List.mem_cons_self ..)
  obtain ⟨k, hk, he⟩ := List.getElem_of_mem hm
  have hri := rising_ins (x := x) hr h
  rw [getF_at hk (by rw [he]) (fun j hj e => by
    have := rising_at hri (i := j) (j := k) (by omega) hk (e.trans (by rw [he]))
    omega), he]
theorem rising_ps {ps : PL} (h : rising (fsOf ps)) : rising ps := by
  unfold rising fsOf at h
  rw [List.pairwise_map] at h
  exact h

/-- Bytes are appended to a file. -/
theorem write_close {w1 w2 : World} {S : Nat → Prop} {b bm : Nat} {ps : PL} {room room' fuse turn : Int} {k : Nat} {n : Nm} {p : PF} {v' : Value} {c : List UInt8} (hst : PrSt w1 S b bm ps room fuse false turn) (hk : k < ps.length) (hek : ps[k] = (n, p))
    (kp2 : Kp (fun i => p.sv.ownBlock = some i) w1 w2) (hob : OwnB w2 0 v' (p.fl.bytes ++ c)) (hfr : ∀ g, v'.ownBlock = some g → p.sv.ownBlock = some g ∨ w1.heap.size ≤ g) :
    PrSt ((w2.setCell ⟨p.bf, 0, none⟩ v').setCell ⟨b, 1, none⟩ (.int .i64 room')) (Nw S w1) b bm (ps.set k (ps[k].1, ⟨addB c p.fl, p.bf, v'⟩)) room' fuse false turn ∧ Kp S w1 ((w2.setCell ⟨p.bf, 0, none⟩ v').setCell ⟨b, 1, none⟩ (.int .i64 room')) := by
  have hfl := hst.file _ (List.getElem_mem hk)
  have hsf := hst.sf _ (List.getElem_mem hk)
  rw [hek] at hfl hsf
  simp only at hfl hsf
  have hne2 : ∀ g, p.sv.ownBlock = some g → g ≠ p.bf := fun g hg => row_ne hfl.1 hfl.2 hg (by decide)
  have hf2 := kp2.at hfl.1 (fun e => hne2 _ e rfl)
  have k3 : Kp (fun i => i = p.bf ∨ p.sv.ownBlock = some i) w1 (w2.setCell ⟨p.bf, 0, none⟩ v') := (kp2.mono (fun _ h => .inr h)).put (.inl rfl) _
  have h3 := hst.setF k hk ⟨addB c p.fl, p.bf, v'⟩ (by rw [hek]) (w' := w2.setCell ⟨p.bf, 0, none⟩ v') (k3.mono (fun i hi => by rw [hek]; exact hi))
    ⟨(block_set hf2 _).trans rfl, ownsRow_of_block hob (fun g hg => Below.heap_setCell _ _ _ _ (row_ne hf2 hob hg (by decide)))⟩ (fun g hg => by rw [hek]; exact hfr g hg)
  refine ⟨h3.fields (Kp.set1 _ _ _ _) ((block_set h3.blk _).trans rfl), ?_⟩
  refine Kp.put (k3.mono (fun i hi => ?_)) hst.sb _
  rcases hi with rfl | hi
  · exact hsf.1
  · exact hsf.2 i hi

/-- Behind a failing test nothing has turned. -/
theorem ProgAt.same {w : World} {S : Nat → Prop} {b : Nat} {d : Dk} (h : ProgAt w S b d) : ProgAt w (Nw S w) b d := h.nw

set_option maxHeartbeats 1000000 in
set_option maxRecDepth 20000 in
theorem dWrite_any (b : Nat) (d : Dk) (n : Nm) (c : List UInt8) (S : Nat → Prop) (w : World) (hP : ProgAt w S b d) (hok : d.Ok) (hl : d.files.length ≤ 4194302) (hn : n.length ≤ 1099511627776) (hc : c.length ≤ 1099511627776) :
    Calls Tryz.prog 65 #[.pointer (some ⟨b, 0, none⟩), .string ⟨n.toArray⟩, .string ⟨c.toArray⟩] w fun e w' => e = .returned (.int .i64 (d.write n c).1) ∧ ProgAt w' (Nw S w) b (d.write n c).2 ∧ Kp S w w' := by
  obtain ⟨bm, ps, hst, hfs⟩ := id hP
  have hgf := getF_fs n ps
  rw [hfs] at hgf
  have hdd := isDead_any hst.blk
  have hnm := isName_any ⟨n.toArray⟩ w (by show n.length ≤ _; unfold maxLen; omega)
  have hu1 := hok.used
  have hu2 := hok.quota
  have hml : n.length ≤ maxLen := by unfold maxLen; omega
  have hpl : ps.length ≤ 4194302 := by rw [← fs_len, hfs]; exact hl
  obtain ⟨c0, c1, c2, c3, c8, f0, f1, f2, f3, f9⟩ := cells5 hst.blk
  cases hd : d.dead
  · rw [hd] at hst hdd
    by_cases hk : nameOk n = false
    · have HX : Hid (d.write n c = (1, d)) := by simp [Hid, Dk.write, hd, hk]
      clear hst hgf
      go_enter Tryz.func65, Tryz.ntmps65
      go_wp2_with (first
        | (go_at_call 99; refine hdd.mono ?_; rintro e w' ⟨rfl, rfl⟩)
        | (go_at_call 113; refine hnm.mono ?_; rintro e w' ⟨rfl, rfl⟩; simp only [hk]))
      go_ret
      rw [HX.out]
      exact ⟨rfl, hP.nw, Kp.refl _ _⟩
    · rw [Bool.not_eq_false] at hk
      by_cases hq : d.quota < used d.files + c.length
      · have HX : Hid (d.write n c = (3, d)) := by simp [Hid, Dk.write, hd, hk, hq]
        clear hst hgf
        go_enter Tryz.func65, Tryz.ntmps65
        go_wp2_with (first
          | (go_at_call 99; refine hdd.mono ?_; rintro e w' ⟨rfl, rfl⟩)
          | (go_at_call 113; refine hnm.mono ?_; rintro e w' ⟨rfl, rfl⟩; simp only [hk]))
        go_ret
        rw [HX.out]
        exact ⟨rfl, hP.nw, Kp.refl _ _⟩
      · by_cases hz : d.left = 0
        · have hbl := blows_die hst.blk hz
          have HX : Hid (d.write n c = (4, d.die)) := by simp [Hid, Dk.write, hd, hk, hq, hz]
          clear hgf
          go_enter Tryz.func65, Tryz.ntmps65
          go_wp2_with (first
            | (go_at_call 99; refine hdd.mono ?_; rintro e w' ⟨rfl, rfl⟩)
            | (go_at_call 113; refine hnm.mono ?_; rintro e w' ⟨rfl, rfl⟩; simp only [hk])
            | (go_at_call 114; refine hbl.mono ?_; rintro e w1 ⟨rfl, kp, hb1⟩))
          go_ret
          rw [HX.out]
          exact ⟨rfl, ⟨bm, ps, (hst.fields kp hb1).mono (fun _ _ s => .inl s), hfs⟩, kp.b hst.sb⟩
        · have hbl := blows_go hst.blk hok.left0 hok.left1 hz
          cases hg : getF n ps with
          | none =>
            rw [hg] at hgf
            have HX : Hid (d.write n c = (0, ⟨d.quota, ins (n, ⟨c, 0⟩) d.files, max (d.left - 1) (-1), false, d.turn⟩)) := by simp [Hid, Dk.write, hd, hk, hq, hz, hgf, Dk.burn]
            have hri : rising ps := rising_ps (by rw [hfs]; exact hok.rise)
            have hui := used_ins (n, ⟨c, 0⟩) d.files
            have HG : Hid (getF n d.files = none) := hgf
            clear hgf
            go_enter Tryz.func65, Tryz.ntmps65
            go_wp2_with (first
              | (go_at_call 99; refine hdd.mono ?_; rintro e w' ⟨rfl, rfl⟩; clear hdd)
              | (go_at_call 113; refine hnm.mono ?_; rintro e w' ⟨rfl, rfl⟩; simp only [hk]; clear hnm)
              | (go_at_call 114; refine hbl.mono ?_; rintro e w1 ⟨rfl, kp, hb1⟩; clear hbl; have hst1 := hst.fields kp hb1; have hlk := look hst1.map n hml; rw [hg] at hlk; simp only [ptrOf] at hlk; obtain ⟨r0, r1, r2, r3, r8, r4, r5, r6, r7, r9⟩ := cells5 hst1.blk; have hblt := lt_of_block hst1.blk)
              | (go_at_call 115; refine (add_any (w := w1.alloc (.cells #[.slice none 0 0, .int .i64 0] 159)) ((hst1.below ((Below.refl _ w1).alloc (Nat.le_refl _) _)).mono (T := Nw S w1) (fun _ _ s => .inl s)) n ⟨⟨[], 0⟩, w1.heap.size, .slice none 0 0⟩ hn (by omega) hg ⟨block_new w1 _, World.ownsRow_nil _ _ _ _⟩ (fun x hx => ⟨fun e => by have := lt_of_block (hst1.file x hx).1; simp only at e; omega, fun g hg' => by simp [Value.ownBlock] at hg'⟩) ⟨.inr (Nat.le_refl _), fun g hg' => by simp [Value.ownBlock] at hg'⟩).mono ?_; rintro e w3 ⟨rfl, hst3, kp3⟩; obtain ⟨k, hk', hek⟩ := getF_pos (getF_ins (x := (⟨⟨[], 0⟩, w1.heap.size, .slice none 0 0⟩ : PF)) hri hg); have hfl := hst3.file _ (List.getElem_mem hk'); rw [hek] at hfl; simp only at hfl; obtain ⟨g0, g1, z0, z1⟩ := cells2 hfl.1; obtain ⟨t0, t1, t2, t3, t8, t4, t5, t6, t7, t9⟩ := cells5 hst3.blk; have hbne : b ≠ w1.heap.size := cells_ne hst3.blk hfl.1 (by decide))
              | (at_builtin; refine wpList_app_str w3 rfl (.tmp 44) (.tmp 45) rfl (.slice none 0 0) [] c rfl rfl hfl.2 (by simp; omega) ?_; intro v' w2 hob kp2 hfr; obtain ⟨a', cap', hsv'⟩ := ownB_shape hob; subst hsv'; have hb2 := kp2.at hst3.blk (fun e => by simp [Value.ownBlock] at e); have hf2 := kp2.at hfl.1 (fun e => by simp [Value.ownBlock] at e); obtain ⟨y0, y1, x0, x1⟩ := cells2 hf2; obtain ⟨s0, s1, s2, s3, s8, s4, s5, s6, s7, s9⟩ := cells5 hb2))
            go_ret
            have hcl := write_close (room' := (d.quota : Int) - used d.files - c.length) hst3 hk' hek kp2 hob hfr
            rw [HX.out]
            have e2 : fsOf ((ins (n, (⟨⟨[], 0⟩, w1.heap.size, .slice none 0 0⟩ : PF)) ps).set k ((ins (n, (⟨⟨[], 0⟩, w1.heap.size, .slice none 0 0⟩ : PF)) ps)[k].1, ⟨addB c ⟨[], 0⟩, w1.heap.size, .slice a' ([] ++ c).length cap'⟩)) = ins (n, ⟨c, 0⟩) d.files := by
              rw [fs_upd (p := ⟨⟨[], 0⟩, w1.heap.size, .slice none 0 0⟩) (n := n) (by rw [fs_ins, hfs]; exact rising_ins hok.rise HG.out) hk' hek (addB c) rfl, fs_ins, hfs, upd_ins HG.out]
              simp [addB]
            have kpa : Kp S w' w3 := kpNw ((((kp.b (S := Nw S w') (.inl hst.sb)).alloc _).trans kp3 (fun i hi e => by subst e; exact .inl hst.sm)))
            refine ⟨rfl, ⟨bm, _, ?_, e2⟩, kpNw ((kpa.mono (T := Nw S w') (fun _ s => .inl s)).trans hcl.2 (fun i hi s => s.elim .inl (fun h => .inr (Nat.le_trans kp.size h))))⟩
            show PrSt _ _ _ _ _ ((d.quota : Int) - used (ins (n, ⟨c, 0⟩) d.files)) _ _ _
            rw [show (d.quota : Int) - used (ins (n, ⟨c, 0⟩) d.files) = d.quota - used d.files - c.length by omega]
            exact hcl.1.mono (fun i _ s => by
              rcases s with (s | s) | s
              · exact .inl s
              · exact .inr (Nat.le_trans kp.size s)
              · exact .inr (Nat.le_trans kpa.size s))
          | some p =>
            rw [hg] at hgf
            simp only [Option.map_some] at hgf
            have HX : Hid (d.write n c = (0, ⟨d.quota, upd n (addB c) d.files, max (d.left - 1) (-1), false, d.turn⟩)) := by simp [Hid, Dk.write, hd, hk, hq, hz, hgf, Dk.burn]
            have hlen := bytes_le hok hgf
            have hup := used_upd hok.rise hgf (addB c)
            obtain ⟨k, hk', hek⟩ := getF_pos hg
            clear hgf
            go_enter Tryz.func65, Tryz.ntmps65
            go_wp2_with (first
              | (go_at_call 99; refine hdd.mono ?_; rintro e w' ⟨rfl, rfl⟩; clear hdd)
              | (go_at_call 113; refine hnm.mono ?_; rintro e w' ⟨rfl, rfl⟩; simp only [hk]; clear hnm)
              | (go_at_call 114; refine hbl.mono ?_; rintro e w1 ⟨rfl, kp, hb1⟩; clear hbl; have hst1 := hst.fields kp hb1; have hlk := look hst1.map n hml; rw [hg] at hlk; simp only [ptrOf] at hlk; have hfl := hst1.file _ (List.getElem_mem hk'); rw [hek] at hfl; simp only at hfl; obtain ⟨a, cap, hsv⟩ := ownB_shape hfl.2; obtain ⟨g0, g1, z0, z1⟩ := cells2 hfl.1; rw [hsv] at g0; obtain ⟨r0, r1, r2, r3, r8, r4, r5, r6, r7, r9⟩ := cells5 hst1.blk; have hbne : b ≠ p.bf := cells_ne hst1.blk hfl.1 (by decide))
              | (at_builtin; refine wpList_app_str w1 rfl (.tmp 44) (.tmp 45) rfl p.sv p.fl.bytes c (by rw [hsv]; rfl) rfl hfl.2 (by omega) ?_; intro v' w2 hob kp2 hfr; obtain ⟨a', cap', hsv'⟩ := ownB_shape hob; subst hsv'; have hne2 : ∀ g, p.sv.ownBlock = some g → g ≠ p.bf := fun g hg => row_ne hfl.1 hfl.2 hg (by decide); have hb2 := kp2.at hst1.blk (fun e => row_ne hst1.blk hfl.2 e (by decide) rfl); have hf2 := kp2.at hfl.1 (fun e => hne2 _ e rfl); obtain ⟨y0, y1, x0, x1⟩ := cells2 hf2; obtain ⟨s0, s1, s2, s3, s8, s4, s5, s6, s7, s9⟩ := cells5 hb2))
            go_ret
            have hcl := write_close (room' := (d.quota : Int) - used d.files - c.length) hst1 hk' hek kp2 hob hfr
            have e1 : (d.quota : Int) - used (upd n (addB c) d.files) = d.quota - used d.files - c.length := by simp only [addB, List.length_append] at hup; omega
            simp only [List.length_append] at hcl
            rw [HX.out]
            refine ⟨rfl, ⟨bm, _, ?_, (fs_upd (p' := ⟨addB c p.fl, p.bf, .slice a' (p.fl.bytes.length + c.length) cap'⟩) (by rw [hfs]; exact hok.rise) hk' hek (addB c) rfl).trans (by rw [hfs])⟩, (kp.b hst.sb).trans hcl.2 (fun _ _ s => s)⟩
            show PrSt _ _ _ _ _ ((d.quota : Int) - used (upd n (addB c) d.files)) _ _ _
            rw [e1]
            exact hcl.1.mono (fun i _ s => s.elim .inl (fun h => .inr (Nat.le_trans kp.size h)))
  · rw [hd] at hdd
    have HX : Hid (d.write n c = (4, d)) := by simp [Hid, Dk.write, hd]
    clear hst hgf
    go_enter Tryz.func65, Tryz.ntmps65
    go_wp2_with (go_at_call 99; refine hdd.mono ?_; rintro e w' ⟨rfl, rfl⟩)
    go_ret
    rw [HX.out]
    exact ⟨rfl, hP.nw, Kp.refl _ _⟩

end Go.Proofs.YtoabedkcieindaaGreatDoor
