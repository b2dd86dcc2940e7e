/- The program's disk: Rename. -/
import Derived.Test.YtoabedkcieindaaGreatDoorCodeE
namespace Go.Proofs.YtoabedkcieindaaGreatDoor
open Go.RowKit Go.Maps

theorem getF_del {α : Type} (n : Nm) (fs : List (Nm × α)) : getF n (del n fs) = none :=
  getF_none (fun k hk e => by
    have hm := List.getElem_mem hk
    have := (List.mem_filter.1 hm).2
    simp [e] at this)
theorem ins_del {α : Type} {n : Nm} {f : α} : ∀ {fs : List (Nm × α)}, rising fs → getF n fs = some f → ins (n, f) (del n fs) = fs
  | [], _, h => by cases h
  | y :: r, hr, h => by
    have hc := List.pairwise_cons.1 hr
    rw [getF] at h
    split at h
    · rename_i e
      obtain ⟨a, x⟩ := y
      simp only at e
      subst e
      simp only [Option.some.injEq] at h
      subst h
      have h1 : del a ((a, x) :: r) = r := by
        have := del_erase hr (k := 0) (by simp)
        simpa using this
      rw [h1]
      cases r with
      | nil => rfl
      | cons z s =>
        rw [ins]
        rw [if_pos (hc.1 z (List.mem_cons_self ..))]
    · rename_i e
      have h1 : del n (y :: r) = y :: del n r := by simp [del, e]
      rw [h1, ins]
      have hny : ¬ bytesBefore n y.1 = true := fun hb => by
        have := hc.1 _ (getF_mem h)
        have h3 := before_trans hb this
        rw [WideAt.bytes_irrefl] at h3
        cases h3
      rw [if_neg hny, ins_del hc.2 h]

set_option maxHeartbeats 2000000 in
set_option maxRecDepth 20000 in
theorem dRename_any (b : Nat) (d : Dk) (n m : Nm) (S : Nat → Prop) (w : World) (hP : ProgAt w S b d) (hok : d.Ok) (hl : d.files.length ≤ 4194302) (hn : n.length ≤ 1099511627776) (hm : m.length ≤ 1099511627776) :
    Calls Tryz.prog 127 #[.pointer (some ⟨b, 0, none⟩), .string ⟨n.toArray⟩, .string ⟨m.toArray⟩] w fun e w' => e = .returned (.int .i64 (d.rename n m).1) ∧ ProgAt w' (Nw S w) b (d.rename n m).2 ∧ Kp S w w' := by
  obtain ⟨bm, ps, hst, hfs⟩ := id hP
  have hgf := getF_fs n ps
  rw [hfs] at hgf
  have hdd := isDead_any hst.blk
  have hnm := isName_any ⟨m.toArray⟩ w (by show m.length ≤ _; unfold maxLen; omega)
  have hu1 := hok.used
  have hu2 := hok.quota
  have hnl : n.length ≤ maxLen := by unfold maxLen; omega
  have hml : m.length ≤ maxLen := by unfold maxLen; omega
  have hpl : ps.length ≤ 4194302 := by rw [← fs_len, hfs]; exact hl
  cases hd : d.dead
  · rw [hd] at hst hdd
    by_cases hk : nameOk m = false
    · have HX : Hid (d.rename n m = (1, d)) := by simp [Hid, Dk.rename, hd, hk]
      clear hst hgf
      go_enter Tryz.func127, Tryz.ntmps127
      go_wp2_with (first
        | (go_at_call 99; refine hdd.mono ?_; rintro e w' ⟨rfl, rfl⟩)
        | (go_at_call 113; refine hnm.mono ?_; rintro e w' ⟨rfl, rfl⟩; simp only [hk]))
      go_ret
      rw [HX.out]
      exact ⟨rfl, hP.nw, Kp.refl _ _⟩
    · rw [Bool.not_eq_false] at hk
      cases hg : getF n ps with
      | none =>
        rw [hg] at hgf
        have HX : Hid (d.rename n m = (2, d)) := by simp [Hid, Dk.rename, hd, hk, hgf]
        have hfd := dfind_none hst n hnl hg
        clear hst hgf
        go_enter Tryz.func127, Tryz.ntmps127
        go_wp2_with (first
          | (go_at_call 99; refine hdd.mono ?_; rintro e w' ⟨rfl, rfl⟩)
          | (go_at_call 113; refine hnm.mono ?_; rintro e w' ⟨rfl, rfl⟩; simp only [hk])
          | (go_at_call 152; refine hfd.mono ?_; rintro e w' ⟨rfl, rfl⟩))
        go_ret
        rw [HX.out]
        exact ⟨rfl, hP.nw, Kp.refl _ _⟩
      | some p =>
        rw [hg] at hgf
        simp only [Option.map_some] at hgf
        have hfd := dfind_some hst n p hnl hg
        by_cases hz : d.left = 0
        · have hbl := blows_die hst.blk hz
          have HX : Hid (d.rename n m = (4, d.die)) := by simp [Hid, Dk.rename, hd, hk, hgf, hz]
          clear hgf
          go_enter Tryz.func127, Tryz.ntmps127
          go_wp2_with (first
            | (go_at_call 99; refine hdd.mono ?_; rintro e w' ⟨rfl, rfl⟩)
            | (go_at_call 113; refine hnm.mono ?_; rintro e w' ⟨rfl, rfl⟩; simp only [hk])
            | (go_at_call 152; refine hfd.mono ?_; rintro e w' ⟨rfl, rfl⟩)
            | (go_at_call 114; refine hbl.mono ?_; rintro e w1 ⟨rfl, kp, hb1⟩))
          go_ret
          rw [HX.out]
          exact ⟨rfl, ⟨bm, ps, (hst.fields kp hb1).mono (fun _ _ s => .inl s), hfs⟩, kp.b hst.sb⟩
        · have hbl := blows_go hst.blk hok.left0 hok.left1 hz
          have hri : rising ps := rising_ps (by rw [hfs]; exact hok.rise)
          have HX : Hid (d.rename n m = (0, ⟨d.quota, ins (m, p.fl) (del m (del n d.files)), max (d.left - 1) (-1), false, d.turn⟩)) := by
            have : moved n m p.fl d.files = ins (m, p.fl) (del m (del n d.files)) := by
              unfold moved
              split
              · rename_i e; subst e
                rw [del_none (getF_del n _), ins_del hok.rise hgf]
              · rfl
            simp [Hid, Dk.rename, hd, hk, hgf, hz, Dk.burn, this]
          obtain ⟨k, hk', hek⟩ := getF_pos hg
          have hud := used_del hok.rise hgf
          have hsp := hst.sf _ (getF_mem hg)
          have hap : ∀ x ∈ del n ps, Apart p x.2 := fun x hx => by
            obtain ⟨hx1, hx2⟩ := List.mem_filter.1 hx
            obtain ⟨j, hj, rfl⟩ := List.getElem_of_mem hx1
            have := apart_at hst.apart hk' hj (fun e => by subst e; simp [hek] at hx2)
            rwa [hek] at this
          have hdl : (del n ps).length ≤ 4194302 := Nat.le_trans (List.length_filter_le _ _) hpl
          have HG : Hid (getF n d.files = some p.fl) := hgf
          clear hgf
          cases hgm : getF m (del n ps) with
          | none =>
            go_enter Tryz.func127, Tryz.ntmps127
            go_wp2_with (first
              | (go_at_call 99; refine hdd.mono ?_; rintro e w' ⟨rfl, rfl⟩; clear hdd)
              | (go_at_call 113; refine hnm.mono ?_; rintro e w' ⟨rfl, rfl⟩; simp only [hk]; clear hnm)
              | (go_at_call 152; refine hfd.mono ?_; rintro e w' ⟨rfl, rfl⟩; clear hfd)
              | (go_at_call 114; refine hbl.mono ?_; rintro e w1 ⟨rfl, kp, hb1⟩; clear hbl; have hst1 := hst.fields kp hb1; obtain ⟨w2, hrun, hm2, kp2⟩ := dropK hst1.map n hnl 0; have hst2 := hst1.delF n kp2 hm2; have hlk := look hst2.map m hml; rw [hgm] at hlk; simp only [ptrOf] at hlk; have hf1 := hst1.file _ (getF_mem hg); have hf2 : FileAt w2 p := ⟨kp2.at hf1.1 (map_ne hst1.map hf1.1), kp2.row hf1.2 (fun g hg' => row_map hst1.map hf1.2 hg')⟩; obtain ⟨r0, r1, r2, r3, r8, r4, r5, r6, r7, r9⟩ := cells5 hst1.blk; obtain ⟨t0, t1, t2, t3, t8, t4, t5, t6, t7, t9⟩ := cells5 hst2.blk)
              | (go_at_call 115; refine (add_any hst2 m p hm (by omega) hgm hf2 hap hsp).mono ?_; rintro e w3 ⟨rfl, hst3, kp3⟩))
            go_ret
            rw [HX.out]
            have hui := used_ins (m, p.fl) (del n d.files)
            simp only at hui
            have hdn : del m (del n d.files) = del n d.files := del_none (by rw [← hfs, ← fs_del, getF_fs, hgm]; rfl)
            rw [hdn]
            refine ⟨rfl, ⟨bm, _, ?_, by rw [fs_ins, fs_del, hfs]⟩, (((kp.b hst.sb).trans kp2 (fun i _ e => by subst e; exact hst.sm))).trans kp3 (fun i _ e => by subst e; exact hst.sm)⟩
            show PrSt _ _ _ _ _ ((d.quota : Int) - used (ins (m, p.fl) (del n d.files))) _ _ _
            rw [show (d.quota : Int) - used (ins (m, p.fl) (del n d.files)) = d.quota - used d.files by omega]
            exact hst3.mono (fun _ _ s => .inl s)
          | some q =>
            have hgq : getF m (del n d.files) = some q.fl := by rw [← hfs, ← fs_del, getF_fs, hgm]; rfl
            have hudq := used_del (rising_del hok.rise) hgq
            have hql : q.fl.bytes.length ≤ 1048576 := by omega
            go_enter Tryz.func127, Tryz.ntmps127
            go_wp2_with (first
              | (go_at_call 99; refine hdd.mono ?_; rintro e w' ⟨rfl, rfl⟩; clear hdd)
              | (go_at_call 113; refine hnm.mono ?_; rintro e w' ⟨rfl, rfl⟩; simp only [hk]; clear hnm)
              | (go_at_call 152; refine hfd.mono ?_; rintro e w' ⟨rfl, rfl⟩; clear hfd)
              | (go_at_call 114; refine hbl.mono ?_; rintro e w1 ⟨rfl, kp, hb1⟩; clear hbl; have hst1 := hst.fields kp hb1; obtain ⟨w2, hrun, hm2, kp2⟩ := dropK hst1.map n hnl 0; have hst2 := hst1.delF n kp2 hm2; have hlk := look hst2.map m hml; rw [hgm] at hlk; simp only [ptrOf] at hlk; have hf1 := hst1.file _ (getF_mem hg); have hf2 : FileAt w2 p := ⟨kp2.at hf1.1 (map_ne hst1.map hf1.1), kp2.row hf1.2 (fun g hg' => row_map hst1.map hf1.2 hg')⟩; obtain ⟨r0, r1, r2, r3, r8, r4, r5, r6, r7, r9⟩ := cells5 hst1.blk; obtain ⟨t0, t1, t2, t3, t8, t4, t5, t6, t7, t9⟩ := cells5 hst2.blk)
              | (go_at_call 184; refine (drop_any hst2 m q hml (hst2.file _ (getF_mem hgm)) hql (by omega) (by omega)).mono ?_; rintro e w4 ⟨rfl, hst4, kp4⟩; have hf4 : FileAt w4 p := ⟨kp4.at hf2.1 (fun e => e.elim (fun e => cells_ne hf2.1 hst2.blk (by decide) e) (fun e => map_ne hst2.map hf2.1 e)), kp4.row hf2.2 (fun g hg' e => e.elim (fun e => row_ne hst2.blk hf2.2 hg' (by decide) e) (fun e => row_map hst2.map hf2.2 hg' e))⟩)
              | (go_at_call 115; refine (add_any hst4 m p hm (Nat.le_trans (List.length_filter_le _ _) (by omega)) (getF_del m _) hf4 (fun x hx => hap x (List.mem_filter.1 hx).1) hsp).mono ?_; rintro e w3 ⟨rfl, hst3, kp3⟩))
            go_ret
            rw [HX.out]
            have hui := used_ins (m, p.fl) (del m (del n d.files))
            simp only at hui
            refine ⟨rfl, ⟨bm, _, ?_, by rw [fs_ins, fs_del, fs_del, hfs]⟩, ((((kp.b hst.sb).trans kp2 (fun i _ e => by subst e; exact hst.sm))).trans kp4 (fun i _ s => s.elim (fun e => e ▸ hst.sb) (fun e => e ▸ hst.sm))).trans kp3 (fun i _ e => by subst e; exact hst.sm)⟩
            show PrSt _ _ _ _ _ ((d.quota : Int) - used (ins (m, p.fl) (del m (del n d.files)))) _ _ _
            rw [show (d.quota : Int) - used (ins (m, p.fl) (del m (del n d.files))) = d.quota - used d.files + q.fl.bytes.length by omega]
            exact hst3.mono (fun _ _ s => .inl s)
  · rw [hd] at hdd hst
    have HX : Hid (d.rename n m = (4, d)) := by simp [Hid, Dk.rename, hd]
    have hfd := dfind_dead hst n
    clear hst hgf
    go_enter Tryz.func127, Tryz.ntmps127
    go_wp2_with (first
      | (go_at_call 99; refine hdd.mono ?_; rintro e w' ⟨rfl, rfl⟩)
      | (go_at_call 152; refine hfd.mono ?_; rintro e w' ⟨rfl, rfl⟩))
    go_ret
    rw [HX.out]
    exact ⟨rfl, hP.nw, Kp.refl _ _⟩

end Go.Proofs.YtoabedkcieindaaGreatDoor
