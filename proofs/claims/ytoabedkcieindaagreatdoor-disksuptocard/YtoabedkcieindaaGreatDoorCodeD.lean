/- The program's disk: drop, Remove, add. -/
import Derived.Test.YtoabedkcieindaaGreatDoorCodeC
namespace Go.Proofs.YtoabedkcieindaaGreatDoor
open Go.RowKit Go.Maps

theorem PrSt.drew {w : World} {S : Nat → Prop} {bd bm : Nat} {ps : PL} {room fuse : Int} {dead : Bool} {turn : Int} (h : PrSt w S bd bm ps room fuse dead turn) : PrSt w.drew S bd bm ps room fuse dead turn := ⟨h.blk, h.map, h.file, h.apart, h.sb, h.sm, h.sf⟩

set_option maxHeartbeats 1000000 in
set_option maxRecDepth 20000 in
theorem drop_any {w : World} {S : Nat → Prop} {bd bm : Nat} {ps : PL} {room fuse : Int} {dead : Bool} {turn : Int} (h : PrSt w S bd bm ps room fuse dead turn) (n : Nm) (p : PF) (hn : n.length ≤ maxLen) (hf : FileAt w p) (hl : p.fl.bytes.length ≤ 1048576) (h0 : -1048576 ≤ room) (h1 : room ≤ 1048576) :
    Calls Tryz.prog 184 #[.pointer (some ⟨bd, 0, none⟩), .string ⟨n.toArray⟩, .pointer (some ⟨p.bf, 0, none⟩)] w fun e w' => e = .returned (.tuple #[]) ∧ PrSt w' S bd bm (del n ps) (room + p.fl.bytes.length) fuse dead turn ∧ Kp (fun i => i = bd ∨ i = bm) w w' := by
  obtain ⟨c0, c1, c2, c3, c8, f0, f1, f2, f3, f9⟩ := cells5 h.blk
  obtain ⟨a, cap, hsv⟩ := ownB_shape hf.2
  obtain ⟨k0, k1, z0, z1⟩ := cells2 hf.1
  rw [hsv] at k0
  have hst1 := (h.fields (Kp.set1 w bd 1 (.int .i64 (room + p.fl.bytes.length))) ((block_set h.blk _).trans rfl)).drew
  obtain ⟨w2, hrun, hm2, kp2⟩ := dropK hst1.map n hn 0
  obtain ⟨q0, q1, q2, q3, q8, _, _, _, _, _⟩ := cells5 hst1.blk
  have HF : Hid (PrSt w2 S bd bm (del n ps) (room + p.fl.bytes.length) fuse dead turn) := hst1.delF n kp2 hm2
  have HK : Hid (Kp (fun i => i = bd ∨ i = bm) w w2) := (((Kp.set1 w bd 1 (.int .i64 (room + p.fl.bytes.length))).mono (fun _ e => Or.inl e)).drew).trans kp2 (fun i _ e => Or.inr e)
  clear hst1 hm2 kp2 h hf hsv
  go_enter Tryz.func184, Tryz.ntmps184
  go_wp2
  go_region
  go_wp2
  go_end0
  exact ⟨rfl, HF.out, HK.out⟩

theorem fs_del (n : Nm) (ps : PL) : fsOf (del n ps) = del n (fsOf ps) := by
  simp only [fsOf, del, List.filter_map]
  congr 1
theorem fs_ins (n : Nm) (p : PF) : ∀ ps : PL, fsOf (ins (n, p) ps) = ins (n, p.fl) (fsOf ps)
  | [] => rfl
  | y :: r => by
    rw [ins]
    show _ = ins (n, p.fl) ((y.1, y.2.fl) :: fsOf r)
    rw [ins]
    show fsOf (if bytesBefore n y.1 then _ else _) = if bytesBefore n y.1 then _ else _
    split
    · rfl
    · show (y.1, y.2.fl) :: fsOf (ins (n, p) r) = _
      rw [fs_ins n p r]
theorem used_del {fs : List (Nm × Fl)} (hr : rising fs) {n : Nm} {x : Fl} (hg : getF n fs = some x) : used (del n fs) + x.bytes.length = used fs := by
  obtain ⟨k, hk, he⟩ := getF_pos hg
  have h1 := del_erase hr hk
  rw [he] at h1
  simp only at h1
  rw [h1]
  have h2 : fs.eraseIdx k = fs.take k ++ fs.drop (k + 1) := List.eraseIdx_eq_take_drop_succ fs k
  have h3 : used fs = used (fs.take k) + used (fs.drop k) := by
    conv => lhs; rw [← List.take_append_drop k fs]
    simp only [used, List.map_append, List.sum_append]
  rw [h2, h3, List.drop_eq_getElem_cons hk, he]
  simp only [used, List.map_append, List.sum_append, List.map_cons, List.sum_cons]
  omega

set_option maxHeartbeats 1000000 in
theorem dRemove_any (b : Nat) (d : Dk) (n : Nm) (S : Nat → Prop) (w : World) (hP : ProgAt w S b d) (hok : d.Ok) (hn : n.length ≤ maxLen) :
    Calls Tryz.prog 129 #[.pointer (some ⟨b, 0, none⟩), .string ⟨n.toArray⟩] w fun e w' => e = .returned (.int .i64 (d.remove n).1) ∧ ProgAt w' (Nw S w) b (d.remove n).2 ∧ Kp S w w' := by
  obtain ⟨bm, ps, hst, hfs⟩ := id hP
  have hgf := getF_fs n ps
  rw [hfs] at hgf
  cases hd : d.dead
  · rw [hd] at hst
    cases hg : getF n ps with
    | none =>
      rw [hg] at hgf
      have HX : Hid (d.remove n = (2, d)) := by simp [Hid, Dk.remove, hd, hgf]
      have hfd := dfind_none hst n hn hg
      clear hst hgf
      go_enter Tryz.func129, Tryz.ntmps129
      go_wp2_with (go_at_call 152; refine hfd.mono ?_; rintro e w' ⟨rfl, rfl⟩)
      go_ret
      rw [HX.out]
      exact ⟨rfl, hP.nw, Kp.refl _ _⟩
    | some p =>
      rw [hg] at hgf
      simp only [Option.map_some] at hgf
      have hfd := dfind_some hst n p hn hg
      by_cases hz : d.left = 0
      · have hbl := blows_die hst.blk hz
        have HX : Hid (d.remove n = (4, d.die)) := by simp [Hid, Dk.remove, hd, hgf, hz]
        clear hgf
        go_enter Tryz.func129, Tryz.ntmps129
        go_wp2_with (first
          | (go_at_call 152; refine hfd.mono ?_; rintro e w' ⟨rfl, rfl⟩)
          | (go_at_call 114; refine hbl.mono ?_; rintro e w1 ⟨rfl, kp, hb1⟩))
        go_ret
        rw [HX.out]
        exact ⟨rfl, ⟨bm, ps, (hst.fields kp hb1).mono (fun _ _ s => .inl s), hfs⟩, kp.b hst.sb⟩
      · have hbl := blows_go hst.blk hok.left0 hok.left1 hz
        have HX : Hid (d.remove n = (0, ⟨d.quota, del n d.files, max (d.left - 1) (-1), false, d.turn⟩)) := by simp [Hid, Dk.remove, hd, hgf, hz, Dk.burn]
        have hlen := bytes_le hok hgf
        have hud := used_del hok.rise hgf
        have hu1 := hok.used
        have hu2 := hok.quota
        clear hgf
        go_enter Tryz.func129, Tryz.ntmps129
        go_wp2_with (first
          | (go_at_call 152; refine hfd.mono ?_; rintro e w' ⟨rfl, rfl⟩; clear hfd)
          | (go_at_call 114; refine hbl.mono ?_; rintro e w1 ⟨rfl, kp, hb1⟩; clear hbl; have hst1 := hst.fields kp hb1)
          | (go_at_call 184; refine (drop_any hst1 n p hn (hst1.file _ (getF_mem hg)) hlen (by omega) (by omega)).mono ?_; rintro e w2 ⟨rfl, hst2, kp2⟩))
        go_ret
        rw [HX.out]
        refine ⟨rfl, ⟨bm, del n ps, ?_, by rw [fs_del, hfs]⟩, (kp.b hst.sb).trans kp2 (fun _ _ s => s.elim (fun e => e ▸ hst.sb) (fun e => e ▸ hst.sm))⟩
        show PrSt _ _ _ _ _ ((d.quota : Int) - used (del n d.files)) _ _ _
        rw [show (d.quota : Int) - used (del n d.files) = d.quota - used d.files + p.fl.bytes.length by omega]
        exact hst2.mono (fun _ _ s => .inl s)
  · rw [hd] at hst
    have HX : Hid (d.remove n = (4, d)) := by simp [Hid, Dk.remove, hd]
    have hfd := dfind_dead hst n
    clear hst hgf
    go_enter Tryz.func129, Tryz.ntmps129
    go_wp2_with (go_at_call 152; refine hfd.mono ?_; rintro e w' ⟨rfl, rfl⟩)
    go_ret
    rw [HX.out]
    exact ⟨rfl, hP.nw, Kp.refl _ _⟩

set_option maxHeartbeats 1000000 in
set_option maxRecDepth 20000 in
theorem add_any {w : World} {S : Nat → Prop} {bd bm : Nat} {ps : PL} {room fuse : Int} {dead : Bool} {turn : Int} (h : PrSt w S bd bm ps room fuse dead turn) (n : Nm) (p : PF) (hn : n.length ≤ 1099511627776) (hl : ps.length ≤ 4194304) (hg : getF n ps = none) (hf : FileAt w p) (hap : ∀ x ∈ ps, Apart p x.2) (hS : S p.bf ∧ ∀ g, p.sv.ownBlock = some g → S g) :
    Calls Tryz.prog 115 #[.pointer (some ⟨bd, 0, none⟩), .string ⟨n.toArray⟩, .pointer (some ⟨p.bf, 0, none⟩)] w fun e w' => e = .returned (.tuple #[]) ∧ PrSt w' S bd bm (ins (n, p) ps) room fuse dead turn ∧ Kp (fun i => i = bm) w w' := by
  obtain ⟨c0, c1, c2, c3, c8, f0, f1, f2, f3, f9⟩ := cells5 h.blk
  go_enter Tryz.func115, Tryz.ntmps115
  go_wp2
  go_region_with (go_at_call 119; refine (sClone_any ⟨n.toArray⟩ w.drew (by show n.length ≤ _; omega)).mono ?_; rintro e w1 ⟨rfl, hb⟩; have hst1 := h.drew.below hb; have hf1 : FileAt w1 p := ⟨block_at2 (w1 := w.drew) hf.1 hb, ownsRow_of_block hf.2 (fun g hg => hb.block g (hf.2.lt g hg).2)⟩; obtain ⟨w2, hrun, hm2, kp2⟩ := store hst1.map n p (by unfold maxLen; omega) (by unfold maxLen; omega) hg; obtain ⟨q0, q1, q2, q3, q8, _, _, _, _, _⟩ := cells5 hst1.blk)
  all_goals go_wp2
  all_goals go_end0
  all_goals exact ⟨rfl, hst1.insF n p hf1 hap hS kp2 hm2, (((Kp.refl _ _).drew).trans (T := fun _ => False) (Kp.of_below (w := w.drew) hb) (fun _ _ f => f.elim)).trans kp2 (fun _ _ e => e)⟩

end Go.Proofs.YtoabedkcieindaaGreatDoor
