import Derived.Test.YtoabedkcieindaaGreatDoorPkAC
import Derived.Lib.AppendStr
namespace Go.Proofs.YtoabedkcieindaaGreatDoor
open Go.RowKit Go.Maps

theorem ownB_cells {w : World} {base g n cap : Nat} {l : List UInt8} (h : OwnB w base (.slice (some ⟨g, 0, none⟩) n cap) l) : ∀ i (hi : i < l.length), w.cell? ⟨g, i, none⟩ = some (encB l[i]) := by
  intro i hi
  obtain ⟨a, c, e⟩ := ownB_shape h
  have hn : n = l.length := by simpa using (Value.slice.inj e).2.1
  subst hn
  have := World.ownsRow.cellAt (size := 1) h i (by omega)
  rw [this]
  simp [hi]

theorem nums_bytes (l : List UInt8) : strOfNums (l.map fun c => (c.toNat : Int)) = ⟨l.toArray⟩ := by
  have : (strOfNums (l.map fun c => (c.toNat : Int))).data.toList = l := by
    rw [strOfNums_data, List.map_map]
    conv => rhs; rw [← List.map_id l]
    apply List.map_congr_left
    intro c _
    simp
  cases h : strOfNums (l.map fun c => (c.toNat : Int)) with
  | mk a => rw [h] at this; simp at this; subst this; simp

theorem conv_bytes {w : World} {base : Nat} {v : Value} {l : List UInt8} (h : OwnB w base v l) : (convert 91 9 v).run Tryz.prog w = .ok (.string ⟨l.toArray⟩) w := by
  obtain ⟨a, cap, rfl⟩ := ownB_shape h
  rcases h.2 with ⟨hv, hn⟩ | ⟨g, cap', cur, hv, _⟩
  · have hl : l = [] := List.eq_nil_of_length_eq_zero hn
    subst hl
    rw [hv]
    exact run_convert_bytes_nil w _ 5 Tryz.underlying91 Tryz.underlying5 _ _ _ Tryz.underlying9
  · obtain ⟨rfl, -, rfl⟩ : a = some ⟨g, 0, none⟩ ∧ True ∧ cap = cap' := by simpa using hv
    rw [run_convert_bytes_arg w _ 5 Tryz.underlying91 Tryz.underlying5 g 0 l.length cap (l.map fun c => (c.toNat : Int)) (by simp) (fun i hi => by
      rw [Nat.zero_add, ownB_cells h i hi]
      simp [encB, List.getD, hi]) _ Tryz.underlying9, nums_bytes]

set_option maxHeartbeats 1000000 in
theorem dRead_any (b : Nat) (d : Dk) (n : Nm) (S : Nat → Prop) (w : World) (hP : ProgAt w S b d) (hn : n.length ≤ maxLen) :
    Calls Tryz.prog 106 #[.pointer (some ⟨b, 0, none⟩), .string ⟨n.toArray⟩] w fun e w' => e = .returned (.tuple #[.string ⟨(d.read n).1.toArray⟩, .int .i64 (d.read n).2]) ∧ w' = w := by
  obtain ⟨bm, ps, hst, hfs⟩ := id hP
  have hgf := getF_fs n ps
  rw [hfs] at hgf
  cases hd : d.dead
  · rw [hd] at hst
    cases hg : getF n ps with
    | none =>
      rw [hg] at hgf
      have HX : Hid (d.read n = ([], 2)) := by simp [Hid, Dk.read, hd, hgf]
      have hfd := dfind_none hst n hn hg
      rw [HX.out]
      clear hst hgf
      go_enter Tryz.func106, Tryz.ntmps106
      go_wp2_with (go_at_call 152; refine hfd.mono ?_; rintro e w' ⟨rfl, rfl⟩)
      go_ret2
      exact ⟨rfl, rfl⟩
    | some p =>
      rw [hg] at hgf
      simp only [Option.map_some] at hgf
      have hfd := dfind_some hst n p hn hg
      have HX : Hid (d.read n = (p.fl.bytes, 0)) := by simp [Hid, Dk.read, hd, hgf]
      rw [HX.out]
      have hfl := hst.file _ (getF_mem hg)
      have hcv := conv_bytes hfl.2
      obtain ⟨a, cap, hsv⟩ := ownB_shape hfl.2
      obtain ⟨c0, c1, z0, z1⟩ := cells2 hfl.1
      simp only at hsv hcv c0
      rw [hsv] at c0 hcv
      clear hgf hst hfl hsv
      go_enter Tryz.func106, Tryz.ntmps106
      go_wp2_with (go_at_call 152; refine hfd.mono ?_; rintro e w' ⟨rfl, rfl⟩; clear hfd)
      go_ret2
      exact ⟨rfl, rfl⟩
  · rw [hd] at hst
    have HX : Hid (d.read n = ([], 4)) := by simp [Hid, Dk.read, hd]
    have hfd := dfind_dead hst n
    rw [HX.out]
    clear hst hgf
    go_enter Tryz.func106, Tryz.ntmps106
    go_wp2_with (go_at_call 152; refine hfd.mono ?_; rintro e w' ⟨rfl, rfl⟩)
    go_ret2
    exact ⟨rfl, rfl⟩

set_option maxHeartbeats 1000000 in
theorem dSafe_any (b : Nat) (d : Dk) (n : Nm) (S : Nat → Prop) (w : World) (hP : ProgAt w S b d) (hn : n.length ≤ maxLen) :
    Calls Tryz.prog 130 #[.pointer (some ⟨b, 0, none⟩), .string ⟨n.toArray⟩] w fun e w' => e = .returned (.tuple #[.int .i64 (d.safe n).1, .int .i64 (d.safe n).2]) ∧ w' = w := by
  obtain ⟨bm, ps, hst, hfs⟩ := id hP
  have hgf := getF_fs n ps
  rw [hfs] at hgf
  cases hd : d.dead
  · rw [hd] at hst
    cases hg : getF n ps with
    | none =>
      rw [hg] at hgf
      have HX : Hid (d.safe n = (0, 2)) := by simp [Hid, Dk.safe, hd, hgf]
      have hfd := dfind_none hst n hn hg
      rw [HX.out]
      clear hst hgf
      go_enter Tryz.func130, Tryz.ntmps130
      go_wp2_with (go_at_call 152; refine hfd.mono ?_; rintro e w' ⟨rfl, rfl⟩)
      go_ret2
      exact ⟨rfl, rfl⟩
    | some p =>
      rw [hg] at hgf
      simp only [Option.map_some] at hgf
      have hfd := dfind_some hst n p hn hg
      have HX : Hid (d.safe n = (p.fl.safe, 0)) := by simp [Hid, Dk.safe, hd, hgf]
      rw [HX.out]
      have hfl := hst.file _ (getF_mem hg)
      obtain ⟨c0, c1, z0, z1⟩ := cells2 hfl.1
      simp only at c0 c1
      clear hgf hst hfl
      go_enter Tryz.func130, Tryz.ntmps130
      go_wp2_with (go_at_call 152; refine hfd.mono ?_; rintro e w' ⟨rfl, rfl⟩; clear hfd)
      go_ret2
      exact ⟨rfl, rfl⟩
  · rw [hd] at hst
    have HX : Hid (d.safe n = (0, 4)) := by simp [Hid, Dk.safe, hd]
    have hfd := dfind_dead hst n
    rw [HX.out]
    clear hst hgf
    go_enter Tryz.func130, Tryz.ntmps130
    go_wp2_with (go_at_call 152; refine hfd.mono ?_; rintro e w' ⟨rfl, rfl⟩)
    go_ret2
    exact ⟨rfl, rfl⟩

set_option maxHeartbeats 1000000 in
theorem dFuse_any (b : Nat) (d : Dk) (n : Int) (S : Nat → Prop) (w : World) (hP : ProgAt w S b d) :
    Calls Tryz.prog 56 #[.pointer (some ⟨b, 0, none⟩), .int .i64 n] w fun e w' => e = .returned (.tuple #[]) ∧ ProgAt w' (Nw S w) b (d.fuse n) ∧ Kp S w w' := by
  obtain ⟨bm, ps, hst, hfs⟩ := id hP
  have hdd := isDead_any hst.blk
  cases hd : d.dead
  · have HX : Hid (d.fuse n = ⟨d.quota, d.files, max n (-1), false, d.turn⟩) := by simp [Hid, Dk.fuse, hd]
    obtain ⟨c0, c1, c2, c3, c8, f0, f1, f2, f3, f9⟩ := cells5 hst.blk
    rw [hd] at hdd hst
    go_enter Tryz.func56, Tryz.ntmps56
    go_wp2_with (go_at_call 99; refine hdd.mono ?_; rintro e w' ⟨rfl, rfl⟩)
    go_end0
    rw [HX.out]
    exact ⟨rfl, ⟨bm, ps, (hst.fields (Kp.set1 _ _ _ _) ((block_set hst.blk _).trans rfl)).mono (fun _ _ s => .inl s), hfs⟩, (Kp.set1 _ _ _ _).b hst.sb⟩
  · have HX : Hid (d.fuse n = d) := by simp [Hid, Dk.fuse, hd]
    rw [hd] at hdd
    go_enter Tryz.func56, Tryz.ntmps56
    go_wp2_with (go_at_call 99; refine hdd.mono ?_; rintro e w' ⟨rfl, rfl⟩)
    refine bodyPost_ret (results_none rfl _ _ _) rfl ?_
    rw [HX.out]
    exact ⟨rfl, hP.nw, Kp.refl _ _⟩

end Go.Proofs.YtoabedkcieindaaGreatDoor

namespace Go.Proofs.YtoabedkcieindaaGreatDoor
open Go.RowKit Go.Maps

theorem PrSt.drew {w : World} {S : Nat → Prop} {bd bm : Nat} {ps : PL} {room fuse : Int} {dead : Bool} {turn : Int} (h : PrSt w S bd bm ps room fuse dead turn) : PrSt w.drew S bd bm ps room fuse dead turn := ⟨h.blk, h.map, h.file, h.apart, h.sb, h.sm, h.sf⟩

set_option maxHeartbeats 1000000 in
set_option maxRecDepth 20000 in
theorem drop_any {w : World} {S : Nat → Prop} {bd bm : Nat} {ps : PL} {room fuse : Int} {dead : Bool} {turn : Int} (h : PrSt w S bd bm ps room fuse dead turn) (n : Nm) (p : PF) (hn : n.length ≤ maxLen) (hf : FileAt w p) (hl : p.fl.bytes.length ≤ 1048576) (h0 : -1048576 ≤ room) (h1 : room ≤ 1048576) :
    Calls Tryz.prog 184 #[.pointer (some ⟨bd, 0, none⟩), .string ⟨n.toArray⟩, .pointer (some ⟨p.bf, 0, none⟩)] w fun e w' => e = .returned (.tuple #[]) ∧ PrSt w' S bd bm (del n ps) (room + p.fl.bytes.length) fuse dead turn ∧ Kp (fun i => i = bd ∨ i = bm) w w' := by
  obtain ⟨c0, c1, c2, c3, c8, f0, f1, f2, f3, f9⟩ := cells5 h.blk
  obtain ⟨a, cap, hsv⟩ := ownB_shape hf.2
  obtain ⟨k0, k1, z0, z1⟩ := cells2 hf.1
  rw [hsv] at k0
  have hst1 := (h.fields (Kp.set1 w bd 1 (.int .i64 (room + p.fl.bytes.length))) ((block_set h.blk _).trans rfl)).drew
  obtain ⟨w2, hrun, hm2, kp2⟩ := dropK hst1.map n hn 0
  obtain ⟨q0, q1, q2, q3, q8, _, _, _, _, _⟩ := cells5 hst1.blk
  have HF : Hid (PrSt w2 S bd bm (del n ps) (room + p.fl.bytes.length) fuse dead turn) := hst1.delF n kp2 hm2
  have HK : Hid (Kp (fun i => i = bd ∨ i = bm) w w2) := (((Kp.set1 w bd 1 (.int .i64 (room + p.fl.bytes.length))).mono (fun _ e => Or.inl e)).drew).trans kp2 (fun i _ e => Or.inr e)
  clear hst1 hm2 kp2 h hf hsv
  go_enter Tryz.func184, Tryz.ntmps184
  go_wp2
  go_region
  go_wp2
  go_end0
  exact ⟨rfl, HF.out, HK.out⟩

theorem fs_del (n : Nm) (ps : PL) : fsOf (del n ps) = del n (fsOf ps) := by
  simp only [fsOf, del, List.filter_map]
  congr 1
theorem fs_ins (n : Nm) (p : PF) : ∀ ps : PL, fsOf (ins (n, p) ps) = ins (n, p.fl) (fsOf ps)
  | [] => rfl
  | y :: r => by
    rw [ins]
    show _ = ins (n, p.fl) ((y.1, y.2.fl) :: fsOf r)
    rw [ins]
    show fsOf (if bytesBefore n y.1 then _ else _) = if bytesBefore n y.1 then _ else _
    split
    · rfl
    · show (y.1, y.2.fl) :: fsOf (ins (n, p) r) = _
      rw [fs_ins n p r]
theorem used_del {fs : List (Nm × Fl)} (hr : rising fs) {n : Nm} {x : Fl} (hg : getF n fs = some x) : used (del n fs) + x.bytes.length = used fs := by
  obtain ⟨k, hk, he⟩ := getF_pos hg
  have h1 := del_erase hr hk
  rw [he] at h1
  simp only at h1
  rw [h1]
  have h2 : fs.eraseIdx k = fs.take k ++ fs.drop (k + 1) := List.eraseIdx_eq_take_drop_succ fs k
  have h3 : used fs = used (fs.take k) + used (fs.drop k) := by
    conv => lhs; rw [← List.take_append_drop k fs]
    simp only [used, List.map_append, List.sum_append]
  rw [h2, h3, List.drop_eq_getElem_cons hk, he]
  simp only [used, List.map_append, List.sum_append, List.map_cons, List.sum_cons]
  omega

set_option maxHeartbeats 1000000 in
theorem dRemove_any (b : Nat) (d : Dk) (n : Nm) (S : Nat → Prop) (w : World) (hP : ProgAt w S b d) (hok : d.Ok) (hn : n.length ≤ maxLen) :
    Calls Tryz.prog 129 #[.pointer (some ⟨b, 0, none⟩), .string ⟨n.toArray⟩] w fun e w' => e = .returned (.int .i64 (d.remove n).1) ∧ ProgAt w' (Nw S w) b (d.remove n).2 ∧ Kp S w w' := by
  obtain ⟨bm, ps, hst, hfs⟩ := id hP
  have hgf := getF_fs n ps
  rw [hfs] at hgf
  cases hd : d.dead
  · rw [hd] at hst
    cases hg : getF n ps with
    | none =>
      rw [hg] at hgf
      have HX : Hid (d.remove n = (2, d)) := by simp [Hid, Dk.remove, hd, hgf]
      have hfd := dfind_none hst n hn hg
      clear hst hgf
      go_enter Tryz.func129, Tryz.ntmps129
      go_wp2_with (go_at_call 152; refine hfd.mono ?_; rintro e w' ⟨rfl, rfl⟩)
      go_ret
      rw [HX.out]
      exact ⟨rfl, hP.nw, Kp.refl _ _⟩
    | some p =>
      rw [hg] at hgf
      simp only [Option.map_some] at hgf
      have hfd := dfind_some hst n p hn hg
      by_cases hz : d.left = 0
      · have hbl := blows_die hst.blk hz
        have HX : Hid (d.remove n = (4, d.die)) := by simp [Hid, Dk.remove, hd, hgf, hz]
        clear hgf
        go_enter Tryz.func129, Tryz.ntmps129
        go_wp2_with (first
          | (go_at_call 152; refine hfd.mono ?_; rintro e w' ⟨rfl, rfl⟩)
          | (go_at_call 114; refine hbl.mono ?_; rintro e w1 ⟨rfl, kp, hb1⟩))
        go_ret
        rw [HX.out]
        exact ⟨rfl, ⟨bm, ps, (hst.fields kp hb1).mono (fun _ _ s => .inl s), hfs⟩, kp.b hst.sb⟩
      · have hbl := blows_go hst.blk hok.left0 hok.left1 hz
        have HX : Hid (d.remove n = (0, ⟨d.quota, del n d.files, max (d.left - 1) (-1), false, d.turn⟩)) := by simp [Hid, Dk.remove, hd, hgf, hz, Dk.burn]
        have hlen := bytes_le hok hgf
        have hud := used_del hok.rise hgf
        have hu1 := hok.used
        have hu2 := hok.quota
        clear hgf
        go_enter Tryz.func129, Tryz.ntmps129
        go_wp2_with (first
          | (go_at_call 152; refine hfd.mono ?_; rintro e w' ⟨rfl, rfl⟩; clear hfd)
          | (go_at_call 114; refine hbl.mono ?_; rintro e w1 ⟨rfl, kp, hb1⟩; clear hbl; have hst1 := hst.fields kp hb1)
          | (go_at_call 184; refine (drop_any hst1 n p hn (hst1.file _ (getF_mem hg)) hlen (by omega) (by omega)).mono ?_; rintro e w2 ⟨rfl, hst2, kp2⟩))
        go_ret
        rw [HX.out]
        refine ⟨rfl, ⟨bm, del n ps, ?_, by rw [fs_del, hfs]⟩, (kp.b hst.sb).trans kp2 (fun _ _ s => s.elim (fun e => e ▸ hst.sb) (fun e => e ▸ hst.sm))⟩
        show PrSt _ _ _ _ _ ((d.quota : Int) - used (del n d.files)) _ _ _
        rw [show (d.quota : Int) - used (del n d.files) = d.quota - used d.files + p.fl.bytes.length by omega]
        exact hst2.mono (fun _ _ s => .inl s)
  · rw [hd] at hst
    have HX : Hid (d.remove n = (4, d)) := by simp [Hid, Dk.remove, hd]
    have hfd := dfind_dead hst n
    clear hst hgf
    go_enter Tryz.func129, Tryz.ntmps129
    go_wp2_with (go_at_call 152; refine hfd.mono ?_; rintro e w' ⟨rfl, rfl⟩)
    go_ret
    rw [HX.out]
    exact ⟨rfl, hP.nw, Kp.refl _ _⟩

set_option maxHeartbeats 1000000 in
set_option maxRecDepth 20000 in
theorem add_any {w : World} {S : Nat → Prop} {bd bm : Nat} {ps : PL} {room fuse : Int} {dead : Bool} {turn : Int} (h : PrSt w S bd bm ps room fuse dead turn) (n : Nm) (p : PF) (hn : n.length ≤ 1099511627776) (hl : ps.length ≤ 4194304) (hg : getF n ps = none) (hf : FileAt w p) (hap : ∀ x ∈ ps, Apart p x.2) (hS : S p.bf ∧ ∀ g, p.sv.ownBlock = some g → S g) :
    Calls Tryz.prog 115 #[.pointer (some ⟨bd, 0, none⟩), .string ⟨n.toArray⟩, .pointer (some ⟨p.bf, 0, none⟩)] w fun e w' => e = .returned (.tuple #[]) ∧ PrSt w' S bd bm (ins (n, p) ps) room fuse dead turn ∧ Kp (fun i => i = bm) w w' := by
  obtain ⟨c0, c1, c2, c3, c8, f0, f1, f2, f3, f9⟩ := cells5 h.blk
  go_enter Tryz.func115, Tryz.ntmps115
  go_wp2
  go_region_with (go_at_call 119; refine (sClone_any ⟨n.toArray⟩ w.drew (by show n.length ≤ _; omega)).mono ?_; rintro e w1 ⟨rfl, hb⟩; have hst1 := h.drew.below hb; have hf1 : FileAt w1 p := ⟨block_at2 (w1 := w.drew) hf.1 hb, ownsRow_of_block hf.2 (fun g hg => hb.block g (hf.2.lt g hg).2)⟩; obtain ⟨w2, hrun, hm2, kp2⟩ := store hst1.map n p (by unfold maxLen; omega) (by unfold maxLen; omega) hg; obtain ⟨q0, q1, q2, q3, q8, _, _, _, _, _⟩ := cells5 hst1.blk)
  all_goals go_wp2
  all_goals go_end0
  all_goals exact ⟨rfl, hst1.insF n p hf1 hap hS kp2 hm2, (((Kp.refl _ _).drew).trans (T := fun _ => False) (Kp.of_below (w := w.drew) hb) (fun _ _ f => f.elim)).trans kp2 (fun _ _ e => e)⟩

end Go.Proofs.YtoabedkcieindaaGreatDoor

namespace Go.Proofs.YtoabedkcieindaaGreatDoor
open Go.RowKit Go.Maps Go.Lib

theorem app_row {P : Program} (w : World) (t ty e : TypeId) (i : TypeInfo) (z : Value) (size bytes : Nat) (ht : P.underlying t = some (.slice e)) (hi : P.info? e = some i) (hz : i.zero = some z)
    (hsize : i.size = size) (hby : i.bytes = bytes) (hzs : z.cells.size = size) (hsz : 0 < size)
    (v : Value) (n : Nat) (xs : List Value) (hown : w.ownsRow 0 e size v n xs)
    (a : Addr) (m c : Nat) (news : List Value) (hl : news.length = m * size) (hnews : ∀ j u, news[j]? = some u → w.cell? (a.add j) = some u) (h1 : ∀ u ∈ news, u.oneCell' = true)
    (h63 : n + m ≤ maxLen) (hbytes : (n + m) * bytes ≤ 140737488355328) :
    ∃ v' w', (Builtin.append_ #[t, t] ty #[v, .slice (some a) m c]).run P w = .ok v' w' ∧ w'.ownsRow 0 e size v' (n + m) (xs ++ news) ∧ w.grownBy w' v.ownBlock ∧
      (∀ g, v'.ownBlock = some g → v.ownBlock = some g ∨ w.heap.size ≤ g) := by
  obtain ⟨v', w', hr, ho, hg, _⟩ := run_append_own (P := P) w 0 t ty e i z size bytes ht hi hz hsize hby hzs hsz v n xs hown a m c news hl hnews h1 h63 hbytes (Nat.zero_le _)
  refine ⟨v', w', hr, ho, hg, ?_⟩
  have hsmall : n + m ≤ 9223372036854775807 := by simp only [maxLen] at h63; omega
  subst hsize
  subst hby
  rcases hown.2 with ⟨hv, hn⟩ | ⟨g, cap, cur, hv, hbg, hgg, hnc, hcm, hcs, htake⟩
  · subst hv; subst hn
    have hx : xs = [] := List.eq_nil_of_length_eq_zero (by simpa using hown.1)
    subst hx
    obtain ⟨v2, w2, hr2, ho2, _, _⟩ := run_append_own (P := P) w w.heap.size t ty e i z i.size i.bytes ht hi hz rfl rfl hzs hsz (.slice none 0 0) 0 [] (World.ownsRow_nil _ _ _ _) a m c news hl hnews h1 h63 hbytes (Nat.le_refl _)
    rw [hr] at hr2
    simp only [Result.ok.injEq] at hr2
    obtain ⟨rfl, rfl⟩ := hr2
    exact fun g hg => .inr (ho2.lt g hg).1
  · subst hv
    by_cases hroom : n + m ≤ cap
    · have hfit : n * i.size + news.length ≤ cur.size := by rw [hl, hcs, ← Nat.add_mul]; exact Nat.mul_le_mul_right _ hroom
      have hr2 := run_append_room (P := P) w t ty e i ht hi g n cap cur hgg a m c news hl hnews h1 hroom hfit
      rw [hr] at hr2
      simp only [Result.ok.injEq] at hr2
      obtain ⟨rfl, _⟩ := hr2
      exact fun g hg => .inl hg
    · have holds : ∀ j u, xs[j]? = some u → w.cell? ((⟨g, 0, none⟩ : Addr).add j) = some u := hown.cells (g := g) rfl
      have hr2 := run_append_grow (P := P) w t ty e i z ht hi hz ⟨g, 0, none⟩ n cap xs hown.1 holds a m c news hl hnews (by omega) (by omega) (growslice_fits (by omega) hbytes)
      rw [hr] at hr2
      simp only [Result.ok.injEq] at hr2
      obtain ⟨rfl, _⟩ := hr2
      exact fun g hg => .inr (by simp only [Value.ownBlock, Option.some.injEq] at hg; omega)

theorem wpList_app {P : Program} (w : World) {ops : Array Oper} {rest : List Oper} {o : Oper} {ac : Act} {Q : Exit → Act → World → Prop} (hgd : o.guard = none) (s x : Operand) (t : TypeId)
    (ho : o.op = .call { callee := .builtin .append, args := #[s, x], argTypes := #[t, t] })
    (e : TypeId) (i : TypeInfo) (z : Value) (size bytes : Nat) (ht : P.underlying t = some (.slice e)) (hi : P.info? e = some i) (hz : i.zero = some z)
    (hsize : i.size = size) (hby : i.bytes = bytes) (hzs : z.cells.size = size) (hsz : 0 < size)
    (v : Value) (n : Nat) (xs : List Value) (hs : ac.eval s = v) (hown : w.ownsRow 0 e size v n xs)
    (ad : Addr) (m c : Nat) (news : List Value) (hx : ac.eval x = .slice (some ad) m c) (hl : news.length = m * size) (hnews : ∀ j u, news[j]? = some u → w.cell? (ad.add j) = some u) (h1 : ∀ u ∈ news, u.oneCell' = true)
    (h63 : n + m ≤ maxLen) (hbytes : (n + m) * bytes ≤ 140737488355328)
    (h : ∀ v' w', w'.ownsRow 0 e size v' (n + m) (xs ++ news) → w.grownBy w' v.ownBlock → (∀ g, v'.ownBlock = some g → v.ownBlock = some g ∨ w.heap.size ≤ g) → wpList P ops Q rest (ac.put o.dst v') w') : wpList P ops Q (o :: rest) ac w := by
  refine wpList_plain hgd fun K hK => ?_
  obtain ⟨v', w', hr, h2, h3, h4⟩ := app_row (P := P) w t o.type e i z size bytes ht hi hz hsize hby hzs hsz v n xs hown ad m c news hl hnews h1 h63 hbytes
  unfold Oper.wp execOp
  simp only [ho, resolve, invoke, builtin, Sem.run_bind, Sem.run_pure, Result.andThen_ok, List.map_toArray, List.map_cons, List.map_nil, hs, hx, hr]
  exact hK _ _ (h v' w' h2 h3 h4)

theorem app_str (w : World) (ty : TypeId) (v : Value) (l c : List UInt8) (hown : OwnB w 0 v l) (hlc : l.length + c.length ≤ 4194304) :
    ∃ v' w', (Builtin.append_ #[91, 9] ty #[v, .string ⟨c.toArray⟩]).run Tryz.prog w = .ok v' w' ∧ OwnB w' 0 v' (l ++ c) ∧ Kp (fun i => v.ownBlock = some i) w w' ∧
      (∀ g, v'.ownBlock = some g → v.ownBlock = some g ∨ w.heap.size ≤ g) := by
  obtain ⟨i, hi, hz, h1, h2⟩ := info_parts Tryz.info5
  have hsz : (⟨c.toArray⟩ : ByteArray).size = c.length := rfl
  have hsc : strCells ⟨c.toArray⟩ = c.map encB := rfl
  obtain ⟨v', w', hr, ho, hg, _⟩ := run_append_own_string (P := Tryz.prog) w 0 91 9 ty 5 i Tryz.underlying91 Tryz.underlying9 hi hz h1 h2 v l.length (l.map encB) hown ⟨c.toArray⟩ (by rw [hsz]; unfold maxLen; omega) (by rw [hsz]; omega) (Nat.zero_le _)
  refine ⟨v', w', hr, ?_, (Kp.refl _ _).grown hg (fun k hk _ => hk), ?_⟩
  · unfold OwnB
    rw [hsz, hsc] at ho
    rw [List.length_append, List.map_append]
    exact ho
  · rcases hown.2 with ⟨hv, hn⟩ | ⟨g, cap, cur, hv, hbg, hgg, hnc, hcm, hcs, htake⟩
    · subst hv
      have hx : l = [] := List.eq_nil_of_length_eq_zero hn
      subst hx
      obtain ⟨v2, w2, hr2, ho2, _, _⟩ := run_append_own_string (P := Tryz.prog) w w.heap.size 91 9 ty 5 i Tryz.underlying91 Tryz.underlying9 hi hz h1 h2 (.slice none 0 0) 0 [] (World.ownsRow_nil _ _ _ _) ⟨c.toArray⟩ (by rw [hsz]; unfold maxLen; omega) (by rw [hsz]; omega) (Nat.le_refl _)
      rw [hr] at hr2
      simp only [Result.ok.injEq] at hr2
      obtain ⟨rfl, rfl⟩ := hr2
      exact fun g hg => .inr (ho2.lt g hg).1
    · subst hv
      by_cases hroom : l.length + c.length ≤ cap
      · have hr2 := run_append_room_string (P := Tryz.prog) w 91 9 ty 5 i Tryz.underlying91 Tryz.underlying9 hi h1 g l.length cap cur hgg ⟨c.toArray⟩ (by rw [hsz]; exact hroom) (by rw [hsz, hcs]; omega)
        rw [hr] at hr2
        simp only [Result.ok.injEq] at hr2
        obtain ⟨rfl, _⟩ := hr2
        exact fun g hg => .inl hg
      · have holds : ∀ j u, (l.map encB)[j]? = some u → w.cell? ((⟨g, 0, none⟩ : Addr).add j) = some u := World.ownsRow.cells hown (g := g) rfl
        have hr2 := run_append_grow_string (P := Tryz.prog) w 91 9 ty 5 i (.int .u8 0) Tryz.underlying91 Tryz.underlying9 hi hz ⟨g, 0, none⟩ l.length cap (l.map encB) (by rw [h1]; simp) holds ⟨c.toArray⟩ (by rw [hsz]; omega) (by rw [hsz]; omega) (growslice_fits (by rw [hsz]; omega) (by rw [hsz, h2]; omega))
        rw [hr] at hr2
        simp only [Result.ok.injEq] at hr2
        obtain ⟨rfl, _⟩ := hr2
        exact fun g hg => .inr (by simp only [Value.ownBlock, Option.some.injEq] at hg; omega)

theorem wpList_app_str (w : World) {ops : Array Oper} {rest : List Oper} {o : Oper} {ac : Act} {Q : Exit → Act → World → Prop} (hgd : o.guard = none) (s x : Operand)
    (ho : o.op = .call { callee := .builtin .append, args := #[s, x], argTypes := #[91, 9] })
    (v : Value) (l c : List UInt8) (hs : ac.eval s = v) (hx : ac.eval x = .string ⟨c.toArray⟩) (hown : OwnB w 0 v l) (hlc : l.length + c.length ≤ 4194304)
    (h : ∀ v' w', OwnB w' 0 v' (l ++ c) → Kp (fun i => v.ownBlock = some i) w w' → (∀ g, v'.ownBlock = some g → v.ownBlock = some g ∨ w.heap.size ≤ g) → wpList Tryz.prog ops Q rest (ac.put o.dst v') w') : wpList Tryz.prog ops Q (o :: rest) ac w := by
  refine wpList_plain hgd fun K hK => ?_
  obtain ⟨v', w', hr, h2, h3, h4⟩ := app_str w o.type v l c hown hlc
  unfold Oper.wp execOp
  simp only [ho, resolve, invoke, builtin, Sem.run_bind, Sem.run_pure, Result.andThen_ok, List.map_toArray, List.map_cons, List.map_nil, hs, hx, hr]
  exact hK _ _ (h v' w' h2 h3 h4)

end Go.Proofs.YtoabedkcieindaaGreatDoor
