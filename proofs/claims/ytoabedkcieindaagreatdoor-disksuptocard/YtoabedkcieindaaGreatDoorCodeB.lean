/- The program's disk: isDead, blows, find, Sync, Read, Safe, Fuse. -/
import Derived.Test.YtoabedkcieindaaGreatDoorCodeA
namespace Go.Proofs.YtoabedkcieindaaGreatDoor
open Go.RowKit Go.Maps

set_option maxHeartbeats 400000 in
theorem isDead_any {w : World} {b : Nat} {m r f tn : Value} {dead : Bool} (hb : w.heap[b]? = some (.cells #[m, r, f, .bool dead, tn] 148)) :
    Calls Tryz.prog 99 #[.pointer (some ⟨b, 0, none⟩)] w fun e w' => e = .returned (.bool dead) ∧ w' = w := by
  obtain ⟨c0, c1, c2, c3, c8, f0, f1, f2, f3, f9⟩ := cells5 hb
  clear hb
  go_enter Tryz.func99, Tryz.ntmps99
  go_wp2
  go_ret
  exact ⟨rfl, rfl⟩

set_option maxHeartbeats 400000 in
theorem blows_die {w : World} {b : Nat} {m r tn : Value} {fuse : Int} {dd : Bool} (hb : w.heap[b]? = some (.cells #[m, r, .int .i64 fuse, .bool dd, tn] 148)) (hz : fuse = 0) :
    Calls Tryz.prog 114 #[.pointer (some ⟨b, 0, none⟩)] w fun e w' => e = .returned (.bool true) ∧ Kp (fun i => i = b) w w' ∧ w'.heap[b]? = some (.cells #[m, r, .int .i64 fuse, .bool true, tn] 148) := by
  subst hz
  obtain ⟨c0, c1, c2, c3, c8, f0, f1, f2, f3, f9⟩ := cells5 hb
  have HB : Hid (w.heap[b]? = some (.cells #[m, r, .int .i64 0, .bool dd, tn] 148)) := hb
  clear hb
  go_enter Tryz.func114, Tryz.ntmps114
  go_wp2
  go_ret
  exact ⟨rfl, Kp.set1 _ _ _ _, (block_set HB.out _).trans rfl⟩

set_option maxHeartbeats 400000 in
theorem blows_go {w : World} {b : Nat} {m r tn : Value} {fuse : Int} {dd : Bool} (hb : w.heap[b]? = some (.cells #[m, r, .int .i64 fuse, .bool dd, tn] 148)) (h0 : -1 ≤ fuse) (h1 : fuse ≤ 9223372036854775807) (hz : ¬ fuse = 0) :
    Calls Tryz.prog 114 #[.pointer (some ⟨b, 0, none⟩)] w fun e w' => e = .returned (.bool false) ∧ Kp (fun i => i = b) w w' ∧ w'.heap[b]? = some (.cells #[m, r, .int .i64 (max (fuse - 1) (-1)), .bool dd, tn] 148) := by
  obtain ⟨c0, c1, c2, c3, c8, f0, f1, f2, f3, f9⟩ := cells5 hb
  have HB : Hid (w.heap[b]? = some (.cells #[m, r, .int .i64 fuse, .bool dd, tn] 148)) := hb
  clear hb
  have hz' : (fuse == 0) = false := by simpa using hz
  go_enter Tryz.func114, Tryz.ntmps114
  go_wp2
  go_ret
  exact ⟨rfl, Kp.set1 _ _ _ _, (block_set HB.out _).trans rfl⟩

section find
variable {w : World} {S : Nat → Prop} {bd bm : Nat} {ps : PL} {room fuse : Int} {dead : Bool} {turn : Int}

set_option maxHeartbeats 400000 in
theorem dfind_dead (h : PrSt w S bd bm ps room fuse true turn) (n : Nm) :
    Calls Tryz.prog 152 #[.pointer (some ⟨bd, 0, none⟩), .string ⟨n.toArray⟩] w fun e w' => e = .returned (.tuple #[.pointer none, .int .i64 4]) ∧ w' = w := by
  have hd := isDead_any h.blk
  clear h
  go_enter Tryz.func152, Tryz.ntmps152
  go_wp2_with (go_at_call 99; refine hd.mono ?_; rintro e w' ⟨rfl, rfl⟩)
  go_ret2
  exact ⟨rfl, rfl⟩

set_option maxHeartbeats 400000 in
theorem dfind_none (h : PrSt w S bd bm ps room fuse false turn) (n : Nm) (hn : n.length ≤ maxLen) (hg : getF n ps = none) :
    Calls Tryz.prog 152 #[.pointer (some ⟨bd, 0, none⟩), .string ⟨n.toArray⟩] w fun e w' => e = .returned (.tuple #[.pointer none, .int .i64 2]) ∧ w' = w := by
  have hd := isDead_any h.blk
  have hlk := look h.map n hn
  rw [hg] at hlk
  simp only [ptrOf] at hlk
  obtain ⟨c0, c1, c2, c3, c8, f0, f1, f2, f3, f9⟩ := cells5 h.blk
  clear h
  go_enter Tryz.func152, Tryz.ntmps152
  go_wp2_with (go_at_call 99; refine hd.mono ?_; rintro e w' ⟨rfl, rfl⟩)
  go_ret2
  exact ⟨rfl, rfl⟩

set_option maxHeartbeats 400000 in
theorem dfind_some (h : PrSt w S bd bm ps room fuse false turn) (n : Nm) (p : PF) (hn : n.length ≤ maxLen) (hg : getF n ps = some p) :
    Calls Tryz.prog 152 #[.pointer (some ⟨bd, 0, none⟩), .string ⟨n.toArray⟩] w fun e w' => e = .returned (.tuple #[.pointer (some ⟨p.bf, 0, none⟩), .int .i64 0]) ∧ w' = w := by
  have hd := isDead_any h.blk
  have hlk := look h.map n hn
  rw [hg] at hlk
  simp only [ptrOf] at hlk
  obtain ⟨c0, c1, c2, c3, c8, f0, f1, f2, f3, f9⟩ := cells5 h.blk
  clear h
  go_enter Tryz.func152, Tryz.ntmps152
  go_wp2_with (go_at_call 99; refine hd.mono ?_; rintro e w' ⟨rfl, rfl⟩)
  go_ret2
  exact ⟨rfl, rfl⟩
end find

theorem ownB_shape {w : World} {base : Nat} {v : Value} {l : List UInt8} (h : OwnB w base v l) : ∃ a cap, v = .slice a l.length cap := by
  rcases h.2 with ⟨rfl, hn⟩ | ⟨g, cap, cur, rfl, _⟩
  · exact ⟨none, 0, by rw [hn]⟩
  · exact ⟨_, _, rfl⟩
theorem getF_pos {α : Type} {n : Nm} {f : α} : ∀ {fs : List (Nm × α)}, getF n fs = some f → ∃ k, ∃ h : k < fs.length, fs[k] = (n, f)
  | [], h => by cases h
  | x :: r, h => by
    rw [getF] at h
    split at h
    · rename_i e; subst e; simp only [Option.some.injEq] at h; subst h; exact ⟨0, by simp, rfl⟩
    · obtain ⟨k, hk, e⟩ := getF_pos h
      exact ⟨k + 1, by simpa using hk, by simpa using e⟩
theorem fs_len (ps : PL) : (fsOf ps).length = ps.length := by simp [fsOf]
theorem fs_set (ps : PL) (k : Nat) (y : Nm × PF) : fsOf (ps.set k y) = (fsOf ps).set k (y.1, y.2.fl) := by simp [fsOf, List.map_set]
theorem fs_upd {ps : PL} (hr : rising (fsOf ps)) {k : Nat} {n : Nm} {p p' : PF} (hk : k < ps.length) (he : ps[k] = (n, p)) (f : Fl → Fl) (hf : p'.fl = f p.fl) : fsOf (ps.set k (ps[k].1, p')) = upd n f (fsOf ps) := by
  have hk' : k < (fsOf ps).length := by rw [fs_len]; exact hk
  have h1 : (fsOf ps)[k] = (n, p.fl) := by simp [fsOf, he]
  rw [fs_set, upd_set hr hk' n (by rw [h1]) f, h1, he, hf]
theorem used_set (fs : List (Nm × Fl)) : ∀ (k : Nat) (_ : k < fs.length) (y : Nm × Fl), used (fs.set k y) + fs[k].2.bytes.length = used fs + y.2.bytes.length := by
  induction fs with
  | nil => intro k h; simp at h
  | cons x r ih =>
    intro k h y
    match k, h with
    | 0, _ => simp [used]; omega
    | k + 1, h =>
      have := ih k (by simpa using h) y
      simp only [used, List.set_cons_succ, List.map_cons, List.sum_cons, List.getElem_cons_succ] at this ⊢
      omega
theorem used_upd {fs : List (Nm × Fl)} (hr : rising fs) {n : Nm} {x : Fl} (hg : getF n fs = some x) (f : Fl → Fl) : used (upd n f fs) + x.bytes.length = used fs + (f x).bytes.length := by
  obtain ⟨k, hk, he⟩ := getF_pos hg
  rw [upd_set hr hk n (by rw [he]) f]
  have := used_set fs k hk (n, f fs[k].2)
  rw [he] at this ⊢
  exact this

theorem cells2 {w : World} {b : Nat} {a0 a1 : Value} {t : TypeId} (hb : w.heap[b]? = some (.cells #[a0, a1] t)) :
    w.cell? ⟨b, 0, none⟩ = some a0 ∧ w.cell? ⟨b, 1, none⟩ = some a1 ∧ w.frozen? ⟨b, 0, none⟩ = false ∧ w.frozen? ⟨b, 1, none⟩ = false :=
  ⟨cell_block hb, cell_block hb, frozen_block hb, frozen_block hb⟩

theorem bytes_le {d : Dk} (hok : d.Ok) {n : Nm} {f : Fl} (hg : getF n d.files = some f) : f.bytes.length ≤ 1048576 := by
  obtain ⟨k, hk, he⟩ := getF_pos hg
  have := used_ge d.files k hk
  rw [he] at this
  exact Nat.le_trans this (Nat.le_trans hok.used hok.quota)

set_option maxHeartbeats 1000000 in
theorem dSync_any (b : Nat) (d : Dk) (n : Nm) (S : Nat → Prop) (w : World) (hP : ProgAt w S b d) (hok : d.Ok) (hn : n.length ≤ maxLen) :
    Calls Tryz.prog 97 #[.pointer (some ⟨b, 0, none⟩), .string ⟨n.toArray⟩] w fun e w' => e = .returned (.int .i64 (d.sync n).1) ∧ ProgAt w' (Nw S w) b (d.sync n).2 ∧ Kp S w w' := by
  obtain ⟨bm, ps, hst, hfs⟩ := id hP
  have hgf := getF_fs n ps
  rw [hfs] at hgf
  cases hd : d.dead
  · rw [hd] at hst
    cases hg : getF n ps with
    | none =>
      rw [hg] at hgf
      have HX : Hid (d.sync n = (2, d)) := by simp [Hid, Dk.sync, hd, hgf]
      have hfd := dfind_none hst n hn hg
      clear hst hgf
      go_enter Tryz.func97, Tryz.ntmps97
      go_wp2_with (go_at_call 152; refine hfd.mono ?_; rintro e w' ⟨rfl, rfl⟩)
      go_ret
      rw [HX.out]
      exact ⟨rfl, hP.nw, Kp.refl _ _⟩
    | some p =>
      rw [hg] at hgf
      simp only [Option.map_some] at hgf
      have hfd := dfind_some hst n p hn hg
      by_cases hz : d.left = 0
      · have hbl := blows_die hst.blk hz
        have HX : Hid (d.sync n = (4, d.die)) := by simp [Hid, Dk.sync, hd, hgf, hz]
        clear hgf
        go_enter Tryz.func97, Tryz.ntmps97
        go_wp2_with (first
          | (go_at_call 152; refine hfd.mono ?_; rintro e w' ⟨rfl, rfl⟩)
          | (go_at_call 114; refine hbl.mono ?_; rintro e w1 ⟨rfl, kp, hb1⟩))
        go_ret
        rw [HX.out]
        exact ⟨rfl, ⟨bm, ps, (hst.fields kp hb1).mono (fun _ _ s => .inl s), hfs⟩, kp.b hst.sb⟩
      · have hbl := blows_go hst.blk hok.left0 hok.left1 hz
        have HX : Hid (d.sync n = (0, ⟨d.quota, upd n allSafe d.files, max (d.left - 1) (-1), false, d.turn⟩)) := by simp [Hid, Dk.sync, hd, hgf, hz, Dk.burn]
        obtain ⟨k, hk, hek⟩ := getF_pos hg
        have hlen := bytes_le hok hgf
        have HG : Hid (getF n d.files = some p.fl) := hgf
        clear hgf
        go_enter Tryz.func97, Tryz.ntmps97
        go_wp2_with (first
          | (go_at_call 152; refine hfd.mono ?_; rintro e w' ⟨rfl, rfl⟩; clear hfd)
          | (go_at_call 114; refine hbl.mono ?_; rintro e w1 ⟨rfl, kp, hb1⟩; clear hbl; have hst1 := hst.fields kp hb1; have hfl := hst1.file _ (List.getElem_mem hk); rw [hek] at hfl; obtain ⟨a, cap, hsv⟩ := ownB_shape hfl.2; obtain ⟨c0, c1, z0, z1⟩ := cells2 hfl.1; rw [hsv] at c0))
        go_ret
        have hne : ∀ g, p.sv.ownBlock = some g → g ≠ p.bf := fun g hg => row_ne hfl.1 hfl.2 hg (by decide)
        have hst2 := hst1.setF k hk ⟨allSafe p.fl, p.bf, p.sv⟩ (by rw [hek]) (w' := w1.setCell ⟨p.bf, 1, none⟩ (.int .i64 p.fl.bytes.length)) ((Kp.set1 _ _ _ _).mono (fun i hi => .inl (by rw [hek]; exact hi))) ⟨(block_set hfl.1 _).trans rfl, ownsRow_of_block hfl.2 (fun g hg => Below.heap_setCell _ _ _ _ (hne g hg))⟩ (fun g hg => .inl (by rw [hek]; exact hg))
        have hup := used_upd hok.rise HG.out allSafe
        rw [HX.out]
        refine ⟨rfl, ⟨bm, _, ?_, (fs_upd (p' := ⟨allSafe p.fl, p.bf, p.sv⟩) (by rw [hfs]; exact hok.rise) hk hek allSafe rfl).trans (by rw [hfs])⟩, (kp.b hst.sb).put (by have := (hst.sf _ (List.getElem_mem hk)).1; rw [hek] at this; exact this) _⟩
        have e1 : (d.quota : Int) - used (upd n allSafe d.files) = d.quota - used d.files := by simp only [allSafe] at hup; omega
        show PrSt _ _ _ _ _ ((d.quota : Int) - used (upd n allSafe d.files)) _ _ _
        rw [e1]
        exact hst2.mono (fun i _ s => s.elim .inl (fun h => .inr (Nat.le_trans kp.size h)))
  · rw [hd] at hst
    have HX : Hid (d.sync n = (4, d)) := by simp [Hid, Dk.sync, hd]
    have hfd := dfind_dead hst n
    clear hst hgf
    go_enter Tryz.func97, Tryz.ntmps97
    go_wp2_with (go_at_call 152; refine hfd.mono ?_; rintro e w' ⟨rfl, rfl⟩)
    go_ret
    rw [HX.out]
    exact ⟨rfl, hP.nw, Kp.refl _ _⟩

end Go.Proofs.YtoabedkcieindaaGreatDoor
