/- The program's disk: Write, with the block of its map told. -/
import Derived.Test.YtfghgmojnffgnaaChunk
import Derived.TacticsInMore
namespace Go.Proofs.Ytfghgmojnffgnaa
open Go.RowKit Go.Maps Go.Sort Go.Shelf

def ProgAtB (w : World) (S : Nat → Prop) (bd bm : Nat) (d : Dk) : Prop := ∃ ps, PrSt w S bd bm ps ((d.quota : Int) - used d.files) d.left d.dead d.turn ∧ fsOf ps = d.files
theorem ProgAtB.at {w : World} {S : Nat → Prop} {bd bm : Nat} {d : Dk} (h : ProgAtB w S bd bm d) : ProgAt w S bd d := ⟨bm, h⟩
theorem ProgAt.b {w : World} {S : Nat → Prop} {bd : Nat} {d : Dk} (h : ProgAt w S bd d) : ∃ bm, ProgAtB w S bd bm d := h
theorem ProgAtB.lt {w : World} {S : Nat → Prop} {bd bm : Nat} {d : Dk} (h : ProgAtB w S bd bm d) : bm < w.heap.size := by
  obtain ⟨ps, h1, h2⟩ := h; exact h1.map.lt
theorem ProgAtB.mono {w : World} {S T : Nat → Prop} {bd bm : Nat} {d : Dk} (h : ProgAtB w S bd bm d) (hT : ∀ k, k < w.heap.size → S k → T k) : ProgAtB w T bd bm d := by
  obtain ⟨ps, h1, h2⟩ := h; exact ⟨ps, h1.mono hT, h2⟩
theorem ProgAtB.kept {w w' : World} {S T : Nat → Prop} {bd bm : Nat} {d : Dk} (h : ProgAtB w S bd bm d) (k : Kp T w w') (hT : ∀ i, S i → ¬ T i) : ProgAtB w' S bd bm d := by
  obtain ⟨ps, h1, h2⟩ := h; exact ⟨ps, h1.kept k hT, h2⟩
theorem ProgAtB.nw {w w' : World} {S : Nat → Prop} {bd bm : Nat} {d : Dk} (h : ProgAtB w' S bd bm d) : ProgAtB w' (Nw S w) bd bm d := h.mono (fun _ _ s => .inl s)

/-- Only an object that is no row of cells, and not the disk's map, has turned: the disk is as it was. -/
theorem ProgAtB.own {A B : World} {S : Nat → Prop} {bd bm : Nat} {d : Dk} {row : Option Nat} (h : ProgAtB A S bd bm d) (hg : A.grownBy B row) (hr : ∀ r, row = some r → ∃ o, A.heap[r]? = some o ∧ o.isCells = false) (hb : row ≠ some bm) : ProgAtB B S bd bm d := by
  obtain ⟨ps, h1, h2⟩ := h
  have k : Kp (fun i => row = some i) A B := (Kp.refl _ A).grown hg (fun k hk _ => hk)
  have hE : PrSt A (fun i => i = bd ∨ i = bm ∨ ∃ x ∈ ps, i = x.2.bf ∨ x.2.sv.ownBlock = some i) bd bm ps ((d.quota : Int) - used d.files) d.left d.dead d.turn :=
    ⟨h1.blk, h1.map, h1.file, h1.apart, .inl rfl, .inr (.inl rfl), fun x hx => ⟨.inr (.inr ⟨x, hx, .inl rfl⟩), fun g hg => .inr (.inr ⟨x, hx, .inr hg⟩)⟩⟩
  refine ⟨ps, (hE.kept k (fun i s e => ?_)).mono (T := S) (fun i _ s => ?_), h2⟩
  · obtain ⟨o, ho, hc⟩ := hr i e
    rcases s with rfl | rfl | ⟨x, hx, rfl | s⟩
    · rw [h1.blk] at ho; cases ho; cases hc
    · exact hb e
    · rw [(h1.file x hx).1] at ho; cases ho; cases hc
    · rcases ((h1.file x hx).2).2 with ⟨hv, _⟩ | ⟨g, cap, cur, hv, _, hgg, _⟩
      · rw [hv] at s; simp [Value.ownBlock] at s
      · rw [hv] at s
        obtain rfl : g = i := by simpa [Value.ownBlock] using s
        rw [hgg] at ho; cases ho; cases hc
  · rcases s with rfl | rfl | ⟨x, hx, rfl | s⟩
    · exact h1.sb
    · exact h1.sm
    · exact (h1.sf x hx).1
    · exact (h1.sf x hx).2 i s

set_option maxHeartbeats 1000000 in
set_option maxRecDepth 20000 in
theorem dWriteB_any (b bm : Nat) (d : Dk) (n : Nm) (c : List UInt8) (S : Nat → Prop) (w : World) (hP : ProgAtB w S b bm d) (hok : d.Ok) (hl : d.files.length ≤ 4194302) (hn : n.length ≤ 1099511627776) (hc : c.length ≤ 1099511627776) :
    Calls Try.prog 40 #[.pointer (some ⟨b, 0, none⟩), .string ⟨n.toArray⟩, .string ⟨c.toArray⟩] w fun e w' => e = .returned (.int .i64 (d.write n c).1) ∧ ProgAtB w' (Nw S w) b bm (d.write n c).2 ∧ Kp S w w' := by
  obtain ⟨ps, hst, hfs⟩ := id hP
  have hgf := getF_fs n ps
  rw [hfs] at hgf
  have hdd := isDead_any hst.blk
  have hnm := isName_any ⟨n.toArray⟩ w (by show n.length ≤ _; unfold maxLen; omega)
  have hu1 := hok.used
  have hu2 := hok.quota
  have hml : n.length ≤ maxLen := by unfold maxLen; omega
  have hpl : ps.length ≤ 4194302 := by rw [← fs_len, hfs]; exact hl
  obtain ⟨c0, c1, c2, c3, c8, f0, f1, f2, f3, f9⟩ := cells5 hst.blk
  cases hd : d.dead
  · rw [hd] at hst hdd
    by_cases hk : nameOk n = false
    · have HX : Hid (d.write n c = (1, d)) := by simp [Hid, Dk.write, hd, hk]
      clear hst hgf
      go_enter Try.func40, Try.ntmps40
      go_wp2_with (first
        | (go_at_call 56; refine hdd.mono ?_; rintro e w' ⟨rfl, rfl⟩)
        | (go_at_call 60; refine hnm.mono ?_; rintro e w' ⟨rfl, rfl⟩; simp only [hk]))
      go_ret
      rw [HX.out]
      exact ⟨rfl, hP.nw, Kp.refl _ _⟩
    · rw [Bool.not_eq_false] at hk
      by_cases hq : d.quota < used d.files + c.length
      · have HX : Hid (d.write n c = (3, d)) := by simp [Hid, Dk.write, hd, hk, hq]
        clear hst hgf
        go_enter Try.func40, Try.ntmps40
        go_wp2_with (first
          | (go_at_call 56; refine hdd.mono ?_; rintro e w' ⟨rfl, rfl⟩)
          | (go_at_call 60; refine hnm.mono ?_; rintro e w' ⟨rfl, rfl⟩; simp only [hk]))
        go_ret
        rw [HX.out]
        exact ⟨rfl, hP.nw, Kp.refl _ _⟩
      · by_cases hz : d.left = 0
        · have hbl := blows_die hst.blk hz
          have HX : Hid (d.write n c = (4, d.die)) := by simp [Hid, Dk.write, hd, hk, hq, hz]
          clear hgf
          go_enter Try.func40, Try.ntmps40
          go_wp2_with (first
            | (go_at_call 56; refine hdd.mono ?_; rintro e w' ⟨rfl, rfl⟩)
            | (go_at_call 60; refine hnm.mono ?_; rintro e w' ⟨rfl, rfl⟩; simp only [hk])
            | (go_at_call 61; refine hbl.mono ?_; rintro e w1 ⟨rfl, kp, hb1⟩))
          go_ret
          rw [HX.out]
          exact ⟨rfl, ⟨ps, (hst.fields kp hb1).mono (fun _ _ s => .inl s), hfs⟩, kp.b hst.sb⟩
        · have hbl := blows_go hst.blk hok.left0 hok.left1 hz
          cases hg : getF n ps with
          | none =>
            rw [hg] at hgf
            have HX : Hid (d.write n c = (0, ⟨d.quota, ins (n, ⟨c, 0⟩) d.files, max (d.left - 1) (-1), false, d.turn⟩)) := by simp [Hid, Dk.write, hd, hk, hq, hz, hgf, Dk.burn]
            have hri : rising ps := rising_ps (by rw [hfs]; exact hok.rise)
            have hui := used_ins (n, ⟨c, 0⟩) d.files
            have HG : Hid (getF n d.files = none) := hgf
            clear hgf
            go_enter Try.func40, Try.ntmps40
            go_wp2_with (first
              | (go_at_call 56; refine hdd.mono ?_; rintro e w' ⟨rfl, rfl⟩; clear hdd)
              | (go_at_call 60; refine hnm.mono ?_; rintro e w' ⟨rfl, rfl⟩; simp only [hk]; clear hnm)
              | (go_at_call 61; refine hbl.mono ?_; rintro e w1 ⟨rfl, kp, hb1⟩; clear hbl; have hst1 := hst.fields kp hb1; have hlk := look hst1.map n hml; rw [hg] at hlk; simp only [ptrOf] at hlk; obtain ⟨r0, r1, r2, r3, r8, r4, r5, r6, r7, r9⟩ := cells5 hst1.blk; have hblt := lt_of_block hst1.blk)
              | (go_at_call 62; refine (add_any (w := w1.alloc (.cells #[.slice none 0 0, .int .i64 0] 108)) ((hst1.below ((Below.refl _ w1).alloc (Nat.le_refl _) _)).mono (T := Nw S w1) (fun _ _ s => .inl s)) n ⟨⟨[], 0⟩, w1.heap.size, .slice none 0 0⟩ hn (by omega) hg ⟨block_new w1 _, World.ownsRow_nil _ _ _ _⟩ (fun x hx => ⟨fun e => by have := lt_of_block (hst1.file x hx).1; simp only at e; omega, fun g hg' => by simp [Value.ownBlock] at hg'⟩) ⟨.inr (Nat.le_refl _), fun g hg' => by simp [Value.ownBlock] at hg'⟩).mono ?_; rintro e w3 ⟨rfl, hst3, kp3⟩; obtain ⟨k, hk', hek⟩ := getF_pos (getF_ins (x := (⟨⟨[], 0⟩, w1.heap.size, .slice none 0 0⟩ : PF)) hri hg); have hfl := hst3.file _ (List.getElem_mem hk'); rw [hek] at hfl; simp only at hfl; obtain ⟨g0, g1, z0, z1⟩ := cells2 hfl.1; obtain ⟨t0, t1, t2, t3, t8, t4, t5, t6, t7, t9⟩ := cells5 hst3.blk; have hbne : b ≠ w1.heap.size := cells_ne hst3.blk hfl.1 (by decide))
              | (at_builtin; refine wpList_app_str w3 rfl (.tmp 44) (.tmp 45) rfl (.slice none 0 0) [] c rfl rfl hfl.2 (by simp; omega) ?_; intro v' w2 hob kp2 hfr; obtain ⟨a', cap', hsv'⟩ := ownB_shape hob; subst hsv'; have hb2 := kp2.at hst3.blk (fun e => by simp [Value.ownBlock] at e); have hf2 := kp2.at hfl.1 (fun e => by simp [Value.ownBlock] at e); obtain ⟨y0, y1, x0, x1⟩ := cells2 hf2; obtain ⟨s0, s1, s2, s3, s8, s4, s5, s6, s7, s9⟩ := cells5 hb2))
            go_ret
            have hcl := write_close (room' := (d.quota : Int) - used d.files - c.length) hst3 hk' hek kp2 hob hfr
            rw [HX.out]
            have e2 : fsOf ((ins (n, (⟨⟨[], 0⟩, w1.heap.size, .slice none 0 0⟩ : PF)) ps).set k ((ins (n, (⟨⟨[], 0⟩, w1.heap.size, .slice none 0 0⟩ : PF)) ps)[k].1, ⟨addB c ⟨[], 0⟩, w1.heap.size, .slice a' ([] ++ c).length cap'⟩)) = ins (n, ⟨c, 0⟩) d.files := by
              rw [fs_upd (p := ⟨⟨[], 0⟩, w1.heap.size, .slice none 0 0⟩) (n := n) (by rw [fs_ins, hfs]; exact rising_ins hok.rise HG.out) hk' hek (addB c) rfl, fs_ins, hfs, upd_ins HG.out]
              simp [addB]
            have kpa : Kp S w' w3 := kpNw ((((kp.b (S := Nw S w') (.inl hst.sb)).alloc _).trans kp3 (fun i hi e => by subst e; exact .inl hst.sm)))
            refine ⟨rfl, ⟨_, ?_, e2⟩, kpNw ((kpa.mono (T := Nw S w') (fun _ s => .inl s)).trans hcl.2 (fun i hi s => s.elim .inl (fun h => .inr (Nat.le_trans kp.size h))))⟩
            show PrSt _ _ _ _ _ ((d.quota : Int) - used (ins (n, ⟨c, 0⟩) d.files)) _ _ _
            rw [show (d.quota : Int) - used (ins (n, ⟨c, 0⟩) d.files) = d.quota - used d.files - c.length by omega]
            exact hcl.1.mono (fun i _ s => by
              rcases s with (s | s) | s
              · exact .inl s
              · exact .inr (Nat.le_trans kp.size s)
              · exact .inr (Nat.le_trans kpa.size s))
          | some p =>
            rw [hg] at hgf
            simp only [Option.map_some] at hgf
            have HX : Hid (d.write n c = (0, ⟨d.quota, upd n (addB c) d.files, max (d.left - 1) (-1), false, d.turn⟩)) := by simp [Hid, Dk.write, hd, hk, hq, hz, hgf, Dk.burn]
            have hlen := bytes_le hok hgf
            have hup := used_upd hok.rise hgf (addB c)
            obtain ⟨k, hk', hek⟩ := getF_pos hg
            clear hgf
            go_enter Try.func40, Try.ntmps40
            go_wp2_with (first
              | (go_at_call 56; refine hdd.mono ?_; rintro e w' ⟨rfl, rfl⟩; clear hdd)
              | (go_at_call 60; refine hnm.mono ?_; rintro e w' ⟨rfl, rfl⟩; simp only [hk]; clear hnm)
              | (go_at_call 61; refine hbl.mono ?_; rintro e w1 ⟨rfl, kp, hb1⟩; clear hbl; have hst1 := hst.fields kp hb1; have hlk := look hst1.map n hml; rw [hg] at hlk; simp only [ptrOf] at hlk; have hfl := hst1.file _ (List.getElem_mem hk'); rw [hek] at hfl; simp only at hfl; obtain ⟨a, cap, hsv⟩ := ownB_shape hfl.2; obtain ⟨g0, g1, z0, z1⟩ := cells2 hfl.1; rw [hsv] at g0; obtain ⟨r0, r1, r2, r3, r8, r4, r5, r6, r7, r9⟩ := cells5 hst1.blk; have hbne : b ≠ p.bf := cells_ne hst1.blk hfl.1 (by decide))
              | (at_builtin; refine wpList_app_str w1 rfl (.tmp 44) (.tmp 45) rfl p.sv p.fl.bytes c (by rw [hsv]; rfl) rfl hfl.2 (by omega) ?_; intro v' w2 hob kp2 hfr; obtain ⟨a', cap', hsv'⟩ := ownB_shape hob; subst hsv'; have hne2 : ∀ g, p.sv.ownBlock = some g → g ≠ p.bf := fun g hg => row_ne hfl.1 hfl.2 hg (by decide); have hb2 := kp2.at hst1.blk (fun e => row_ne hst1.blk hfl.2 e (by decide) rfl); have hf2 := kp2.at hfl.1 (fun e => hne2 _ e rfl); obtain ⟨y0, y1, x0, x1⟩ := cells2 hf2; obtain ⟨s0, s1, s2, s3, s8, s4, s5, s6, s7, s9⟩ := cells5 hb2))
            go_ret
            have hcl := write_close (room' := (d.quota : Int) - used d.files - c.length) hst1 hk' hek kp2 hob hfr
            have e1 : (d.quota : Int) - used (upd n (addB c) d.files) = d.quota - used d.files - c.length := by simp only [addB, List.length_append] at hup; omega
            simp only [List.length_append] at hcl
            rw [HX.out]
            refine ⟨rfl, ⟨_, ?_, (fs_upd (p' := ⟨addB c p.fl, p.bf, .slice a' (p.fl.bytes.length + c.length) cap'⟩) (by rw [hfs]; exact hok.rise) hk' hek (addB c) rfl).trans (by rw [hfs])⟩, (kp.b hst.sb).trans hcl.2 (fun _ _ s => s)⟩
            show PrSt _ _ _ _ _ ((d.quota : Int) - used (upd n (addB c) d.files)) _ _ _
            rw [e1]
            exact hcl.1.mono (fun i _ s => s.elim .inl (fun h => .inr (Nat.le_trans kp.size h)))
  · rw [hd] at hdd
    have HX : Hid (d.write n c = (4, d)) := by simp [Hid, Dk.write, hd]
    clear hst hgf
    go_enter Try.func40, Try.ntmps40
    go_wp2_with (go_at_call 56; refine hdd.mono ?_; rintro e w' ⟨rfl, rfl⟩)
    go_ret
    rw [HX.out]
    exact ⟨rfl, hP.nw, Kp.refl _ _⟩

end Go.Proofs.Ytfghgmojnffgnaa

/- The program's disk: Remove, as a deferred call. -/
namespace Go.Proofs.Ytfghgmojnffgnaa
open Go.RowKit Go.Maps Go.Sort Go.Shelf

set_option maxHeartbeats 1000000 in
theorem dRemoveD_any (u : FrameMode) (b : Nat) (d : Dk) (n : Nm) (S : Nat → Prop) (w : World) (hP : ProgAt w S b d) (hok : d.Ok) (hn : n.length ≤ maxLen) :
    CallsDIn Fence.wide 5 Try.prog 87 #[.pointer (some ⟨b, 0, none⟩), .string ⟨n.toArray⟩] u w fun e u' w' => u' = u ∧ e = .returned (.int .i64 (d.remove n).1) ∧ ProgAt w' (Nw S w) b (d.remove n).2 ∧ Kp S w w' := by
  obtain ⟨bm, ps, hst, hfs⟩ := id hP
  have f1 : Fence.wide.fn 70 := trivial
  have f2 : Fence.wide.fn 61 := trivial
  have f3 : Fence.wide.fn 97 := trivial
  have hgf := getF_fs n ps
  rw [hfs] at hgf
  cases hd : d.dead
  · rw [hd] at hst
    cases hg : getF n ps with
    | none =>
      rw [hg] at hgf
      have HX : Hid (d.remove n = (2, d)) := by simp [Hid, Dk.remove, hd, hgf]
      have hfd := dfind_none hst n hn hg
      clear hst hgf
      refine callsDIn_of_wp Try.func87 rfl trivial ?_
      simp only [Try.ntmps87, List.size_toArray, List.length_cons, List.length_nil, Nat.reduceAdd, Nat.reduceSub, Array.replicate_succ, Array.replicate_zero, List.push_toArray, List.append_toArray, List.nil_append, List.cons_append]
      gi_wp2_with (gi_at_call 70; refine (callsIn_wide.2 hfd).mono ?_; rintro e w' ⟨rfl, rfl⟩)
      go_ret
      rw [HX.out]
      exact ⟨rfl, hP.nw, Kp.refl _ _⟩
    | some p =>
      rw [hg] at hgf
      simp only [Option.map_some] at hgf
      have hfd := dfind_some hst n p hn hg
      by_cases hz : d.left = 0
      · have hbl := blows_die hst.blk hz
        have HX : Hid (d.remove n = (4, d.die)) := by simp [Hid, Dk.remove, hd, hgf, hz]
        clear hgf
        refine callsDIn_of_wp Try.func87 rfl trivial ?_
        simp only [Try.ntmps87, List.size_toArray, List.length_cons, List.length_nil, Nat.reduceAdd, Nat.reduceSub, Array.replicate_succ, Array.replicate_zero, List.push_toArray, List.append_toArray, List.nil_append, List.cons_append]
        gi_wp2_with (first
          | (gi_at_call 70; refine (callsIn_wide.2 hfd).mono ?_; rintro e w' ⟨rfl, rfl⟩)
          | (gi_at_call 61; refine (callsIn_wide.2 hbl).mono ?_; rintro e w1 ⟨rfl, kp, hb1⟩))
        go_ret
        rw [HX.out]
        exact ⟨rfl, ⟨bm, ps, (hst.fields kp hb1).mono (fun _ _ s => .inl s), hfs⟩, kp.b hst.sb⟩
      · have hbl := blows_go hst.blk hok.left0 hok.left1 hz
        have HX : Hid (d.remove n = (0, ⟨d.quota, del n d.files, max (d.left - 1) (-1), false, d.turn⟩)) := by simp [Hid, Dk.remove, hd, hgf, hz, Dk.burn]
        have hlen := bytes_le hok hgf
        have hud := used_del hok.rise hgf
        have hu1 := hok.used
        have hu2 := hok.quota
        clear hgf
        refine callsDIn_of_wp Try.func87 rfl trivial ?_
        simp only [Try.ntmps87, List.size_toArray, List.length_cons, List.length_nil, Nat.reduceAdd, Nat.reduceSub, Array.replicate_succ, Array.replicate_zero, List.push_toArray, List.append_toArray, List.nil_append, List.cons_append]
        gi_wp2_with (first
          | (gi_at_call 70; refine (callsIn_wide.2 hfd).mono ?_; rintro e w' ⟨rfl, rfl⟩; clear hfd)
          | (gi_at_call 61; refine (callsIn_wide.2 hbl).mono ?_; rintro e w1 ⟨rfl, kp, hb1⟩; clear hbl; have hst1 := hst.fields kp hb1)
          | (gi_at_call 97; refine (callsIn_wide.2 (drop_any hst1 n p hn (hst1.file _ (getF_mem hg)) hlen (by omega) (by omega))).mono ?_; rintro e w2 ⟨rfl, hst2, kp2⟩))
        go_ret
        rw [HX.out]
        refine ⟨rfl, ⟨bm, del n ps, ?_, by rw [fs_del, hfs]⟩, (kp.b hst.sb).trans kp2 (fun _ _ s => s.elim (fun e => e ▸ hst.sb) (fun e => e ▸ hst.sm))⟩
        show PrSt _ _ _ _ _ ((d.quota : Int) - used (del n d.files)) _ _ _
        rw [show (d.quota : Int) - used (del n d.files) = d.quota - used d.files + p.fl.bytes.length by omega]
        exact hst2.mono (fun _ _ s => .inl s)
  · rw [hd] at hst
    have HX : Hid (d.remove n = (4, d)) := by simp [Hid, Dk.remove, hd]
    have hfd := dfind_dead hst n
    clear hst hgf
    refine callsDIn_of_wp Try.func87 rfl trivial ?_
    simp only [Try.ntmps87, List.size_toArray, List.length_cons, List.length_nil, Nat.reduceAdd, Nat.reduceSub, Array.replicate_succ, Array.replicate_zero, List.push_toArray, List.append_toArray, List.nil_append, List.cons_append]
    gi_wp2_with (gi_at_call 70; refine (callsIn_wide.2 hfd).mono ?_; rintro e w' ⟨rfl, rfl⟩)
    go_ret
    rw [HX.out]
    exact ⟨rfl, hP.nw, Kp.refl _ _⟩

end Go.Proofs.Ytfghgmojnffgnaa
