import Derived.Test.YtfghgmojnffgnaaGreatPkAL
import Derived.TacticsInMore
set_option maxHeartbeats 4000000
set_option maxRecDepth 20000
namespace Go.Proofs.YtfghgmojnffgnaaGreat
open Go.RowKit Go.Maps Go.Sort Go.Shelf
def ProgAtB (w : World) (S : Nat -> Prop) (bd bm : Nat) (d : Dk) : Prop := ∃ ps, PrSt w S bd bm ps ((d.quota : Int) - used d.files) d.left d.dead d.turn /\ fsOf ps = d.files
theorem ProgAtB.at {w : World} {S : Nat -> Prop} {bd bm : Nat} {d : Dk} (h : ProgAtB w S bd bm d) : ProgAt w S bd d := ⟨bm, h⟩
theorem ProgAt.b {w : World} {S : Nat -> Prop} {bd : Nat} {d : Dk} (h : ProgAt w S bd d) : ∃ bm, ProgAtB w S bd bm d := h
theorem ProgAtB.lt {w : World} {S : Nat -> Prop} {bd bm : Nat} {d : Dk} (h : ProgAtB w S bd bm d) : bm < w.heap.size := by
 obtain ⟨ps, h1, h2⟩ := h; exact h1.map.lt
theorem ProgAtB.mono {w : World} {S T : Nat -> Prop} {bd bm : Nat} {d : Dk} (h : ProgAtB w S bd bm d) (hT : ∀ k, k < w.heap.size -> S k -> T k) : ProgAtB w T bd bm d := by
 obtain ⟨ps, h1, h2⟩ := h; exact ⟨ps, h1.mono hT, h2⟩
theorem ProgAtB.kept {w w' : World} {S T : Nat -> Prop} {bd bm : Nat} {d : Dk} (h : ProgAtB w S bd bm d) (k : Kp T w w') (hT : ∀ i, S i -> ¬ T i) : ProgAtB w' S bd bm d := by
 obtain ⟨ps, h1, h2⟩ := h; exact ⟨ps, h1.kept k hT, h2⟩
theorem ProgAtB.nw {w w' : World} {S : Nat -> Prop} {bd bm : Nat} {d : Dk} (h : ProgAtB w' S bd bm d) : ProgAtB w' (Nw S w) bd bm d := h.mono (fun _ _ s => .inl s)
theorem ProgAtB.own {A B : World} {S : Nat -> Prop} {bd bm : Nat} {d : Dk} {row : Option Nat} (h : ProgAtB A S bd bm d) (hg : A.grownBy B row) (hr : ∀ r, row = some r -> ∃ o, A.heap[r]? = some o /\ o.isCells = false) (hb : row ≠ some bm) : ProgAtB B S bd bm d := by
 obtain ⟨ps, h1, h2⟩ := h
 have k : Kp (fun i => row = some i) A B := (Kp.refl _ A).grown hg (fun k hk _ => hk)
 have hE : PrSt A (fun i => i = bd \/ i = bm \/ ∃ x ∈ ps, i = x.2.bf \/ x.2.sv.ownBlock = some i) bd bm ps ((d.quota : Int) - used d.files) d.left d.dead d.turn :=
   ⟨h1.blk, h1.map, h1.file, h1.apart, .inl rfl, .inr (.inl rfl), fun x hx => ⟨.inr (.inr ⟨x, hx, .inl rfl⟩), fun g hg => .inr (.inr ⟨x, hx, .inr hg⟩)⟩⟩
 refine ⟨ps, (hE.kept k (fun i s e => ?_)).mono (T := S) (fun i _ s => ?_), h2⟩
 . obtain ⟨o, ho, hc⟩ := hr i e
   rcases s with rfl | rfl | ⟨x, hx, rfl | s⟩
   . rw [h1.blk] at ho; cases ho; cases hc
   . exact hb e
   . rw [(h1.file x hx).1] at ho; cases ho; cases hc
   . rcases ((h1.file x hx).2).2 with ⟨hv, _⟩ | ⟨g, cap, cur, hv, _, hgg, _⟩
     . rw [hv] at s; simp [Value.ownBlock] at s
     . rw [hv] at s
       obtain rfl : g = i := by simpa [Value.ownBlock] using s
       rw [hgg] at ho; cases ho; cases hc
 . rcases s with rfl | rfl | ⟨x, hx, rfl | s⟩
   . exact h1.sb
   . exact h1.sm
   . exact (h1.sf x hx).1
   . exact (h1.sf x hx).2 i s
theorem dWriteB_any (b bm : Nat) (d : Dk) (n : Nm) (c : List UInt8) (S : Nat -> Prop) (w : World) (hP : ProgAtB w S b bm d) (hok : d.Ok) (hl : d.files.length <= 4194302) (hn : n.length <= 1099511627776) (hc : c.length <= 1099511627776) :
   Calls Tryz.prog 80 #[.pointer (some ⟨b, 0, none⟩), .string ⟨n.toArray⟩, .string ⟨c.toArray⟩] w fun e w' => e = .returned (.int .i64 (d.write n c).1) /\ ProgAtB w' (Nw S w) b bm (d.write n c).2 /\ Kp S w w' := by
 obtain ⟨ps, hst, hfs⟩ := id hP
 have hgf := getF_fs n ps
 rw [hfs] at hgf
 have hdd := isDead_any hst.blk
 have hnm := isName_any ⟨n.toArray⟩ w (by show n.length <= _; unfold maxLen; omega)
 have hu1 := hok.used
 have hu2 := hok.quota
 have hml : n.length <= maxLen := by unfold maxLen; omega
 have hpl : ps.length <= 4194302 := by rw [<- fs_len, hfs]; exact hl
 obtain ⟨c0, c1, c2, c3, c8, f0, f1, f2, f3, f9⟩ := cells5 hst.blk
 cases hd : d.dead
 . rw [hd] at hst hdd
   by_cases hk : nameOk n = false
   . have HX : Hid (d.write n c = (1, d)) := by simp [Hid, Dk.write, hd, hk]
     clear hst hgf
     go_enter Tryz.func80, Tryz.ntmps80
     go_wp2_with (first
       | (go_at_call 71; refine hdd.mono ?_; rintro e w' ⟨rfl, rfl⟩)
       | (go_at_call 129; refine hnm.mono ?_; rintro e w' ⟨rfl, rfl⟩; simp only [hk]))
     go_ret
     rw [HX.out]
     exact ⟨rfl, hP.nw, Kp.refl _ _⟩
   . rw [Bool.not_eq_false] at hk
     by_cases hq : d.quota < used d.files + c.length
     . have HX : Hid (d.write n c = (3, d)) := by simp [Hid, Dk.write, hd, hk, hq]
       clear hst hgf
       go_enter Tryz.func80, Tryz.ntmps80
       go_wp2_with (first
         | (go_at_call 71; refine hdd.mono ?_; rintro e w' ⟨rfl, rfl⟩)
         | (go_at_call 129; refine hnm.mono ?_; rintro e w' ⟨rfl, rfl⟩; simp only [hk]))
       go_ret
       rw [HX.out]
       exact ⟨rfl, hP.nw, Kp.refl _ _⟩
     . by_cases hz : d.left = 0
       . have hbl := blows_die hst.blk hz
         have HX : Hid (d.write n c = (4, d.die)) := by simp [Hid, Dk.write, hd, hk, hq, hz]
         clear hgf
         go_enter Tryz.func80, Tryz.ntmps80
         go_wp2_with (first
           | (go_at_call 71; refine hdd.mono ?_; rintro e w' ⟨rfl, rfl⟩)
           | (go_at_call 129; refine hnm.mono ?_; rintro e w' ⟨rfl, rfl⟩; simp only [hk])
           | (go_at_call 117; refine hbl.mono ?_; rintro e w1 ⟨rfl, kp, hb1⟩))
         go_ret
         rw [HX.out]
         exact ⟨rfl, ⟨ps, (hst.fields kp hb1).mono (fun _ _ s => .inl s), hfs⟩, kp.b hst.sb⟩
       . have hbl := blows_go hst.blk hok.left0 hok.left1 hz
         cases hg : getF n ps with
         | none =>
           rw [hg] at hgf
           have HX : Hid (d.write n c = (0, ⟨d.quota, ins (n, ⟨c, 0⟩) d.files, max (d.left - 1) (-1), false, d.turn⟩)) := by simp [Hid, Dk.write, hd, hk, hq, hz, hgf, Dk.burn]
           have hri : rising ps := rising_ps (by rw [hfs]; exact hok.rise)
           have hui := used_ins (n, ⟨c, 0⟩) d.files
           have HG : Hid (getF n d.files = none) := hgf
           clear hgf
           go_enter Tryz.func80, Tryz.ntmps80
           go_wp2_with (first
             | (go_at_call 71; refine hdd.mono ?_; rintro e w' ⟨rfl, rfl⟩; clear hdd)
             | (go_at_call 129; refine hnm.mono ?_; rintro e w' ⟨rfl, rfl⟩; simp only [hk]; clear hnm)
             | (go_at_call 117; refine hbl.mono ?_; rintro e w1 ⟨rfl, kp, hb1⟩; clear hbl; have hst1 := hst.fields kp hb1; have hlk := look hst1.map n hml; rw [hg] at hlk; simp only [ptrOf] at hlk; obtain ⟨r0, r1, r2, r3, r8, r4, r5, r6, r7, r9⟩ := cells5 hst1.blk; have hblt := lt_of_block hst1.blk)
             | (go_at_call 130; refine (add_any (w := w1.alloc (.cells #[.slice none 0 0, .int .i64 0] 174)) ((hst1.below ((Below.refl _ w1).alloc (Nat.le_refl _) _)).mono (T := Nw S w1) (fun _ _ s => .inl s)) n ⟨⟨[], 0⟩, w1.heap.size, .slice none 0 0⟩ hn (by omega) hg ⟨block_new w1 _, World.ownsRow_nil _ _ _ _⟩ (fun x hx => ⟨fun e => by have := lt_of_block (hst1.file x hx).1; simp only at e; omega, fun g hg' => by simp [Value.ownBlock] at hg'⟩) ⟨.inr (Nat.le_refl _), fun g hg' => by simp [Value.ownBlock] at hg'⟩).mono ?_; rintro e w3 ⟨rfl, hst3, kp3⟩; obtain ⟨k, hk', hek⟩ := getF_pos (getF_ins (x := (⟨⟨[], 0⟩, w1.heap.size, .slice none 0 0⟩ : PF)) hri hg); have hfl := hst3.file _ (List.getElem_mem hk'); rw [hek] at hfl; simp only at hfl; obtain ⟨g0, g1, z0, z1⟩ := cells2 hfl.1; obtain ⟨t0, t1, t2, t3, t8, t4, t5, t6, t7, t9⟩ := cells5 hst3.blk; have hbne : b ≠ w1.heap.size := cells_ne hst3.blk hfl.1 (by decide))
             | (at_builtin; refine wpList_app_str w3 rfl (.tmp 44) (.tmp 45) rfl (.slice none 0 0) [] c rfl rfl hfl.2 (by simp; omega) ?_; intro v' w2 hob kp2 hfr; obtain ⟨a', cap', hsv'⟩ := ownB_shape hob; subst hsv'; have hb2 := kp2.at hst3.blk (fun e => by simp [Value.ownBlock] at e); have hf2 := kp2.at hfl.1 (fun e => by simp [Value.ownBlock] at e); obtain ⟨y0, y1, x0, x1⟩ := cells2 hf2; obtain ⟨s0, s1, s2, s3, s8, s4, s5, s6, s7, s9⟩ := cells5 hb2))
           go_ret
           have hcl := write_close (room' := (d.quota : Int) - used d.files - c.length) hst3 hk' hek kp2 hob hfr
           rw [HX.out]
           have e2 : fsOf ((ins (n, (⟨⟨[], 0⟩, w1.heap.size, .slice none 0 0⟩ : PF)) ps).set k ((ins (n, (⟨⟨[], 0⟩, w1.heap.size, .slice none 0 0⟩ : PF)) ps)[k].1, ⟨addB c ⟨[], 0⟩, w1.heap.size, .slice a' ([] ++ c).length cap'⟩)) = ins (n, ⟨c, 0⟩) d.files := by
             rw [fs_upd (p := ⟨⟨[], 0⟩, w1.heap.size, .slice none 0 0⟩) (n := n) (by rw [fs_ins, hfs]; exact rising_ins hok.rise HG.out) hk' hek (addB c) rfl, fs_ins, hfs, upd_ins HG.out]
             simp [addB]
           have kpa : Kp S w' w3 := kpNw ((((kp.b (S := Nw S w') (.inl hst.sb)).alloc _).trans kp3 (fun i hi e => by subst e; exact .inl hst.sm)))
           refine ⟨rfl, ⟨_, ?_, e2⟩, kpNw ((kpa.mono (T := Nw S w') (fun _ s => .inl s)).trans hcl.2 (fun i hi s => s.elim .inl (fun h => .inr (Nat.le_trans kp.size h))))⟩
           show PrSt _ _ _ _ _ ((d.quota : Int) - used (ins (n, ⟨c, 0⟩) d.files)) _ _ _
           rw [show (d.quota : Int) - used (ins (n, ⟨c, 0⟩) d.files) = d.quota - used d.files - c.length by omega]
           exact hcl.1.mono (fun i _ s => by
             rcases s with (s | s) | s
             . exact .inl s
             . exact .inr (Nat.le_trans kp.size s)
             . exact .inr (Nat.le_trans kpa.size s))
         | some p =>
           rw [hg] at hgf
           simp only [Option.map_some] at hgf
           have HX : Hid (d.write n c = (0, ⟨d.quota, upd n (addB c) d.files, max (d.left - 1) (-1), false, d.turn⟩)) := by simp [Hid, Dk.write, hd, hk, hq, hz, hgf, Dk.burn]
           have hlen := bytes_le hok hgf
           have hup := used_upd hok.rise hgf (addB c)
           obtain ⟨k, hk', hek⟩ := getF_pos hg
           clear hgf
           go_enter Tryz.func80, Tryz.ntmps80
           go_wp2_with (first
             | (go_at_call 71; refine hdd.mono ?_; rintro e w' ⟨rfl, rfl⟩; clear hdd)
             | (go_at_call 129; refine hnm.mono ?_; rintro e w' ⟨rfl, rfl⟩; simp only [hk]; clear hnm)
             | (go_at_call 117; refine hbl.mono ?_; rintro e w1 ⟨rfl, kp, hb1⟩; clear hbl; have hst1 := hst.fields kp hb1; have hlk := look hst1.map n hml; rw [hg] at hlk; simp only [ptrOf] at hlk; have hfl := hst1.file _ (List.getElem_mem hk'); rw [hek] at hfl; simp only at hfl; obtain ⟨a, cap, hsv⟩ := ownB_shape hfl.2; obtain ⟨g0, g1, z0, z1⟩ := cells2 hfl.1; rw [hsv] at g0; obtain ⟨r0, r1, r2, r3, r8, r4, r5, r6, r7, r9⟩ := cells5 hst1.blk; have hbne : b ≠ p.bf := cells_ne hst1.blk hfl.1 (by decide))
             | (at_builtin; refine wpList_app_str w1 rfl (.tmp 44) (.tmp 45) rfl p.sv p.fl.bytes c (by rw [hsv]; rfl) rfl hfl.2 (by omega) ?_; intro v' w2 hob kp2 hfr; obtain ⟨a', cap', hsv'⟩ := ownB_shape hob; subst hsv'; have hne2 : ∀ g, p.sv.ownBlock = some g -> g ≠ p.bf := fun g hg => row_ne hfl.1 hfl.2 hg (by decide); have hb2 := kp2.at hst1.blk (fun e => row_ne hst1.blk hfl.2 e (by decide) rfl); have hf2 := kp2.at hfl.1 (fun e => hne2 _ e rfl); obtain ⟨y0, y1, x0, x1⟩ := cells2 hf2; obtain ⟨s0, s1, s2, s3, s8, s4, s5, s6, s7, s9⟩ := cells5 hb2))
           go_ret
           have hcl := write_close (room' := (d.quota : Int) - used d.files - c.length) hst1 hk' hek kp2 hob hfr
           have e1 : (d.quota : Int) - used (upd n (addB c) d.files) = d.quota - used d.files - c.length := by simp only [addB, List.length_append] at hup; omega
           simp only [List.length_append] at hcl
           rw [HX.out]
           refine ⟨rfl, ⟨_, ?_, (fs_upd (p' := ⟨addB c p.fl, p.bf, .slice a' (p.fl.bytes.length + c.length) cap'⟩) (by rw [hfs]; exact hok.rise) hk' hek (addB c) rfl).trans (by rw [hfs])⟩, (kp.b hst.sb).trans hcl.2 (fun _ _ s => s)⟩
           show PrSt _ _ _ _ _ ((d.quota : Int) - used (upd n (addB c) d.files)) _ _ _
           rw [e1]
           exact hcl.1.mono (fun i _ s => s.elim .inl (fun h => .inr (Nat.le_trans kp.size h)))
 . rw [hd] at hdd
   have HX : Hid (d.write n c = (4, d)) := by simp [Hid, Dk.write, hd]
   clear hst hgf
   go_enter Tryz.func80, Tryz.ntmps80
   go_wp2_with (go_at_call 71; refine hdd.mono ?_; rintro e w' ⟨rfl, rfl⟩)
   go_ret
   rw [HX.out]
   exact ⟨rfl, hP.nw, Kp.refl _ _⟩
end Go.Proofs.YtfghgmojnffgnaaGreat
namespace Go.Proofs.YtfghgmojnffgnaaGreat
open Go.RowKit Go.Maps Go.Sort Go.Shelf
theorem dRemoveD_any (u : FrameMode) (b : Nat) (d : Dk) (n : Nm) (S : Nat -> Prop) (w : World) (hP : ProgAt w S b d) (hok : d.Ok) (hn : n.length <= maxLen) :
   CallsDIn Fence.wide 5 Tryz.prog 88 #[.pointer (some ⟨b, 0, none⟩), .string ⟨n.toArray⟩] u w fun e u' w' => u' = u /\ e = .returned (.int .i64 (d.remove n).1) /\ ProgAt w' (Nw S w) b (d.remove n).2 /\ Kp S w w' := by
 obtain ⟨bm, ps, hst, hfs⟩ := id hP
 have f1 : Fence.wide.fn 116 := trivial
 have f2 : Fence.wide.fn 117 := trivial
 have f3 : Fence.wide.fn 131 := trivial
 have hgf := getF_fs n ps
 rw [hfs] at hgf
 cases hd : d.dead
 . rw [hd] at hst
   cases hg : getF n ps with
   | none =>
     rw [hg] at hgf
     have HX : Hid (d.remove n = (2, d)) := by simp [Hid, Dk.remove, hd, hgf]
     have hfd := dfind_none hst n hn hg
     clear hst hgf
     refine callsDIn_of_wp Tryz.func88 rfl trivial ?_
     simp only [Tryz.ntmps88, List.size_toArray, List.length_cons, List.length_nil, Nat.reduceAdd, Nat.reduceSub, Array.replicate_succ, Array.replicate_zero, List.push_toArray, List.append_toArray, List.nil_append, List.cons_append]
     gi_wp2_with (gi_at_call 116; refine (callsIn_wide.2 hfd).mono ?_; rintro e w' ⟨rfl, rfl⟩)
     go_ret
     rw [HX.out]
     exact ⟨rfl, hP.nw, Kp.refl _ _⟩
   | some p =>
     rw [hg] at hgf
     simp only [Option.map_some] at hgf
     have hfd := dfind_some hst n p hn hg
     by_cases hz : d.left = 0
     . have hbl := blows_die hst.blk hz
       have HX : Hid (d.remove n = (4, d.die)) := by simp [Hid, Dk.remove, hd, hgf, hz]
       clear hgf
       refine callsDIn_of_wp Tryz.func88 rfl trivial ?_
       simp only [Tryz.ntmps88, List.size_toArray, List.length_cons, List.length_nil, Nat.reduceAdd, Nat.reduceSub, Array.replicate_succ, Array.replicate_zero, List.push_toArray, List.append_toArray, List.nil_append, List.cons_append]
       gi_wp2_with (first
         | (gi_at_call 116; refine (callsIn_wide.2 hfd).mono ?_; rintro e w' ⟨rfl, rfl⟩)
         | (gi_at_call 117; refine (callsIn_wide.2 hbl).mono ?_; rintro e w1 ⟨rfl, kp, hb1⟩))
       go_ret
       rw [HX.out]
       exact ⟨rfl, ⟨bm, ps, (hst.fields kp hb1).mono (fun _ _ s => .inl s), hfs⟩, kp.b hst.sb⟩
     . have hbl := blows_go hst.blk hok.left0 hok.left1 hz
       have HX : Hid (d.remove n = (0, ⟨d.quota, del n d.files, max (d.left - 1) (-1), false, d.turn⟩)) := by simp [Hid, Dk.remove, hd, hgf, hz, Dk.burn]
       have hlen := bytes_le hok hgf
       have hud := used_del hok.rise hgf
       have hu1 := hok.used
       have hu2 := hok.quota
       clear hgf
       refine callsDIn_of_wp Tryz.func88 rfl trivial ?_
       simp only [Tryz.ntmps88, List.size_toArray, List.length_cons, List.length_nil, Nat.reduceAdd, Nat.reduceSub, Array.replicate_succ, Array.replicate_zero, List.push_toArray, List.append_toArray, List.nil_append, List.cons_append]
       gi_wp2_with (first
         | (gi_at_call 116; refine (callsIn_wide.2 hfd).mono ?_; rintro e w' ⟨rfl, rfl⟩; clear hfd)
         | (gi_at_call 117; refine (callsIn_wide.2 hbl).mono ?_; rintro e w1 ⟨rfl, kp, hb1⟩; clear hbl; have hst1 := hst.fields kp hb1)
         | (gi_at_call 131; refine (callsIn_wide.2 (drop_any hst1 n p hn (hst1.file _ (getF_mem hg)) hlen (by omega) (by omega))).mono ?_; rintro e w2 ⟨rfl, hst2, kp2⟩))
       go_ret
       rw [HX.out]
       refine ⟨rfl, ⟨bm, del n ps, ?_, by rw [fs_del, hfs]⟩, (kp.b hst.sb).trans kp2 (fun _ _ s => s.elim (fun e => e ▸ hst.sb) (fun e => e ▸ hst.sm))⟩
       show PrSt _ _ _ _ _ ((d.quota : Int) - used (del n d.files)) _ _ _
       rw [show (d.quota : Int) - used (del n d.files) = d.quota - used d.files + p.fl.bytes.length by omega]
       exact hst2.mono (fun _ _ s => .inl s)
 . rw [hd] at hst
   have HX : Hid (d.remove n = (4, d)) := by simp [Hid, Dk.remove, hd]
   have hfd := dfind_dead hst n
   clear hst hgf
   refine callsDIn_of_wp Tryz.func88 rfl trivial ?_
   simp only [Tryz.ntmps88, List.size_toArray, List.length_cons, List.length_nil, Nat.reduceAdd, Nat.reduceSub, Array.replicate_succ, Array.replicate_zero, List.push_toArray, List.append_toArray, List.nil_append, List.cons_append]
   gi_wp2_with (gi_at_call 116; refine (callsIn_wide.2 hfd).mono ?_; rintro e w' ⟨rfl, rfl⟩)
   go_ret
   rw [HX.out]
   exact ⟨rfl, hP.nw, Kp.refl _ _⟩
end Go.Proofs.YtfghgmojnffgnaaGreat
namespace Go.Proofs.YtfghgmojnffgnaaGreat
open Go.RowKit Go.Maps Go.Sort Go.Shelf
def cutOf (ops : List Ox) {n : Nat} (x : CX n) : List Ox := (ops.drop x.1.1).take x.1.2
theorem cutOf_len {ops : List Ox} {n : Nat} (h : n = ops.length) (x : CX n) : (cutOf ops x).length = x.1.2 := by
 have := x.2.1
 unfold cutOf
 rw [List.length_take, List.length_drop]
 omega
theorem cutOf_ok {ops : List Ox} {n : Nat} (h : n = ops.length) (ho : ∀ o ∈ ops, opOk o = true) (x : CX n) : batchOk (cutOf ops x) = true := by
 rw [batchOk_iff, cutOf_len h x]
 exact ⟨⟨x.2.2.1, x.2.2.2⟩, fun o hx => ho o (List.mem_of_mem_drop (List.mem_of_mem_take hx))⟩
theorem Opp.cut {W : World} {g off : Nat} {ops : List Ox} (h : Opp W (some ⟨g, off, none⟩) ops) {n : Nat} (hn : n = ops.length) (x : CX n) : Opp W (some ⟨g, off + x.1.1 * 3, none⟩) (cutOf ops x) := fun i hi => by
 have hl := cutOf_len hn x
 have h1 := x.2.1
 obtain ⟨g', off', e, c0, c1, c2⟩ := h (x.1.1 + i) (by omega)
 cases e
 have e0 : (cutOf ops x)[i] = ops[x.1.1 + i]'(by omega) := by simp [cutOf]
 refine ⟨g, off + x.1.1 * 3, rfl, ?_, ?_, ?_⟩
 . rw [e0, show off + x.1.1 * 3 + i * 3 = off + (x.1.1 + i) * 3 by omega]; exact c0
 . rw [e0, show off + x.1.1 * 3 + i * 3 = off + (x.1.1 + i) * 3 by omega]; exact c1
 . rw [e0, show off + x.1.1 * 3 + i * 3 = off + (x.1.1 + i) * 3 by omega]; exact c2
def putAll : Dk -> List (List Ox) -> Int × Dk
 | d, [] => (0, d)
 | d, b :: r => if (d.write newN (encode b)).1 = 0 then putAll (d.write newN (encode b)).2 r else d.write newN (encode b)
def putO : Dk -> List (List Ox) -> Option Dk
 | d, [] => some d
 | d, b :: r => if (d.write newN (encode b)).1 = 0 then putO (d.write newN (encode b)).2 r else none
theorem putO_snoc : ∀ (bs : List (List Ox)) {d dc : Dk} (b : List Ox), putO d bs = some dc -> (dc.write newN (encode b)).1 = 0 -> putO d (bs ++ [b]) = some (dc.write newN (encode b)).2
 | [], d, dc, b, h, e => by cases h; simp [putO, e]
 | x :: r, d, dc, b, h, e => by
   simp only [putO, List.cons_append] at h ⊢
   split at h
   . rename_i h1; rw [if_pos h1]; exact putO_snoc r b h e
   . cases h
theorem putAll_of : ∀ (bs : List (List Ox)) {d dc : Dk}, putO d bs = some dc -> putAll d bs = (0, dc)
 | [], d, dc, h => by cases h; rfl
 | x :: r, d, dc, h => by
   simp only [putO, putAll] at h ⊢
   split at h
   . rename_i h1; rw [if_pos h1]; exact putAll_of r h
   . cases h
theorem putAll_stop : ∀ (bs : List (List Ox)) {d dc : Dk} (b : List Ox) (r : List (List Ox)), putO d bs = some dc -> (dc.write newN (encode b)).1 ≠ 0 -> putAll d (bs ++ b :: r) = dc.write newN (encode b)
 | [], d, dc, b, r, h, e => by cases h; simp [putAll, e]
 | x :: s, d, dc, b, r, h, e => by
   simp only [putO, putAll, List.cons_append] at h ⊢
   split at h
   . rename_i h1; rw [if_pos h1]; exact putAll_stop s b r h e
   . cases h
def finW (d : Dk) : Int × Dk := if (d.sync newN).1 = 0 then (d.sync newN).2.rename newN logN else d.sync newN
def midW (d : Dk) (bs : List (List Ox)) : Int × Dk := if (putAll d bs).1 = 0 then finW (putAll d bs).2 else putAll d bs
def begW (d : Dk) (bs : List (List Ox)) : Int × Dk := if (d.write newN []).1 = 0 then midW (d.write newN []).2 bs else d.write newN []
def chunksOf (ops : List Ox) : List (List Ox) := (cuts ops.length).map (cutOf ops)
def rewriteX (d : Dk) (m : Mp) : Int × Dk := ((begW (d.remove newN).2 (chunksOf (opsOf m))).1, ((begW (d.remove newN).2 (chunksOf (opsOf m))).2.remove newN).2)
theorem ProgAtB.not {A : World} {S : Nat -> Prop} {bd bm : Nat} {d : Dk} {r : Nat} {o : Obj} (h : ProgAtB A S bd bm d) (ho : A.heap[r]? = some o) (hc : o.isCells = false) (hb : r ≠ bm) : ProgAtB A (fun i => S i /\ i ≠ r) bd bm d := by
 obtain ⟨ps, h1, h2⟩ := h
 refine ⟨ps, ⟨h1.blk, h1.map, h1.file, h1.apart, ⟨h1.sb, ?_⟩, ⟨h1.sm, fun e => hb e.symm⟩, fun x hx => ⟨⟨(h1.sf x hx).1, ?_⟩, fun g hg => ⟨(h1.sf x hx).2 g hg, ?_⟩⟩⟩, h2⟩
 . rintro rfl; rw [h1.blk] at ho; cases ho; cases hc
 . rintro rfl; rw [(h1.file x hx).1] at ho; cases ho; cases hc
 . rintro rfl
   rcases ((h1.file x hx).2).2 with ⟨hv, _⟩ | ⟨g', cap, cur, hv, _, hgg, _⟩
   . rw [hv] at hg; simp [Value.ownBlock] at hg
   . rw [hv] at hg
     obtain rfl : g' = g := by simpa [Value.ownBlock] using hg
     rw [hgg] at ho; cases ho; cases hc
end Go.Proofs.YtfghgmojnffgnaaGreat
namespace Go.Proofs.YtfghgmojnffgnaaGreat
open Go.RowKit Go.Maps Go.Sort Go.Shelf
abbrev wA (w : World) (bs : Nat) : World := (w.alloc (.cells #[.pointer (some ⟨bs, 0, none⟩)] 77)).alloc (.cells #[.int .i64 0] 37)
structure Ap (w : World) (S T : Nat -> Prop) : Prop where
 s : ∀ k, S k -> k < w.heap.size
 t : ∀ k, T k -> k < w.heap.size
 st : ∀ k, S k -> ¬ T k
structure Rw (w : World) (S T : Nat -> Prop) (bd bs bm : Nat) (st : St) (r : Int) (dc : Dk) (D : Nat -> Prop) (W : World) : Prop where
 ap : Ap w S T
 prog : ProgAt W D bd dc
 dset : ∀ k, D k -> S k \/ w.heap.size + 2 <= k
 st : StAt W T bs bd bm st
 bS : Boxed W w.heap.size 77 (.pointer (some ⟨bs, 0, none⟩))
 bR : Boxed W (w.heap.size + 1) 37 (.int .i64 r)
 kp : Kp S w W
 big : w.heap.size + 2 <= W.heap.size
section
variable {w : World} {S T : Nat -> Prop} {bd bs bm : Nat} {st : St} {r : Int} {dc dc' : Dk} {D V : Nat -> Prop} {W W' : World}
theorem Rw.out (h : Rw w S T bd bs bm st r dc D W) : (∀ i, T i -> ¬ D i) /\ ¬ D w.heap.size /\ ¬ D (w.heap.size + 1) := by
 refine ⟨fun i t d => ?_, fun d => ?_, fun d => ?_⟩
 . rcases h.dset i d with s | s
   . exact h.ap.st i s t
   . have := h.ap.t i t; omega
 . rcases h.dset _ d with s | s
   . have := h.ap.s _ s; omega
   . omega
 . rcases h.dset _ d with s | s
   . have := h.ap.s _ s; omega
   . omega
theorem Rw.next (h : Rw w S T bd bs bm st r dc D W) (k : Kp D W W') (hP : ProgAt W' (Nw D W) bd dc') : Rw w S T bd bs bm st r dc' (Nw D W) W' := by
 obtain ⟨o1, o2, o3⟩ := h.out
 exact ⟨h.ap, hP, fun i s => s.elim (h.dset i) (fun s => .inr (Nat.le_trans h.big s)), h.st.kept k o1, k.at h.bS o2, k.at h.bR o3, h.kp.trans k (fun i hi s => (h.dset i s).elim id (fun s => by omega)), Nat.le_trans h.big k.size⟩
theorem Rw.below (h : Rw w S T bd bs bm st r dc D W) (b : Below W.heap.size W W') : Rw w S T bd bs bm st r dc D W' :=
 ⟨h.ap, h.prog.below b, h.dset, h.st.below b, block_at2 h.bS b, block_at2 h.bR b, kp_below h.kp b, Nat.le_trans h.big b.size⟩
theorem Rw.mono (h : Rw w S T bd bs bm st r dc D W) (hV : ∀ k, k < W.heap.size -> D k -> V k) (hs : ∀ k, V k -> D k) : Rw w S T bd bs bm st r dc V W :=
 ⟨h.ap, h.prog.mono hV, fun k v => h.dset k (hs k v), h.st, h.bS, h.bR, h.kp, h.big⟩
theorem Rw.put (h : Rw w S T bd bs bm st r dc D W) (r' : Int) : Rw w S T bd bs bm st r' dc D (W.setCell ⟨w.heap.size + 1, 0, none⟩ (.int .i64 r')) := by
 obtain ⟨o1, o2, o3⟩ := h.out
 have k := Kp.set1 W (w.heap.size + 1) 0 (.int .i64 r')
 have hsz := k.size
 refine ⟨h.ap, h.prog.kept k (fun i d e => by rw [e] at d; exact o3 d), h.dset, h.st.kept k (fun i t e => by have := h.ap.t i t; omega), k.at h.bS (by omega), (block_set h.bR _).trans rfl, h.kp.trans k (fun i hi e => by omega), Nat.le_trans h.big hsz⟩
theorem rw_begin (hP : ProgAt w S bd dc) (hT : StAt w T bs bd bm st) (ha : Ap w S T) : Rw w S T bd bs bm st 0 dc S (wA w bs) := by
 have hbA : Below w.heap.size w (wA w bs) := ((Below.refl _ w).alloc (Nat.le_refl _) _).alloc (by simp) _
 refine ⟨ha, hP.below hbA, fun k s => .inl s, hT.below hbA, (Boxed.new w _ _).alloc _, ?_, Kp.of_below hbA, by simp⟩
 have := Boxed.new (w.alloc (.cells #[.pointer (some ⟨bs, 0, none⟩)] 77)) 37 (.int .i64 0)
 rwa [World.size_alloc] at this
theorem Rw.sys (h : Rw w S T bd bs bm st r dc D W) {U : Nat -> Prop} (u1 : ∀ k, S k -> U k) (u2 : ∀ k, T k -> U k) : Sys W (Nw U w) bd bs dc st /\ Kp U w W :=
 ⟨Sys.of (S := D) (T := T) (fun k s => (h.dset k s).elim (fun s => .inl (u1 k s)) (fun s => .inr (by omega))) (fun k t => .inl (u2 k t)) (fun k s t => h.out.1 k t s) h.prog h.st, h.kp.mono u1⟩
theorem Rw.later (h : Rw w S T bd bs bm st r dc D W) (k : Kp D W W') (hP : ProgAt W' V bd dc') (hV : ∀ i, V i -> Nw D W i) : Rw w S T bd bs bm st r dc' V W' := by
 obtain ⟨o1, o2, o3⟩ := h.out
 exact ⟨h.ap, hP, fun i s => (hV i s).elim (h.dset i) (fun s => .inr (Nat.le_trans h.big s)), h.st.kept k o1, k.at h.bS o2, k.at h.bR o3, h.kp.trans k (fun i hi s => (h.dset i s).elim id (fun s => by omega)), Nat.le_trans h.big k.size⟩
theorem Rw.told (h : Rw w S T bd bs bm st r dc D W) (r' : Int) (k : Kp (fun i => D i \/ i = w.heap.size + 1) W W') (hP : ProgAt W' V bd dc') (hV : ∀ i, V i -> Nw D W i) (hb : Boxed W' (w.heap.size + 1) 37 (.int .i64 r')) : Rw w S T bd bs bm st r' dc' V W' := by
 obtain ⟨o1, o2, o3⟩ := h.out
 refine ⟨h.ap, hP, fun i s => (hV i s).elim (h.dset i) (fun s => .inr (Nat.le_trans h.big s)), h.st.kept k (fun i t s => s.elim (o1 i t) (fun e => by have := h.ap.t i t; omega)), k.at h.bS (fun s => s.elim o2 (fun e => by omega)), hb, h.kp.trans k (fun i hi s => s.elim (fun s => (h.dset i s).elim id (fun s => by omega)) (fun e => by omega)), Nat.le_trans h.big k.size⟩
theorem Rw.mark (h : Rw w S T bd bs bm st r dc D W) {m : Nat} (o : Obj) (hm : ¬ D m) (hb : w.heap.size + 2 <= m) : Rw w S T bd bs bm st r dc D (W.putObj m o) := by
 have k : Kp (fun i => i = m) W (W.putObj m o) := (Kp.refl _ W).grown (grownBy_putObj' W m o) (fun i e _ => by cases e; rfl)
 refine ⟨h.ap, h.prog.kept k (fun i d e => by rw [e] at d; exact hm d), h.dset, h.st.kept k (fun i t e => by have := h.ap.t i t; omega), k.at h.bS (by omega), k.at h.bR (by omega), h.kp.trans k (fun i hi e => by omega), Nat.le_trans h.big k.size⟩
theorem result_run {fn : Func} (hf : fn.results = #[.cell 2 37]) {tmps : Array Value} (ht : tmps[2]? = some (.pointer (some ⟨w.heap.size + 1, 0, none⟩))) (hb : Boxed W (w.heap.size + 1) 37 (.int .i64 r)) : (results fn tmps).run Tryz.prog W = .ok (.int .i64 r) W := by
 have hc := hb.cell
 simp only [results, hf]
 simp [Sem.run_bind, Result.andThen, ht, asAddr, loadVar, hc, go_sem]
theorem Rw.leave (h : Rw w S T bd bs bm st r dc D W) (hok : dc.Ok) {fn : Func} (hf : fn.results = #[.cell 2 37]) {tmps : Array Value} (ht : tmps[2]? = some (.pointer (some ⟨w.heap.size + 1, 0, none⟩))) {U : Nat -> Prop} (u1 : ∀ k, S k -> U k) (u2 : ∀ k, T k -> U k)
   {R : Ending -> World -> Prop} (hR : ∀ w', Sys w' (Nw U w) bd bs (dc.remove newN).2 st -> Kp U w w' -> R (.returned (.int .i64 r)) w') :
   LeavesInM Fence.wide 6 Tryz.prog fn tmps R [{ target := .fn (.func 88) #[], args := #[.pointer (some ⟨bd, 0, none⟩), str newN] }] .returning W := by
 have eg : ∀ args w, (callFunc 88 args).run Tryz.prog w = .ok (.enter 88 args) w := enters_of Tryz.func88 (by kernel_rfl) rfl
 refine ⟨by simp, .inr ⟨fun _ => by decide, _, _, 88, #[.pointer (some ⟨bd, 0, none⟩), str newN], rfl, ?_, fun _ _ => trivial, ?_⟩⟩
 . simp [invoke, go_sem, eg]
 . refine (dRemoveD_any .returning bd dc newN D W h.prog hok (by decide)).mono ?_
   rintro e u' w' ⟨rfl, rfl, hP, k⟩
   have h2 := h.next k hP
   obtain ⟨a, b⟩ := h2.sys u1 u2
   exact ⟨_, result_run hf ht h2.bR, hR w' a b⟩
theorem Rw.leaveM (h : Rw w S T bd bs bm st r dc D W) (hok : dc.Ok) {m : Nat} (hm : ¬ D m) (hb : w.heap.size + 2 <= m) (hK : W.heap[m]? = some (.deferred (some []))) {fn : Func} (hf : fn.results = #[.cell 2 37]) {tmps : Array Value} (ht : tmps[2]? = some (.pointer (some ⟨w.heap.size + 1, 0, none⟩))) {U : Nat -> Prop} (u1 : ∀ k, S k -> U k) (u2 : ∀ k, T k -> U k)
   {R : Ending -> World -> Prop} (hR : ∀ w', Sys w' (Nw U w) bd bs (dc.remove newN).2 st -> Kp U w w' -> R (.returned (.int .i64 r)) w') :
   LeavesInM Fence.wide 6 Tryz.prog fn tmps R [{ target := .collected m, args := #[] }, { target := .fn (.func 88) #[], args := #[.pointer (some ⟨bd, 0, none⟩), str newN] }] .returning W :=
 ⟨by simp, .inl ⟨m, _, rfl, run_takeDeferred hK, (h.mark _ hm hb).leave hok hf ht u1 u2 hR⟩⟩
theorem ProgAtB.cells {A : World} {S : Nat -> Prop} {bd bm : Nat} {d : Dk} (h : ProgAtB A S bd bm d) : ProgAtB A (fun i => S i /\ (i = bm \/ ∃ cs t z, A.heap[i]? = some (.cells cs t z))) bd bm d := by
 obtain ⟨ps, h1, h2⟩ := h
 refine ⟨ps, ⟨h1.blk, h1.map, h1.file, h1.apart, ⟨h1.sb, .inr ⟨_, _, _, h1.blk⟩⟩, ⟨h1.sm, .inl rfl⟩, fun x hx => ⟨⟨(h1.sf x hx).1, .inr ⟨_, _, _, (h1.file x hx).1⟩⟩, fun g hg => ⟨(h1.sf x hx).2 g hg, ?_⟩⟩⟩, h2⟩
 rcases ((h1.file x hx).2).2 with ⟨hv, _⟩ | ⟨g', cap, cur, hv, _, hgg, _⟩
 . rw [hv] at hg; simp [Value.ownBlock] at hg
 . rw [hv] at hg
   obtain rfl : g' = g := by simpa [Value.ownBlock] using hg
   exact .inr ⟨_, _, _, hgg⟩
end
end Go.Proofs.YtfghgmojnffgnaaGreat
