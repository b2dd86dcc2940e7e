import Derived.Test.YtfghgmojnffgnaaGreatPkAD
set_option maxHeartbeats 4000000
set_option maxRecDepth 20000
namespace Go.Proofs.YtfghgmojnffgnaaGreat
open Go.RowKit Go.Maps
theorem getF_del {α : Type} (n : Nm) (fs : List (Nm × α)) : getF n (del n fs) = none :=
 getF_none (fun k hk e => by
   have hm := List.getElem_mem hk
   have := (List.mem_filter.1 hm).2
   simp [e] at this)
theorem ins_del {α : Type} {n : Nm} {f : α} : ∀ {fs : List (Nm × α)}, rising fs -> getF n fs = some f -> ins (n, f) (del n fs) = fs
 | [], _, h => by cases h
 | y :: r, hr, h => by
   have hc := List.pairwise_cons.1 hr
   rw [getF] at h
   split at h
   . rename_i e
     obtain ⟨a, x⟩ := y
     simp only at e
     subst e
     simp only [Option.some.injEq] at h
     subst h
     have h1 : del a ((a, x) :: r) = r := by
       have := del_erase hr (k := 0) (by simp)
       simpa using this
     rw [h1]
     cases r with
     | nil => rfl
     | cons z s =>
       rw [ins]
       rw [if_pos (hc.1 z (List.mem_cons_self ..))]
   . rename_i e
     have h1 : del n (y :: r) = y :: del n r := by simp [del, e]
     rw [h1, ins]
     have hny : ¬ bytesBefore n y.1 = true := fun hb => by
       have := hc.1 _ (getF_mem h)
       have h3 := before_trans hb this
       rw [WideAt.bytes_irrefl] at h3
       cases h3
     rw [if_neg hny, ins_del hc.2 h]
theorem dRename_any (b : Nat) (d : Dk) (n m : Nm) (S : Nat -> Prop) (w : World) (hP : ProgAt w S b d) (hok : d.Ok) (hl : d.files.length <= 4194302) (hn : n.length <= 1099511627776) (hm : m.length <= 1099511627776) :
   Calls Tryz.prog 86 #[.pointer (some ⟨b, 0, none⟩), .string ⟨n.toArray⟩, .string ⟨m.toArray⟩] w fun e w' => e = .returned (.int .i64 (d.rename n m).1) /\ ProgAt w' (Nw S w) b (d.rename n m).2 /\ Kp S w w' := by
 obtain ⟨bm, ps, hst, hfs⟩ := id hP
 have hgf := getF_fs n ps
 rw [hfs] at hgf
 have hdd := isDead_any hst.blk
 have hnm := isName_any ⟨m.toArray⟩ w (by show m.length <= _; unfold maxLen; omega)
 have hu1 := hok.used
 have hu2 := hok.quota
 have hnl : n.length <= maxLen := by unfold maxLen; omega
 have hml : m.length <= maxLen := by unfold maxLen; omega
 have hpl : ps.length <= 4194302 := by rw [<- fs_len, hfs]; exact hl
 cases hd : d.dead
 . rw [hd] at hst hdd
   by_cases hk : nameOk m = false
   . have HX : Hid (d.rename n m = (1, d)) := by simp [Hid, Dk.rename, hd, hk]
     clear hst hgf
     go_enter Tryz.func86, Tryz.ntmps86
     go_wp2_with (first
       | (go_at_call 71; refine hdd.mono ?_; rintro e w' ⟨rfl, rfl⟩)
       | (go_at_call 129; refine hnm.mono ?_; rintro e w' ⟨rfl, rfl⟩; simp only [hk]))
     go_ret
     rw [HX.out]
     exact ⟨rfl, hP.nw, Kp.refl _ _⟩
   . rw [Bool.not_eq_false] at hk
     cases hg : getF n ps with
     | none =>
       rw [hg] at hgf
       have HX : Hid (d.rename n m = (2, d)) := by simp [Hid, Dk.rename, hd, hk, hgf]
       have hfd := dfind_none hst n hnl hg
       clear hst hgf
       go_enter Tryz.func86, Tryz.ntmps86
       go_wp2_with (first
         | (go_at_call 71; refine hdd.mono ?_; rintro e w' ⟨rfl, rfl⟩)
         | (go_at_call 129; refine hnm.mono ?_; rintro e w' ⟨rfl, rfl⟩; simp only [hk])
         | (go_at_call 116; refine hfd.mono ?_; rintro e w' ⟨rfl, rfl⟩))
       go_ret
       rw [HX.out]
       exact ⟨rfl, hP.nw, Kp.refl _ _⟩
     | some p =>
       rw [hg] at hgf
       simp only [Option.map_some] at hgf
       have hfd := dfind_some hst n p hnl hg
       by_cases hz : d.left = 0
       . have hbl := blows_die hst.blk hz
         have HX : Hid (d.rename n m = (4, d.die)) := by simp [Hid, Dk.rename, hd, hk, hgf, hz]
         clear hgf
         go_enter Tryz.func86, Tryz.ntmps86
         go_wp2_with (first
           | (go_at_call 71; refine hdd.mono ?_; rintro e w' ⟨rfl, rfl⟩)
           | (go_at_call 129; refine hnm.mono ?_; rintro e w' ⟨rfl, rfl⟩; simp only [hk])
           | (go_at_call 116; refine hfd.mono ?_; rintro e w' ⟨rfl, rfl⟩)
           | (go_at_call 117; refine hbl.mono ?_; rintro e w1 ⟨rfl, kp, hb1⟩))
         go_ret
         rw [HX.out]
         exact ⟨rfl, ⟨bm, ps, (hst.fields kp hb1).mono (fun _ _ s => .inl s), hfs⟩, kp.b hst.sb⟩
       . have hbl := blows_go hst.blk hok.left0 hok.left1 hz
         have hri : rising ps := rising_ps (by rw [hfs]; exact hok.rise)
         have HX : Hid (d.rename n m = (0, ⟨d.quota, ins (m, p.fl) (del m (del n d.files)), max (d.left - 1) (-1), false, d.turn⟩)) := by
           have : moved n m p.fl d.files = ins (m, p.fl) (del m (del n d.files)) := by
             unfold moved
             split
             . rename_i e; subst e
               rw [del_none (getF_del n _), ins_del hok.rise hgf]
             . rfl
           simp [Hid, Dk.rename, hd, hk, hgf, hz, Dk.burn, this]
         obtain ⟨k, hk', hek⟩ := getF_pos hg
         have hud := used_del hok.rise hgf
         have hsp := hst.sf _ (getF_mem hg)
         have hap : ∀ x ∈ del n ps, Apart p x.2 := fun x hx => by
           obtain ⟨hx1, hx2⟩ := List.mem_filter.1 hx
           obtain ⟨j, hj, rfl⟩ := List.getElem_of_mem hx1
           have := apart_at hst.apart hk' hj (fun e => by subst e; simp [hek] at hx2)
           rwa [hek] at this
         have hdl : (del n ps).length <= 4194302 := Nat.le_trans (List.length_filter_le _ _) hpl
         have HG : Hid (getF n d.files = some p.fl) := hgf
         clear hgf
         cases hgm : getF m (del n ps) with
         | none =>
           go_enter Tryz.func86, Tryz.ntmps86
           go_wp2_with (first
             | (go_at_call 71; refine hdd.mono ?_; rintro e w' ⟨rfl, rfl⟩; clear hdd)
             | (go_at_call 129; refine hnm.mono ?_; rintro e w' ⟨rfl, rfl⟩; simp only [hk]; clear hnm)
             | (go_at_call 116; refine hfd.mono ?_; rintro e w' ⟨rfl, rfl⟩; clear hfd)
             | (go_at_call 117; refine hbl.mono ?_; rintro e w1 ⟨rfl, kp, hb1⟩; clear hbl; have hst1 := hst.fields kp hb1; obtain ⟨w2, hrun, hm2, kp2⟩ := dropK hst1.map n hnl 0; have hst2 := hst1.delF n kp2 hm2; have hlk := look hst2.map m hml; rw [hgm] at hlk; simp only [ptrOf] at hlk; have hf1 := hst1.file _ (getF_mem hg); have hf2 : FileAt w2 p := ⟨kp2.at hf1.1 (map_ne hst1.map hf1.1), kp2.row hf1.2 (fun g hg' => row_map hst1.map hf1.2 hg')⟩; obtain ⟨r0, r1, r2, r3, r8, r4, r5, r6, r7, r9⟩ := cells5 hst1.blk; obtain ⟨t0, t1, t2, t3, t8, t4, t5, t6, t7, t9⟩ := cells5 hst2.blk)
             | (go_at_call 130; refine (add_any hst2 m p hm (by omega) hgm hf2 hap hsp).mono ?_; rintro e w3 ⟨rfl, hst3, kp3⟩))
           go_ret
           rw [HX.out]
           have hui := used_ins (m, p.fl) (del n d.files)
           simp only at hui
           have hdn : del m (del n d.files) = del n d.files := del_none (by rw [<- hfs, <- fs_del, getF_fs, hgm]; rfl)
           rw [hdn]
           refine ⟨rfl, ⟨bm, _, ?_, by rw [fs_ins, fs_del, hfs]⟩, (((kp.b hst.sb).trans kp2 (fun i _ e => by subst e; exact hst.sm))).trans kp3 (fun i _ e => by subst e; exact hst.sm)⟩
           show PrSt _ _ _ _ _ ((d.quota : Int) - used (ins (m, p.fl) (del n d.files))) _ _ _
           rw [show (d.quota : Int) - used (ins (m, p.fl) (del n d.files)) = d.quota - used d.files by omega]
           exact hst3.mono (fun _ _ s => .inl s)
         | some q =>
           have hgq : getF m (del n d.files) = some q.fl := by rw [<- hfs, <- fs_del, getF_fs, hgm]; rfl
           have hudq := used_del (rising_del hok.rise) hgq
           have hql : q.fl.bytes.length <= 1048576 := by omega
           go_enter Tryz.func86, Tryz.ntmps86
           go_wp2_with (first
             | (go_at_call 71; refine hdd.mono ?_; rintro e w' ⟨rfl, rfl⟩; clear hdd)
             | (go_at_call 129; refine hnm.mono ?_; rintro e w' ⟨rfl, rfl⟩; simp only [hk]; clear hnm)
             | (go_at_call 116; refine hfd.mono ?_; rintro e w' ⟨rfl, rfl⟩; clear hfd)
             | (go_at_call 117; refine hbl.mono ?_; rintro e w1 ⟨rfl, kp, hb1⟩; clear hbl; have hst1 := hst.fields kp hb1; obtain ⟨w2, hrun, hm2, kp2⟩ := dropK hst1.map n hnl 0; have hst2 := hst1.delF n kp2 hm2; have hlk := look hst2.map m hml; rw [hgm] at hlk; simp only [ptrOf] at hlk; have hf1 := hst1.file _ (getF_mem hg); have hf2 : FileAt w2 p := ⟨kp2.at hf1.1 (map_ne hst1.map hf1.1), kp2.row hf1.2 (fun g hg' => row_map hst1.map hf1.2 hg')⟩; obtain ⟨r0, r1, r2, r3, r8, r4, r5, r6, r7, r9⟩ := cells5 hst1.blk; obtain ⟨t0, t1, t2, t3, t8, t4, t5, t6, t7, t9⟩ := cells5 hst2.blk)
             | (go_at_call 131; refine (drop_any hst2 m q hml (hst2.file _ (getF_mem hgm)) hql (by omega) (by omega)).mono ?_; rintro e w4 ⟨rfl, hst4, kp4⟩; have hf4 : FileAt w4 p := ⟨kp4.at hf2.1 (fun e => e.elim (fun e => cells_ne hf2.1 hst2.blk (by decide) e) (fun e => map_ne hst2.map hf2.1 e)), kp4.row hf2.2 (fun g hg' e => e.elim (fun e => row_ne hst2.blk hf2.2 hg' (by decide) e) (fun e => row_map hst2.map hf2.2 hg' e))⟩)
             | (go_at_call 130; refine (add_any hst4 m p hm (Nat.le_trans (List.length_filter_le _ _) (by omega)) (getF_del m _) hf4 (fun x hx => hap x (List.mem_filter.1 hx).1) hsp).mono ?_; rintro e w3 ⟨rfl, hst3, kp3⟩))
           go_ret
           rw [HX.out]
           have hui := used_ins (m, p.fl) (del m (del n d.files))
           simp only at hui
           refine ⟨rfl, ⟨bm, _, ?_, by rw [fs_ins, fs_del, fs_del, hfs]⟩, ((((kp.b hst.sb).trans kp2 (fun i _ e => by subst e; exact hst.sm))).trans kp4 (fun i _ s => s.elim (fun e => e ▸ hst.sb) (fun e => e ▸ hst.sm))).trans kp3 (fun i _ e => by subst e; exact hst.sm)⟩
           show PrSt _ _ _ _ _ ((d.quota : Int) - used (ins (m, p.fl) (del m (del n d.files)))) _ _ _
           rw [show (d.quota : Int) - used (ins (m, p.fl) (del m (del n d.files))) = d.quota - used d.files + q.fl.bytes.length by omega]
           exact hst3.mono (fun _ _ s => .inl s)
 . rw [hd] at hdd hst
   have HX : Hid (d.rename n m = (4, d)) := by simp [Hid, Dk.rename, hd]
   have hfd := dfind_dead hst n
   clear hst hgf
   go_enter Tryz.func86, Tryz.ntmps86
   go_wp2_with (first
     | (go_at_call 71; refine hdd.mono ?_; rintro e w' ⟨rfl, rfl⟩)
     | (go_at_call 116; refine hfd.mono ?_; rintro e w' ⟨rfl, rfl⟩))
   go_ret
   rw [HX.out]
   exact ⟨rfl, hP.nw, Kp.refl _ _⟩
end Go.Proofs.YtfghgmojnffgnaaGreat
namespace Go.Proofs.YtfghgmojnffgnaaGreat
open Go.RowKit Go.Maps Go.Sort
theorem before_le : ∀ {a b : List UInt8}, bytesBefore a b = true -> a <= b
 | [], _, _ => by exact List.nil_le _
 | x :: r, [], h => by cases h
 | x :: r, y :: s, h => by
   simp only [bytesBefore, Bool.or_eq_true, Bool.and_eq_true, decide_eq_true_eq, beq_iff_eq] at h
   rw [List.cons_le_cons_iff]
   rcases h with h | ⟨rfl, h⟩
   . exact .inl h
   . exact .inr ⟨rfl, before_le h⟩
theorem keys_dat (ps : PL) : strKeys (datOf ps) = nmsOf ps := by
 show (ps.map ent).map (fun p => strOf p.1) = ps.map (·.1)
 rw [List.map_map]
 rfl
theorem sorted_names {ps : PL} (h : rising ps) {ss : List (List UInt8)} (hp : ss.Perm (nmsOf ps)) : ss.mergeSort (fun x y => decide (x <= y)) = nmsOf ps := by
 rw [mergeSort_of_perm hp]
 apply List.mergeSort_of_pairwise
 unfold nmsOf
 rw [List.pairwise_map]
 exact h.imp (fun hab => by simpa using before_le hab)
theorem order_any {w : World} {S : Nat -> Prop} {bd bm : Nat} {ps : PL} {room fuse : Int} {dead : Bool} {turn : Int} (h : PrSt w S bd bm ps room fuse dead turn) (hr : rising ps) (hl : ps.length <= 4194304) :
   Calls Tryz.prog 72 #[.pointer (some ⟨bd, 0, none⟩)] w fun e w' => ∃ v, e = .returned v /\ Below w.heap.size w w' /\ OwnS w' w.heap.size v (nmsOf ps) := by
 have hsz : Maps.size (datOf ps) = ps.length := by simp [datOf, Maps.size]
 have hS := sorted_any bm ps.length (datOf ps) Rf w h.map (by rw [hsz]; unfold maxLen; omega) (by rw [hsz]; omega)
 obtain ⟨c0, c1, c2, c3, c8, f0, f1, f2, f3, f9⟩ := cells5 h.blk
 refine (callsIn_wide (n := 6)).1 ?_
 have hfK : Fence.wide.fn 119 := trivial
 have hfS : Fence.wide.fn 118 := trivial
 refine callsIn_of_wp Tryz.func72 rfl trivial ?_ rfl
 simp only [Tryz.ntmps72, List.size_toArray, List.length_cons, List.length_nil, Nat.reduceAdd, Nat.reduceSub, Array.replicate_succ, Array.replicate_zero, List.push_toArray, List.append_toArray, List.nil_append, List.cons_append]
 gi_wp2_with (first
   | (gi_at_call 119; refine (keys_any _ _).mono ?_; rintro e w' ⟨rfl, rfl⟩)
   | (gi_at_call 118; refine hS.mono ?_; rintro e w' ⟨v, ss, rfl, hP, hrow, hnil, hb⟩))
 go_ret
 refine ⟨v, rfl, ((Below.refl _ w).alloc (Nat.le_refl _) _).trans (hb.mono (by simp)), ?_⟩
 rw [keys_dat] at hP
 rw [sorted_names hr hP, hP.length_eq] at hrow
 exact ownsRow_base hrow (by simp)
theorem ownS_shape {w : World} {base : Nat} {v : Value} {l : List (List UInt8)} (h : OwnS w base v l) : ∃ a cap, v = .slice a l.length cap /\ ∀ i (_ : i < l.length), ∃ g, a = some ⟨g, 0, none⟩ /\ base <= g /\ w.cell? ⟨g, i, none⟩ = some (encS l[i]) := by
 rcases h.2 with ⟨hv, hn⟩ | ⟨g, cap, cur, hv, hb, _⟩
 . exact ⟨none, 0, by rw [hv, hn], fun i hi => by omega⟩
 . subst hv
   refine ⟨_, cap, rfl, fun i hi => ⟨g, rfl, hb, ?_⟩⟩
   rw [World.ownsRow.cellAt (size := 1) h i (by omega)]
   simp [hi]
theorem ownsRow_up {w : World} {base base' : Nat} {e : TypeId} {size : Nat} {v : Value} {n : Nat} {xs : List Value} (h : w.ownsRow base e size v n xs) (hb : ∀ g, v.ownBlock = some g -> base' <= g) : w.ownsRow base' e size v n xs := by
 refine ⟨h.1, ?_⟩
 rcases h.2 with hn | ⟨g, cap, cur, rfl, hbase, rest⟩
 . exact .inl hn
 . exact .inr ⟨g, cap, cur, rfl, hb g rfl, rest⟩
theorem dNames_dead (b : Nat) (d : Dk) (S : Nat -> Prop) (w : World) (hP : ProgAt w S b d) (hd : d.dead = true) :
   Calls Tryz.prog 91 #[.pointer (some ⟨b, 0, none⟩)] w fun e w' => e = .returned (.tuple #[.slice none 0 0, .int .i64 4]) /\ w' = w := by
 obtain ⟨bm, ps, hst, hfs⟩ := id hP
 rw [hd] at hst
 have hdd := isDead_any hst.blk
 clear hst
 go_enter Tryz.func91, Tryz.ntmps91
 go_wp2_with (go_at_call 71; refine hdd.mono ?_; rintro e w' ⟨rfl, rfl⟩)
 go_ret2
 exact ⟨rfl, rfl⟩
theorem dNames_any (b : Nat) (d : Dk) (S : Nat -> Prop) (w : World) (hP : ProgAt w S b d) (hok : d.Ok) (hl : d.files.length <= 4194303) (hd : d.dead = false) :
   Calls Tryz.prog 91 #[.pointer (some ⟨b, 0, none⟩)] w fun e w' => ∃ v, e = .returned (.tuple #[v, .int .i64 0]) /\ Below w.heap.size w w' /\ OwnS w' w.heap.size v (nmsOf d.files) := by
 obtain ⟨bm, ps, hst, hfs⟩ := id hP
 rw [hd] at hst
 have hdd := isDead_any hst.blk
 have hri : rising ps := rising_ps (by rw [hfs]; exact hok.rise)
 have hpl : ps.length <= 4194303 := by rw [<- fs_len, hfs]; exact hl
 have hsz : Maps.size (datOf ps) = ps.length := by simp [datOf, Maps.size]
 have hln := hst.map.len Tryz.underlying127 3
 rw [hsz] at hln
 have HN : Hid (nmsOf d.files = nmsOf ps) := by rw [<- hfs]; simp [nmsOf, fsOf, Hid]
 have hnl : ∀ x ∈ nmsOf ps, x.length <= 20 := fun x hx => by
   rw [<- HN.out] at hx
   obtain ⟨y, hy, rfl⟩ := List.mem_map.1 hx
   exact hok.name y hy
 have hnlen : (nmsOf ps).length = ps.length := by simp [nmsOf]
 obtain ⟨i0, hi, hz0, hz1, hz2⟩ := info_parts Tryz.info9
 obtain ⟨c0, c1, c2, c3, c8, f0, f1, f2, f3, f9⟩ := cells5 hst.blk
 obtain ⟨wA, hmk, hownA, hgrA⟩ := run_make_own (P := Tryz.prog) w w.heap.size 106 9 i0 _ 1 Tryz.underlying106 hi hz0 hz1 .i64 .i64 ps.length (by rw [hz2]; omega) (by unfold maxLen; omega) (Nat.le_refl _)
 have hblA : Below w.heap.size w wA := (Below.refl _ _).grown hgrA (Nat.le_refl _) (fun k hk => by cases hk)
 have hstA := hst.below hblA
 have hord := order_any hstA hri (by omega)
 have HNL : Hid (∀ x ∈ nmsOf ps, x.length <= 20) := hnl
 have hszA := hblA.size
 clear hnl hP hst hfs hsz hgrA
 generalize nmsOf ps = N at *
 have HLN : Hid (N.length <= 4194303) := by rw [hnlen]; exact hpl
 rw [<- hnlen] at hmk hln hownA
 rw [HN.out]
 clear HN hnlen
 go_enter Tryz.func91, Tryz.ntmps91
 go_wp2_with (first
   | (go_at_call 71; refine hdd.mono ?_; rintro e w' ⟨rfl, rfl⟩; clear hdd)
   | (go_at_call 72; refine hord.mono ?_; rintro e wB ⟨vo, rfl, hblB, hoB⟩; clear hord; obtain ⟨ao, co, rfl, hoc⟩ := ownS_shape hoB))
 have hNl : N.length <= 4194303 := HLN.out
 have hB0 : Below w'.heap.size w' wB := hblA.trans (hblB.mono hszA)
 have hlo : ∀ g, (Value.slice ao N.length co).ownBlock = some g -> wA.heap.size <= g := fun g hg => (World.ownsRow.lt hoB g hg).1
 have hA1 : w'.heap.size < wA.heap.size := (World.ownsRow.lt hownA w'.heap.size rfl).2
 go_loopw [4, 18] (fun v i wr => ∃ j : Nat, j <= N.length /\ i = .int .i64 j /\ Below w'.heap.size w' wr /\ OwnS wr 0 v (N.take j) /\ (∀ g, v.ownBlock = some g -> w'.heap.size <= g /\ (Value.slice ao N.length co).ownBlock ≠ some g) /\ OwnS wr 0 (.slice ao N.length co) N) (fun _ i _ => N.length - (intOf i).toNat)
 case atStart =>
   refine ⟨0, Nat.zero_le _, rfl, hB0, ?_, fun g hg => ?_, ownsRow_base hoB (Nat.zero_le _)⟩
   . exact ownsRow_base (ownsRow_of_block hownA (fun g hg => hblB.block g (World.ownsRow.lt hownA g hg).2)) (Nat.zero_le _)
   . simp only [Value.ownBlock, Option.some.injEq] at hg
     subst hg
     exact ⟨Nat.le_refl _, fun e => by have := hlo _ e; omega⟩
 case round =>
   obtain ⟨j, hj, rfl, hbl, hown, hdis, hor⟩ := hrel
   have hsz := hbl.size
   by_cases hlt : j < N.length
   . obtain ⟨a2, c2, e2, hoc2⟩ := ownS_shape hor
     obtain ⟨g, rfl, _, hcell⟩ := hoc2 j hlt
     obtain ⟨rfl, -, rfl⟩ : ao = some ⟨g, 0, none⟩ /\ True /\ co = c2 := by simpa using e2
     unfold encS at hcell
     have hnj : N[j].length <= 20 := HNL.out _ (List.getElem_mem hlt)
     have HT : Hid (N.take (j + 1) = N.take j ++ [N[j]]) := List.take_succ_eq_append_getElem hlt
     have htl : (N.take j).length <= 4194303 := by simp; omega
     generalize hT : N.take j = T at *
     clear hT hoc e2 hoc2
     go_wp2_with (first
       | (go_at_call 76; refine (sClone_any ⟨N[j].toArray⟩ wr (by show N[j].length <= _; omega)).mono ?_; rintro e w1 ⟨rfl, hb1⟩; have hown1 := ownsRow_of_block hown (fun q hq => hb1.block q (World.ownsRow.lt hown q hq).2))
       | (at_builtin; refine wpList_app _ rfl (.tmp 22) (.tmp 25) 106 rfl 9 i0 _ 1 16 Tryz.underlying106 hi hz0 hz1 hz2 rfl (by decide) _ _ _ rfl (World.ownsRow.alloc hown1 _) ⟨w1.heap.size, 0, none⟩ 1 1 [encS N[j]] rfl rfl (one_at _ _ _) (by intro u hu; simp at hu; subst hu; rfl) (by unfold maxLen; omega) (by omega) ?_; intro v' w2 hown2 hgrow hfr)
       | go_in)
     have hs1 := hb1.size
     have hB2 : Below w'.heap.size w' w2 := ((hbl.trans (hb1.mono hsz)).alloc (by omega) _).grown hgrow (by simp; omega) (fun q hq => (hdis q hq).1)
     have HB : Hid (Below w'.heap.size w' w2) := hB2
     have HO : Hid (OwnS w2 0 v' (T ++ [N[j]])) := own_snoc1 hown2
     have HR : Hid (OwnS w2 0 (.slice (some ⟨g, 0, none⟩) N.length co) N) := ownsRow_of_block hor (fun q hq => by
       have hq1 := (World.ownsRow.lt hor q hq).2
       have hq2 : (w1.alloc (.cells #[encS N[j]] 9)).heap[q]? = wr.heap[q]? := (Below.heap_alloc _ _ _ (by omega)).trans (hb1.block q hq1)
       exact (hgrow.block q (by simp; omega) (fun e => (hdis q e.symm).2 hq)).trans hq2)
     have HD : Hid (∀ q, v'.ownBlock = some q -> w'.heap.size <= q /\ (Value.slice (some ⟨g, 0, none⟩) N.length co).ownBlock ≠ some q) := fun q hq => by
       rcases hfr q hq with h | h
       . exact hdis q h
       . refine ⟨by simp at h; omega, fun e => ?_⟩
         have := (World.ownsRow.lt hor q e).2
         simp at h; omega
     clear hown2 hgrow hfr hown hown1 hdis hor hcell hB2
     go_wp2
     go_roundw
     case rel => exact ⟨j + 1, by omega, by go_num, HB.out, by rw [HT.out]; exact HO.out, HD.out, HR.out⟩
     case measure => simp [intOf]; omega
   . have : j = N.length := by omega
     subst this
     rw [List.take_length] at hown
     clear hoc
     go_wp2
     go_ret2
     refine ⟨_, rfl, hbl, ?_⟩
     exact ownsRow_up hown (fun g hg => (hdis g hg).1)
theorem kept_eq (k : Int) (f : Fl) : kept k f = ⟨f.bytes.take (keptN k f), keptN k f⟩ := rfl
theorem Kp.undrew {S : Nat -> Prop} {a w : World} (h : Kp S a.drew w) : Kp S a w := ⟨h.os, h.tape, h.output, h.size, h.block⟩
theorem safe_close {w : World} {S : Nat -> Prop} {b bm : Nat} {ps : PL} {room fuse : Int} {dead : Bool} {turn : Int} {k : Nat} {n : Nm} {p : PF} {m : Nat} (hst : PrSt w S b bm ps room fuse dead turn) (hk : k < ps.length) (hek : ps[k] = (n, p)) :
   PrSt (w.setCell ⟨p.bf, 1, none⟩ (.int .i64 m)) S b bm (ps.set k (n, ⟨⟨p.fl.bytes, m⟩, p.bf, p.sv⟩)) room fuse dead turn /\ Kp S w (w.setCell ⟨p.bf, 1, none⟩ (.int .i64 m)) := by
 have hfl := hst.file _ (List.getElem_mem hk)
 have hsf := hst.sf _ (List.getElem_mem hk)
 rw [hek] at hfl hsf
 simp only at hfl hsf
 have hne : ∀ g, p.sv.ownBlock = some g -> g ≠ p.bf := fun g hg => row_ne hfl.1 hfl.2 hg (by decide)
 have h2 := hst.setF k hk ⟨⟨p.fl.bytes, m⟩, p.bf, p.sv⟩ (by rw [hek]) (w' := w.setCell ⟨p.bf, 1, none⟩ (.int .i64 m)) ((Kp.set1 _ _ _ _).mono (fun i hi => .inl (by rw [hek]; exact hi))) ⟨(block_set hfl.1 _).trans rfl, ownsRow_of_block hfl.2 (fun g hg => Below.heap_setCell _ _ _ _ (hne g hg))⟩ (fun g hg => .inl (by rw [hek]; exact hg))
 rw [hek] at h2
 refine ⟨h2.mono (fun i hi s => s.elim (fun s => s) (fun h => absurd hi (by simp; omega))), (Kp.set1 _ _ _ _).b hsf.1⟩
theorem bytes_close {w w1 : World} {S : Nat -> Prop} {b bm : Nat} {ps : PL} {room fuse : Int} {dead : Bool} {turn : Int} {k : Nat} {n : Nm} {p : PF} {l : List UInt8} {v' : Value} (hst : PrSt w S b bm ps room fuse dead turn) (hk : k < ps.length) (hek : ps[k] = (n, p)) (hb1 : Below w.heap.size w w1) (hob : OwnB w1 w.heap.size v' l) :
   PrSt (w1.setCell ⟨p.bf, 0, none⟩ v') (Nw S w) b bm (ps.set k (n, ⟨⟨l, p.fl.safe⟩, p.bf, v'⟩)) room fuse dead turn /\ Kp S w (w1.setCell ⟨p.bf, 0, none⟩ v') := by
 have hfl := hst.file _ (List.getElem_mem hk)
 have hsf := hst.sf _ (List.getElem_mem hk)
 rw [hek] at hfl hsf
 simp only at hfl hsf
 have hf1 := block_at2 hfl.1 hb1
 have kp : Kp (fun i => i = p.bf) w (w1.setCell ⟨p.bf, 0, none⟩ v') := (Kp.of_below (S := fun i => i = p.bf) hb1).put rfl _
 have h2 := hst.setF k hk ⟨⟨l, p.fl.safe⟩, p.bf, v'⟩ (by rw [hek]) (w' := w1.setCell ⟨p.bf, 0, none⟩ v') (kp.mono (fun i hi => .inl (by rw [hek]; exact hi))) ⟨(block_set hf1 _).trans rfl, ownsRow_base (ownsRow_of_block hob (fun g hg => Below.heap_setCell _ _ _ _ (row_ne hf1 hob hg (by decide)))) (Nat.zero_le _)⟩ (fun g hg => .inr (World.ownsRow.lt hob g hg).1)
 rw [hek] at h2
 exact ⟨h2, kp.b hsf.1⟩
theorem dcrash_any {w : World} {S : Nat -> Prop} {b bm : Nat} {ps : PL} {room fuse : Int} {dead : Bool} {turn : Int} {k : Nat} {n : Nm} {p : PF} (hst : PrSt w S b bm ps room fuse dead turn) (hk : k < ps.length) (hek : ps[k] = (n, p)) (keep : Int)
   (hs : p.fl.safe <= p.fl.bytes.length) (hl : p.fl.bytes.length <= 1048576) (h0 : -1048576 <= room) (h1 : room <= 1048576) :
   Calls Tryz.prog 73 #[.pointer (some ⟨b, 0, none⟩), .pointer (some ⟨p.bf, 0, none⟩), .int .i64 keep] w fun e w' => e = .returned (.tuple #[]) /\ (∃ p', p'.fl = kept keep p.fl /\ p'.bf = p.bf /\ PrSt w' (Nw S w) b bm (ps.set k (n, p')) (room + p.fl.bytes.length - keptN keep p.fl) fuse dead turn) /\ Kp S w w' := by
 have hfl := hst.file _ (List.getElem_mem hk)
 rw [hek] at hfl
 simp only at hfl
 obtain ⟨a, cap, hsv⟩ := ownB_shape hfl.2
 obtain ⟨g0, g1, z0, z1⟩ := cells2 hfl.1
 rw [hsv] at g0
 obtain ⟨r0, r1, r2, r3, r8, r4, r5, r6, r7, r9⟩ := cells5 hst.blk
 have hbne : b ≠ p.bf := cells_ne hst.blk hfl.1 (by decide)
 have hm : keptN keep p.fl <= p.fl.bytes.length := by unfold keptN; omega
 have hmi : (p.fl.safe : Int) + min (max keep 0) ((p.fl.bytes.length : Int) - (p.fl.safe : Int)) = (keptN keep p.fl : Nat) := by unfold keptN; omega
 generalize hM : keptN keep p.fl = M at *
 by_cases hlost : M < p.fl.bytes.length
 . obtain ⟨g, rfl⟩ : ∃ g, a = some ⟨g, 0, none⟩ := by
     rcases hfl.2.2 with ⟨hv, hn⟩ | ⟨g, cap', cur, hv, _⟩
     . omega
     . rw [hsv] at hv; exact ⟨g, by simpa using (Value.slice.inj hv).1⟩
   have hcell := ownB_cells (hsv ▸ hfl.2)
   have hcl := fun m => bClone_any g M cap p.fl.bytes (w.drewN m) hm hl hcell
   have HC : Hid (∀ i (hi : i < p.fl.bytes.length), w.cell? ⟨g, i, none⟩ = some (encB p.fl.bytes[i])) := hcell
   clear hcell
   have hcap : M <= cap := by
     rcases hfl.2.2 with ⟨hv, hn⟩ | ⟨g', cap', cur, hv, _, _, hc, _⟩
     . omega
     . rw [hsv] at hv; have := (Value.slice.inj hv).2.2; omega
   have hcap2 : p.fl.bytes.length <= cap /\ cap <= maxLen := by
     rcases hfl.2.2 with ⟨hv, hn⟩ | ⟨g', cap', cur, hv, _, _, hc, hc2, _⟩
     . omega
     . rw [hsv] at hv; have := (Value.slice.inj hv).2.2; omega
   obtain ⟨hcap3, hcap4⟩ := hcap2
   unfold maxLen at hcap4
   go_enter Tryz.func73, Tryz.ntmps73
   go_wp2
   go_region
   clear hmi
   go_wp2_with (go_at_call 120; refine (hcl 1).mono ?_; rintro e w1 ⟨v1, rfl, hb1, hob⟩; obtain ⟨a', cap', hsv'⟩ := ownB_shape hob; subst hsv'; have hst1 := hst.drew.below hb1; have hf1 := block_at2 (w1 := w.drew) hfl.1 hb1; obtain ⟨y0, y1, x0, x1⟩ := cells2 hf1; obtain ⟨s0, s1, s2, s3, s8, s4, s5, s6, s7, s9⟩ := cells5 hst1.blk)
   go_end0
   have htl : (p.fl.bytes.take M).length = M := by simp; omega
   rw [htl] at hob
   have hA := bytes_close hst.drew hk hek hb1 hob
   have hB := hA.1.fields (Kp.set1 _ b 1 (.int .i64 (room + ((p.fl.bytes.length : Int) - M)))) ((block_set hA.1.blk _).trans rfl)
   have hC := safe_close (k := k) (n := n) (p := ⟨⟨p.fl.bytes.take M, p.fl.safe⟩, p.bf, .slice a' M cap'⟩) (m := M) hB (by simpa using hk) (by simp)
   rw [List.set_set] at hC
   refine ⟨rfl, ⟨⟨⟨p.fl.bytes.take M, M⟩, p.bf, .slice a' M cap'⟩, by rw [kept_eq, hM], rfl, ?_⟩, ?_⟩
   . rw [show room + (p.fl.bytes.length : Int) - (M : Int) = room + ((p.fl.bytes.length : Int) - M) by omega]
     exact hC.1
   . exact kpNw (((hA.2.mono (fun _ s => (.inl s : Nw S w _))).put (o := 1) (.inl hst.sb) (.int .i64 (room + ((p.fl.bytes.length : Int) - M)))).trans hC.2 (fun _ _ s => s)).undrew
 . have HM : Hid (M = p.fl.bytes.length) := by show M = _; omega
   go_enter Tryz.func73, Tryz.ntmps73
   go_wp2
   go_region
   clear hmi
   go_wp2
   go_end0
   have hC := safe_close (m := M) hst hk hek
   refine ⟨rfl, ⟨⟨⟨p.fl.bytes, M⟩, p.bf, p.sv⟩, by rw [kept_eq, hM, HM.out, List.take_length], rfl, ?_⟩, hC.2.drew⟩
   rw [show room + (p.fl.bytes.length : Int) - (M : Int) = room by have := HM.out; omega]
   exact hC.1.drew.mono (fun _ _ s => Or.inl s)
end Go.Proofs.YtfghgmojnffgnaaGreat
