import Derived.Test.YtfghgmojnffgnaaGreatPkAZ
set_option maxHeartbeats 4000000
set_option maxRecDepth 20000
namespace Go.Proofs.YtfghgmojnffgnaaGreat.M
open Go.RowKit Go.Maps Go.Sort
theorem own_close {w w' : World} {own : Nat -> Nat} {bW N : Nat} {rs : List DR} {ts : List TX} {nxt : Nat} {vd vt vm : Value} {zz : PX} (h : Inv w own bW N rs ts nxt vd vt vm zz) {vl vt' vm' : Value} (hvl : ∀ g, vl.ownBlock = some g -> own g = 0)
   (kp : Kp (fun k => k = bW \/ vl.ownBlock = some k \/ vt.ownBlock = some k \/ vm.ownBlock = some k) w w')
   (hb : w'.heap[bW]? = some (.cells #[vd, zz.vp, .slice none 0 0, vt', zz.vq, .slice none 0 0, vm', .int .i64 (nxt + 1 : Nat)] 61))
   (us : List TX) (hus : ∀ u ∈ us, u.m = nxt + 1 /\ ∃ n, n <= 4194400 /\ AllP w' u.v n (textOf (nxt + 1)) /\ ∀ g, u.v.ownBlock = some g -> vl.ownBlock = some g \/ w.heap.size <= g)
   (ht : w'.ownsRow 0 106 1 vt' (ts.length + us.length) (ts.map (·.v) ++ us.map (·.v))) (hm : w'.ownsRow 0 3 1 vm' (ts.length + us.length) ((ts.map fun t => .int .i64 t.m) ++ us.map fun t => .int .i64 t.m))
   (ht' : ∀ g, vt'.ownBlock = some g -> vt.ownBlock = some g \/ w.heap.size <= g) (hm' : ∀ g, vm'.ownBlock = some g -> vm.ownBlock = some g \/ w.heap.size <= g) :
   Inv w' (ownT own w vl vt' vm') bW N rs (ts ++ us) (nxt + 1) vd vt' vm' zz := by
 have hold : ∀ k, k < w.heap.size -> own k ≠ 0 -> ownT own w vl vt' vm' k = own k := fun k hk h0 => by
   unfold ownT
   rw [if_pos hk, if_neg (fun e => h0 (hvl k e))]
 have hltW := lt_of_block h.blk
 have hnd : ∀ k, own k ≠ 0 -> own k ≠ 1 -> ¬ (k = bW \/ vl.ownBlock = some k \/ vt.ownBlock = some k \/ vm.ownBlock = some k) := fun k h0 h1 => by
   rintro (e | e | e | e)
   . subst e; exact h1 h.cW
   . exact h0 (hvl k e)
   . exact h1 (h.ct k e)
   . exact h1 (h.cm k e)
 refine ⟨hb, (hold _ hltW (by have := h.cW; omega)).trans h.cW, ?_, ?_, ?_, ?_, ?_, fun g hg => ?_, fun g hg => ?_, fun g hg => ?_, fun g hg => ?_, fun g hg => ?_, fun g hg hg' => ?_, fun t htm => ?_, fun t htm => ?_, fun i hi => ?_⟩
 . refine kp.row h.rowd (fun g hg => ?_)
   rintro (e | e | e | e)
   . exact row_ne h.blk h.rowd hg (by decide) e
   . have := h.cd g hg; have := hvl g e; omega
   . exact rows_ne h.rowd h.rowt hg e (by decide)
   . exact rows_ne h.rowd h.rowm hg e (by decide)
 . rw [List.length_append, List.map_append]; exact ht
 . rw [List.length_append, List.map_append]; exact hm
 . refine kp.row h.rowp (fun g hg => ?_)
   rintro (e | e | e | e)
   . exact row_ne h.blk h.rowp hg (by decide) e
   . have := h.cp g hg; have := hvl g e; omega
   . exact rows_ne h.rowp h.rowt hg e (by decide)
   . exact rows_ne h.rowp h.rowm hg e (by decide)
 . refine kp.row h.rowq (fun g hg => ?_)
   rintro (e | e | e | e)
   . exact row_ne h.blk h.rowq hg (by decide) e
   . have := h.cq g hg; have := hvl g e; omega
   . exact rows_ne h.rowq h.rowt hg e (by decide)
   . exact h.mq g e hg
 . have := h.cd g hg
   exact (hold g (h.rowd.lt g hg).2 (by omega)).trans this
 . rcases Nat.lt_or_ge g w.heap.size with hk | hk
   . rcases ht' g hg with e | e
     . have := h.ct g e; exact (hold g hk (by omega)).trans this
     . omega
   . unfold ownT; rw [if_neg (by omega), if_pos (.inl hg)]
 . rcases Nat.lt_or_ge g w.heap.size with hk | hk
   . rcases hm' g hg with e | e
     . have := h.cm g e; exact (hold g hk (by omega)).trans this
     . omega
   . unfold ownT; rw [if_neg (by omega), if_pos (.inr hg)]
 . have := h.cp g hg
   exact (hold g (h.rowp.lt g hg).2 (by omega)).trans this
 . have := h.cq g hg
   exact (hold g (h.rowq.lt g hg).2 (by omega)).trans this
 . rcases hm' g hg with e | e
   . exact h.mq g e hg'
   . have := (h.rowq.lt g hg').2; omega
 . rcases List.mem_append.1 htm with htm | htm
   . refine ⟨(h.text t htm).1.kept' kp (fun g hg hc => ⟨hnd g (by omega) (by omega), (hold g hg (by omega)).trans hc⟩), ?_⟩
     have := (h.text t htm).2; omega
   . obtain ⟨hmm, n, hn, hall, hfr⟩ := hus t htm
     refine ⟨?_, by omega⟩
     obtain ⟨a, cap, hv, hc⟩ := hall
     refine ⟨a, n, cap, hv, hn, fun i hi => ?_⟩
     obtain ⟨g, rfl, hg, cs, z, hbg⟩ := hc i hi
     refine ⟨g, rfl, ?_, by rw [hmm]; exact hg⟩
     have hob : t.v.ownBlock = some g := by rw [hv]; rfl
     show ownT own w vl vt' vm' g = 2
     rcases Nat.lt_or_ge g w.heap.size with hk | hk
     . rcases hfr g hob with e | e
       . unfold ownT; rw [if_pos hk, if_pos e]
       . omega
     . unfold ownT
       rw [if_neg (by omega), if_neg]
       rintro (e | e)
       . exact row_ne hbg ht e (by decide) rfl
       . exact row_ne hbg hm e (by decide) rfl
 . refine ⟨(h.pair t htm).1.kept' kp (fun g hg hc => ⟨hnd g (by omega) (by omega), (hold g hg (by omega)).trans hc⟩), ?_⟩
   have := (h.pair t htm).2; omega
 . exact (h.disk i hi).carry kp (fun k hk s => by
     have h0 : own k ≠ 0 /\ own k ≠ 1 := by rcases s with s | s | s <;> omega
     exact ⟨hnd k h0.1 h0.2, hold k hk h0.1⟩) (Nat.le_refl _)
theorem ownTexts_any {w : World} {own : Nat -> Nat} {bW N : Nat} {rs : List DR} {ts : List TX} {nxt : Nat} {vd vt vm : Value} {zz : PX} (h : Inv w own bW N rs ts nxt vd vt vm zz) (hts : ts.length <= 16777216) (hnx : nxt <= 1099511627770)
   (vl : Value) (L : List (List UInt8)) (hvl : ∀ g, vl.ownBlock = some g -> own g = 0) (hL : OwnS w 0 vl L) (hLl : L.length <= 4194310) :
   Calls Tryz.prog 60 #[ptrB bW, vl] w fun e w' => e = .returned (.tuple #[]) /\ Kp (fun k => own k = 1 \/ vl.ownBlock = some k) w w' /\ ∃ us vt' vm', us.length = 4 /\ Inv w' (ownT own w vl vt' vm') bW N rs (ts ++ us) (nxt + 1) vd vt' vm' zz := by
 obtain ⟨c0, c1, c2, c3, c4, c5, c6, c7, hz⟩ := cells8 h.blk
 have z3 := hz 3
 have z6 := hz 6
 have z7 := hz 7
 have hbl := lt_of_block h.blk
 obtain ⟨al, capl, rfl, hl1, hl2, hl3, hcl⟩ := row1 hL
 have htx := text_any (nxt + 1) (by omega)
 have HB : Hid (w.heap[bW]? = some (.cells #[vd, zz.vp, .slice none 0 0, vt, zz.vq, .slice none 0 0, vm, .int .i64 nxt] 61)) := h.blk
 obtain ⟨s0, sh, s1, s2, s3⟩ := info_parts Tryz.info9
 obtain ⟨ss0, ssh, ss1, ss2, ss3⟩ := info_parts Tryz.info106
 obtain ⟨i0, ih, i1, i2, i3⟩ := info_parts Tryz.info3
 generalize hp : textOf (nxt + 1) = p at *
 unfold ptrB
 clear hl2 hl1 hcl hz
 go_enter Tryz.func60, Tryz.ntmps60
 go_wp2_with (go_at_call 65; refine (htx _).mono ?_; rintro e w2 ⟨rfl, hb2⟩)
 have K2 : Kp (fun k => k = bW \/ (Value.slice al L.length capl).ownBlock = some k) w w2 := ((Kp.refl _ _).put (.inl rfl) _).trans (T := fun _ => False) (Kp.of_below hb2) (fun _ _ f => f.elim)
 have hne : ∀ g, (Value.slice al L.length capl).ownBlock = some g -> g ≠ bW := fun g hg => row_ne HB.out hL hg (by decide)
 have B2 : Hid (w2.heap[bW]? = some (.cells #[vd, zz.vp, .slice none 0 0, vt, zz.vq, .slice none 0 0, vm, .int .i64 ((nxt : Int) + 1)] 61)) := block_at2 ((block_set HB.out _).trans rfl) hb2
 have R2 : w2.ownsRow 0 9 1 (.slice al L.length capl) L.length (overS p L 0) := by
   have := ownsRow_of_block hL (w' := w2) (fun g hg => (hb2.block g (by simpa using (World.ownsRow.lt hL g hg).2)).trans (Below.heap_setCell _ _ _ _ (hne g hg)))
   simpa [overS] using this
 have HK2 : Hid (Kp (fun k => k = bW \/ (Value.slice al L.length capl).ownBlock = some k) w w2) := K2
 have tne : Hid (∀ g, vt.ownBlock = some g -> ¬ (g = bW \/ (Value.slice al L.length capl).ownBlock = some g)) := fun g hg => by
   rintro (e | e)
   . exact row_ne HB.out h.rowt hg (by decide) e
   . have := h.ct g hg; have := hvl g e; omega
 have mne : Hid (∀ g, vm.ownBlock = some g -> ¬ (g = bW \/ (Value.slice al L.length capl).ownBlock = some g)) := fun g hg => by
   rintro (e | e)
   . exact row_ne HB.out h.rowm hg (by decide) e
   . have := h.cm g hg; have := hvl g e; omega
 have T2 : Hid (w2.ownsRow 0 106 1 vt ts.length (ts.map (·.v))) := K2.row h.rowt tne.out
 have M2 : Hid (w2.ownsRow 0 3 1 vm ts.length (ts.map fun t => .int .i64 t.m)) := K2.row h.rowm mne.out
 have hne' : Hid (∀ g, (Value.slice al L.length capl).ownBlock = some g -> g ≠ bW) := hne
 clear K2 hb2 c0 c1 c2 c3 c4 c5 c6 c7 z3 z6 z7 hne htx
 go_loopw [6] (fun i wr => ∃ j : Nat, j <= L.length /\ i = .int .i64 j /\ Kp (fun k => (Value.slice al L.length capl).ownBlock = some k) w2 wr /\ wr.ownsRow 0 9 1 (.slice al L.length capl) L.length (overS p L j)) (fun i _ => L.length - (intOf i).toNat)
 case atStart => exact ⟨0, Nat.zero_le _, rfl, Kp.refl _ _, R2⟩
 case round =>
   obtain ⟨j, hj, rfl, kpr, R3⟩ := hrel
   by_cases hlt : j < L.length
   . obtain ⟨a', cap', e', _, _, _, hcr⟩ := row1 R3
     obtain ⟨g, rfl, _, hcell⟩ := hcr j (by rw [overS_len _ _ _ (by omega)]; exact hlt)
     obtain ⟨rfl, -⟩ : al = some ⟨g, 0, none⟩ /\ capl = cap' := by simpa using e'
     have hz := R3.frozenAt j
     have hst := (R3.stored j (encS p)).1
     rw [overS_succ p L j hlt] at hst
     have HST : Hid ((wr.setCell ⟨g, j, none⟩ (encS p)).ownsRow 0 9 1 (.slice (some ⟨g, 0, none⟩) L.length capl) L.length (overS p L (j + 1))) := hst
     clear hst R3 hcr e'
     go_wp2
     go_roundw
     case rel => exact ⟨j + 1, by omega, by go_num, kpr.put rfl _, HST.out⟩
     case measure => simp [intOf]; omega
   . have hje : j = L.length := by omega
     subst hje
     rw [overS_end] at R3
     have K3 : Hid (Kp (fun k => (Value.slice al L.length capl).ownBlock = some k) w2 wr) := kpr
     clear kpr R2
     go_wp2_with (first
       | (at_builtin; refine wpList_app2 _ rfl (.tmp 33) (.tmp 35) 106 rfl 9 s0 _ 1 16 Tryz.underlying106 sh s1 s2 s3 rfl (by decide) _ _ _ rfl (World.ownsRow.alloc R3 _) ⟨wr.heap.size, 0, none⟩ 1 1 [encS p] rfl rfl (one_at _ _ _) (by intro u hu; simp at hu; subst hu; rfl) (by unfold maxLen; omega) (by omega) ?_; intro v1 w4 A1; rw [rep_one] at A1; have sz4 := A1.kp.size; obtain ⟨a1, cap1, rfl, -, -, -, -⟩ := row1 A1.new; have HA1 : Hid (AppR (wr.alloc (.cells #[encS p] 9)) w4 9 1 (.slice al L.length capl) L.length (List.replicate L.length (encS p)) (.slice a1 (L.length + 1) cap1) (L.length + 1) (List.replicate (L.length + 1) (encS p))) := A1; have R4 := A1.old; clear A1)
       | (at_builtin; refine wpList_app2 _ rfl (.tmp 37) (.tmp 40) 106 rfl 9 s0 _ 1 16 Tryz.underlying106 sh s1 s2 s3 rfl (by decide) _ _ _ rfl (World.ownsRow.alloc R4 _) ⟨w4.heap.size, 0, none⟩ 2 2 [encS p, encS p] rfl rfl (two_at _ _ _ _) (by intro u hu; simp at hu; subst hu; rfl) (by unfold maxLen; omega) (by omega) ?_; intro v2 w5 A2; rw [rep_two] at A2; have sz5 := A2.kp.size; obtain ⟨a2, cap2, rfl, -, -, -, -⟩ := row1 A2.new; have HA2 : Hid (AppR (w4.alloc (.cells #[encS p, encS p] 9)) w5 9 1 (.slice al L.length capl) L.length (List.replicate L.length (encS p)) (.slice a2 (L.length + 2) cap2) (L.length + 2) (List.replicate (L.length + 2) (encS p))) := A2; have R5 := A2.old; clear A2)
       | (at_builtin; refine wpList_app2 _ rfl (.tmp 42) (.tmp 46) 106 rfl 9 s0 _ 1 16 Tryz.underlying106 sh s1 s2 s3 rfl (by decide) _ _ _ rfl (World.ownsRow.alloc R5 _) ⟨w5.heap.size, 0, none⟩ 3 3 [encS p, encS p, encS p] rfl rfl (three_at _ _ _ _ _) (by intro u hu; simp at hu; subst hu; rfl) (by unfold maxLen; omega) (by omega) ?_; intro v3 w6 A3; rw [rep_three] at A3; have sz6 := A3.kp.size; obtain ⟨a3, cap3, rfl, -, -, -, -⟩ := row1 A3.new; have HA3 : Hid (AppR (w5.alloc (.cells #[encS p, encS p, encS p] 9)) w6 9 1 (.slice al L.length capl) L.length (List.replicate L.length (encS p)) (.slice a3 (L.length + 3) cap3) (L.length + 3) (List.replicate (L.length + 3) (encS p))) := A3; clear A3; have K6 := ((((((K3.out.alloc (.cells #[encS p] 9)).trans HA1.out.kp (fun _ _ e => e)).alloc (.cells #[encS p, encS p] 9)).trans HA2.out.kp (fun _ _ e => e)).alloc (.cells #[encS p, encS p, encS p] 9)).trans HA3.out.kp (fun _ _ e => e)); have HK6 : Hid (Kp (fun k => (Value.slice al L.length capl).ownBlock = some k) w2 w6) := K6; have b6 := K6.at B2.out (fun e => hne'.out bW e rfl); have T6 := K6.row T2.out (fun g hg e => tne.out g hg (.inr e)); have M6 := K6.row M2.out (fun g hg e => mne.out g hg (.inr e)); clear K6; obtain ⟨y0, y1, y2, y3, y4, y5, y6, y7, zy⟩ := cells8 b6; have zz3 := zy 3; have zz6 := zy 6; clear zy; have HB6 : Hid (w6.heap[bW]? = some (.cells #[vd, zz.vp, .slice none 0 0, vt, zz.vq, .slice none 0 0, vm, .int .i64 ((nxt : Int) + 1)] 61)) := b6; clear b6)
       | (at_builtin; refine wpList_app2 _ rfl (.tmp 52) (.tmp 57) 58 rfl 106 ss0 _ 1 24 Tryz.underlying58 ssh ss1 ss2 ss3 rfl (by decide) _ _ _ rfl (World.ownsRow.alloc T6 _) ⟨w6.heap.size, 0, none⟩ 4 4 [.slice al L.length capl, .slice a1 (L.length + 1) cap1, .slice a2 (L.length + 2) cap2, .slice a3 (L.length + 3) cap3] rfl rfl (four_at _ _ _ _ _ _) (by intro u hu; simp at hu; rcases hu with rfl | rfl | rfl | rfl <;> rfl) (by unfold maxLen; omega) (by omega) ?_; intro v7 w7 A4; have sz7 := A4.kp.size; obtain ⟨a7, cap7, rfl, -, -, -, -⟩ := row1 A4.new; have HA4 : Hid (AppR (w6.alloc (.cells #[.slice al L.length capl, .slice a1 (L.length + 1) cap1, .slice a2 (L.length + 2) cap2, .slice a3 (L.length + 3) cap3] 106)) w7 106 1 vt ts.length (ts.map (·.v)) (.slice a7 (ts.length + 4) cap7) (ts.length + 4) (ts.map (·.v) ++ [.slice al L.length capl, .slice a1 (L.length + 1) cap1, .slice a2 (L.length + 2) cap2, .slice a3 (L.length + 3) cap3])) := A4; have kp7 := HA4.out.kp; have b7 := kp7.at (block_alloc HB6.out) (fun e => tne.out bW e (.inl rfl)); have HM7 : Hid (w7.ownsRow 0 3 1 vm ts.length (ts.map fun t => .int .i64 t.m)) := kp7.row (World.ownsRow.alloc M6 _) (fun g hg e => rows_ne T6 M6 e hg (by decide)); clear kp7; obtain ⟨x0, x1, x2, x3, x4, x5, x6, x7, zx⟩ := cells8 b7; have zx3 := zx 3; have zx6 := zx 6; clear zx A4; have HB7 : Hid (w7.heap[bW]? = some (.cells #[vd, zz.vp, .slice none 0 0, vt, zz.vq, .slice none 0 0, vm, .int .i64 ((nxt : Int) + 1)] 61)) := b7; clear b7 y0 y1 y2 y3 y4 y5 y6 y7 zz3 zz6 M6)
       | go_in)
     have p1 := (((allP_of HA1.out.new).new _).app HA2.out (by omega)).new _ |>.app HA3.out (by omega)
     have p2 := ((allP_of HA2.out.new).new _).app HA3.out (by omega)
     have p3 := allP_of HA3.out.new
     have p0 := allP_of HA3.out.old
     have hst6 : ∀ g cs z, (w6.alloc (.cells #[.slice al L.length capl, .slice a1 (L.length + 1) cap1, .slice a2 (L.length + 2) cap2, .slice a3 (L.length + 3) cap3] 106)).heap[g]? = some (.cells cs 9 z) -> ¬ vt.ownBlock = some g := fun g cs z hb e => row_ne hb (World.ownsRow.alloc T6 _) e (by decide) rfl
     have q0 := (p0.new _).ty HA4.out.kp hst6
     have q1 := (p1.new _).ty HA4.out.kp hst6
     have q2 := (p2.new _).ty HA4.out.kp hst6
     have q3 := (p3.new _).ty HA4.out.kp hst6
     have hst7 : ∀ g cs z, w7.heap[g]? = some (.cells cs 9 z) -> ¬ g = bW := fun g cs z hb e => cells_ne hb HB7.out (by decide) e
     have k78 := Kp.set1 w7 bW 3 (.slice a7 (ts.length + 4) cap7)
     have Q0 := q0.ty k78 hst7
     have Q1 := q1.ty k78 hst7
     have Q2 := q2.ty k78 hst7
     have Q3 := q3.ty k78 hst7
     have b8 := (block_set (j := 3) HB7.out (.slice a7 (ts.length + 4) cap7)).trans rfl
     have M8 := k78.row HM7.out (fun g hg e => row_ne HB7.out HM7.out hg (by decide) e)
     have T8 := k78.row HA4.out.new (fun g hg e => row_ne HB7.out HA4.out.new hg (by decide) e)
     have K8 : Kp (fun k => k = bW \/ (Value.slice al L.length capl).ownBlock = some k \/ vt.ownBlock = some k \/ vm.ownBlock = some k) w (w7.setCell ⟨bW, 3, none⟩ (.slice a7 (ts.length + 4) cap7)) :=
       (((((HK2.out.mono (fun k e => e.elim .inl (fun e => .inr (.inl e)))).trans HK6.out (fun _ _ e => .inr (.inl e))).alloc (.cells #[.slice al L.length capl, .slice a1 (L.length + 1) cap1, .slice a2 (L.length + 2) cap2, .slice a3 (L.length + 3) cap3] 106)).trans HA4.out.kp (fun _ _ e => .inr (.inr (.inl e))))).put (.inl rfl) _
     have hsz : w.heap.size <= w2.heap.size := HK2.out.size
     have hsz3 : w2.heap.size <= wr.heap.size := K3.out.size
     have F1 : ∀ g, (Value.slice a1 (L.length + 1) cap1).ownBlock = some g -> (Value.slice al L.length capl).ownBlock = some g \/ w.heap.size <= g := fun g hg => (HA1.out.fresh g hg).imp id (fun h => by simp at h; omega)
     have F2 : ∀ g, (Value.slice a2 (L.length + 2) cap2).ownBlock = some g -> (Value.slice al L.length capl).ownBlock = some g \/ w.heap.size <= g := fun g hg => (HA2.out.fresh g hg).imp id (fun h => by simp at h sz4; omega)
     have F3 : ∀ g, (Value.slice a3 (L.length + 3) cap3).ownBlock = some g -> (Value.slice al L.length capl).ownBlock = some g \/ w.heap.size <= g := fun g hg => (HA3.out.fresh g hg).imp id (fun h => by simp at h sz4 sz5; omega)
     have F7 : ∀ g, (Value.slice a7 (ts.length + 4) cap7).ownBlock = some g -> vt.ownBlock = some g \/ w.heap.size <= g := fun g hg => (HA4.out.fresh g hg).imp id (fun h => by simp at h sz4 sz5 sz6; omega)
     have HF : Hid ((∀ g, (Value.slice a1 (L.length + 1) cap1).ownBlock = some g -> (Value.slice al L.length capl).ownBlock = some g \/ w.heap.size <= g) /\ (∀ g, (Value.slice a2 (L.length + 2) cap2).ownBlock = some g -> (Value.slice al L.length capl).ownBlock = some g \/ w.heap.size <= g) /\ (∀ g, (Value.slice a3 (L.length + 3) cap3).ownBlock = some g -> (Value.slice al L.length capl).ownBlock = some g \/ w.heap.size <= g) /\ (∀ g, (Value.slice a7 (ts.length + 4) cap7).ownBlock = some g -> vt.ownBlock = some g \/ w.heap.size <= g)) := ⟨F1, F2, F3, F7⟩
     generalize w7.setCell ⟨bW, 3, none⟩ (.slice a7 (ts.length + 4) cap7) = w8 at Q0 Q1 Q2 Q3 b8 M8 T8 K8 ⊢
     have HQ : Hid (AllP w8 (.slice al L.length capl) L.length p /\ AllP w8 (.slice a1 (L.length + 1) cap1) (L.length + 1) p /\ AllP w8 (.slice a2 (L.length + 2) cap2) (L.length + 2) p /\ AllP w8 (.slice a3 (L.length + 3) cap3) (L.length + 3) p) := ⟨Q0, Q1, Q2, Q3⟩
     have HT8 : Hid (w8.ownsRow 0 106 1 (.slice a7 (ts.length + 4) cap7) (ts.length + 4) (ts.map (·.v) ++ [.slice al L.length capl, .slice a1 (L.length + 1) cap1, .slice a2 (L.length + 2) cap2, .slice a3 (L.length + 3) cap3])) := T8
     have HK8 : Hid (Kp (fun k => k = bW \/ (Value.slice al L.length capl).ownBlock = some k \/ vt.ownBlock = some k \/ vm.ownBlock = some k) w w8) := K8
     obtain ⟨y0, y1, y2, y3, y4, y5, y6, y7, zy⟩ := cells8 b8
     have zz6 := zy 6
     have HB8 : Hid (w8.heap[bW]? = some (.cells #[vd, zz.vp, .slice none 0 0, .slice a7 (ts.length + 4) cap7, zz.vq, .slice none 0 0, vm, .int .i64 ((nxt : Int) + 1)] 61)) := b8
     have hbl8 := lt_of_block b8
     clear p0 p1 p2 p3 q0 q1 q2 q3 hst6 hst7 k78 F1 F2 F3 F7 Q0 Q1 Q2 Q3 T8 K8 b8 zy x0 x1 x2 x3 x4 x5 x6 x7 zx3 zx6 R3 R4 R5 T6 HA1 HA2 HA3 HA4 HB6 HB7 HM7 K3 T2 M2 sz4 sz5 sz6 sz7
     go_region_law (refine step_app2 rfl (.tmp 66) (.tmp 71) 27 rfl 3 i0 _ 1 8 Tryz.underlying27 ih i1 i2 i3 rfl (by decide) _ _ _ rfl (by exact World.ownsRow.alloc M8 _) ⟨w8.heap.size, 0, none⟩ 4 4 [.int .i64 ((nxt : Int) + 1), .int .i64 ((nxt : Int) + 1), .int .i64 ((nxt : Int) + 1), .int .i64 ((nxt : Int) + 1)] rfl rfl (by exact four_at _ _ _ _ _ _) (by intro u hu; simp at hu; subst hu; rfl) (by unfold maxLen; omega) (by omega) ?_; intro v9 w9 A5; obtain ⟨a9, cap9, rfl, -, -, -, -⟩ := row1 A5.new; have kp9 : Kp (fun k => vm.ownBlock = some k) (w8.alloc (.cells #[.int .i64 ((nxt : Int) + 1), .int .i64 ((nxt : Int) + 1), .int .i64 ((nxt : Int) + 1), .int .i64 ((nxt : Int) + 1)] 3)) w9 := A5.kp.undrew; have b9 := kp9.at (block_alloc HB8.out) (fun e => mne.out bW e (.inl rfl)); obtain ⟨g0, g1, g2, g3, g4, g5, g6, g7, zg⟩ := cells8 b9; have zg6 := zg 6; clear zg)
     all_goals (try go_wp2)
     all_goals go_end0
     all_goals
       have hsv : ∀ g cs z, (w8.alloc (.cells #[.int .i64 ((nxt : Int) + 1), .int .i64 ((nxt : Int) + 1), .int .i64 ((nxt : Int) + 1), .int .i64 ((nxt : Int) + 1)] 3)).heap[g]? = some (.cells cs 9 z) -> ¬ vm.ownBlock = some g := fun g cs z hb e => row_ne hb (World.ownsRow.alloc M8 _) e (by decide) rfl
       have hsw : ∀ g cs z, w9.heap[g]? = some (.cells cs 9 z) -> ¬ g = bW := fun g cs z hb e => cells_ne hb b9 (by decide) e
       have k9 := Kp.set1 w9 bW 6 (.slice a9 (ts.length + 4) cap9)
       obtain ⟨Q0, Q1, Q2, Q3⟩ := HQ.out
       obtain ⟨F1, F2, F3, F7⟩ := HF.out
       have P0 := ((Q0.new _).ty kp9 hsv).ty k9 hsw
       have P1 := ((Q1.new _).ty kp9 hsv).ty k9 hsw
       have P2 := ((Q2.new _).ty kp9 hsv).ty k9 hsw
       have P3 := ((Q3.new _).ty kp9 hsv).ty k9 hsw
       have T10 := k9.row (kp9.row (World.ownsRow.alloc HT8.out _) (fun g hg e => rows_ne HT8.out M8 hg e (by decide))) (fun g hg e => row_ne HB8.out HT8.out hg (by decide) e)
       have M10 := k9.row A5.new (fun g hg e => row_ne b9 A5.new hg (by decide) e)
       have K10 : Kp (fun k => k = bW \/ (Value.slice al L.length capl).ownBlock = some k \/ vt.ownBlock = some k \/ vm.ownBlock = some k) w (w9.setCell ⟨bW, 6, none⟩ (.slice a9 (ts.length + 4) cap9)) := ((HK8.out.alloc (.cells #[.int .i64 ((nxt : Int) + 1), .int .i64 ((nxt : Int) + 1), .int .i64 ((nxt : Int) + 1), .int .i64 ((nxt : Int) + 1)] 3)).trans kp9 (fun _ _ e => .inr (.inr (.inr e)))).put (.inl rfl) _
       have hsz8 := HK8.out.size
       have B10 := (block_set (j := 6) b9 (.slice a9 (ts.length + 4) cap9)).trans rfl
       refine ⟨rfl, K10.mono (fun k e => ?_), [⟨.slice al L.length capl, nxt + 1⟩, ⟨.slice a1 (L.length + 1) cap1, nxt + 1⟩, ⟨.slice a2 (L.length + 2) cap2, nxt + 1⟩, ⟨.slice a3 (L.length + 3) cap3, nxt + 1⟩], _, _, rfl, own_close h hvl K10 B10 _ (fun u hu => ?_) T10 M10 F7 (fun g hg => (A5.fresh g hg).imp id (fun h => by simp at h; omega))⟩
       . rcases e with e | e | e | e
         . exact .inl (e ▸ h.cW)
         . exact .inr e
         . exact .inl (h.ct k e)
         . exact .inl (h.cm k e)
       . rw [hp]
         simp only [List.mem_cons, List.not_mem_nil, or_false] at hu
         rcases hu with rfl | rfl | rfl | rfl
         . exact ⟨rfl, _, by omega, P0, fun g hg => .inl hg⟩
         . exact ⟨rfl, _, by omega, P1, F1⟩
         . exact ⟨rfl, _, by omega, P2, F2⟩
         . exact ⟨rfl, _, by omega, P3, F3⟩
end Go.Proofs.YtfghgmojnffgnaaGreat.M
