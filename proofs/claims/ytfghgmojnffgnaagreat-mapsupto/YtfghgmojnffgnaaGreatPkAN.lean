import Derived.Test.YtfghgmojnffgnaaGreatPkAM
set_option maxHeartbeats 4000000
set_option maxRecDepth 20000
namespace Go.Proofs.YtfghgmojnffgnaaGreat
open Go.RowKit Go.Maps Go.Sort Go.Shelf
attribute [local go_sem] Oper.semAt_some
def rewT (bs bd bm ws w3s : Nat) (e0 : Int) (q3 : Option Addr) (n3 c3 g off : Nat) {n : Nat} (x : CX n) : Array Value :=
 #[.pointer (some ⟨bs, 0, none⟩), .pointer (some ⟨ws, 0, none⟩), .pointer (some ⟨ws + 1, 0, none⟩), .int .i64 0, .slice (some ⟨g, off + x.1.1 * 3, none⟩) x.1.2 x.1.2, undef, undef,
   .pointer (some ⟨bs, 0, none⟩), .pointer (some ⟨bs, 0, none⟩), .pointer (some ⟨bs, 0, none⟩), .pointer (some ⟨bd, 0, none⟩), .int .i64 e0, .pointer (some ⟨bs, 0, none⟩), .pointer (some ⟨bs, 0, none⟩), .pointer (some ⟨bs, 0, none⟩),
   .pointer (some ⟨bd, 0, none⟩), .pointer (some ⟨bs, 0, none⟩), .pointer (some ⟨bs, 0, none⟩), .pointer (some ⟨bs, 0, none⟩), .pointer (some ⟨bd, 0, none⟩), .int .i64 0, .int .i64 0, .bool false, undef, .pointer (some ⟨bs, 0, none⟩), .pointer (some ⟨bs, 0, none⟩), .pointer (some ⟨bs, 2, none⟩),
   .map (some bm), .slice q3 n3 c3, .func (.func 183) #[] #[.pointer (some ⟨w3s, 0, none⟩), .pointer (some ⟨w3s + 1, 0, none⟩)], .slice (some ⟨g, off + x.1.1 * 3, none⟩) x.1.2 x.1.2,
   undef, undef, undef, undef, undef, undef, undef, undef, undef, undef, undef, undef, undef, undef, undef, undef, undef, undef, undef, undef, undef, undef, undef]
theorem rewrite_any (bd bs : Nat) (d : Dk) (st : St) (U : Nat -> Prop) (w : World) (hS : Sys w U bd bs d st) (hok : d.Ok) (hfl : d.files.length <= 3000000) (hm : MOk st.m) (hml : st.m.length <= 1000000) :
   Calls Tryz.prog 127 #[.pointer (some ⟨bs, 0, none⟩)] w fun e w' => e = .returned (.int .i64 (rewriteX d st.m).1) /\ Sys w' (Nw U w) bd bs (rewriteX d st.m).2 st /\ Kp U w w' := by
 obtain ⟨S, T, bm, u1, u2, hA, hP, hT⟩ : ∃ (S T : Nat -> Prop) (bm : Nat), (∀ k, S k -> U k) /\ (∀ k, T k -> U k) /\ Ap w S T /\ ProgAt w S bd d /\ StAt w T bs bd bm st := by
   obtain ⟨S0, T0, bm, u1, u2, u3, hP0, hT0⟩ := hS.ex
   exact ⟨fun k => S0 k /\ k < w.heap.size, fun k => T0 k /\ k < w.heap.size, bm, fun k s => u1 k s.1, fun k s => u2 k s.1, ⟨fun k s => s.2, fun k s => s.2, fun k s t => u3 k s.1 t.1⟩, hP0.mono (fun k hk s => ⟨s, hk⟩), hT0.mono (fun k hk s => ⟨s, hk⟩)⟩
 clear hS
 have hbs := lt_of_block hT.blk
 have h0 := rw_begin hP hT hA
 have f1 : Fence.wide.fn 88 := trivial
 have f2 : Fence.wide.fn 80 := trivial
 have f3 : Fence.wide.fn 170 := trivial
 have f4 : Fence.wide.fn 169 := trivial
 have f5 : Fence.wide.fn 70 := trivial
 have f6 : Fence.wide.fn 86 := trivial
 have hRm := (callsIn_wide (n := 5)).2 (dRemove_any bd d newN S (wA w bs) h0.prog hok (by decide))
 obtain ⟨hok1, hl1⟩ := remove_ok hok newN
 have HX : Hid (rewriteX d st.m = ((begW (d.remove newN).2 (chunksOf (opsOf st.m))).1, ((begW (d.remove newN).2 (chunksOf (opsOf st.m))).2.remove newN).2)) := rfl
 generalize (d.remove newN).1 = e0 at *
 generalize (d.remove newN).2 = d1 at *
 obtain ⟨hok2, hl2⟩ := write_ok hok1 newN []
 obtain ⟨c0, c1, c2, c3, c4, z0, z1, z2, z3, z4⟩ := cells5 h0.st.raw
 have cS := h0.bS.cell
 have cR := h0.bR.cell
 clear hP hT
 have hmx := mixedP
 refine (callsIn_wide (n := 6)).1 ?_
 refine callsIn_of_wp_marks Tryz.func127 rfl trivial ?_ rfl
 simp only [Tryz.ntmps127, List.size_toArray, List.length_cons, List.length_nil, Nat.reduceAdd, Nat.reduceSub, Array.replicate_succ, Array.replicate_zero, List.push_toArray, List.append_toArray, List.nil_append, List.cons_append]
 by_cases e1 : (d1.write newN []).1 = 0
 . have HX1 : Hid (begW d1 (chunksOf (opsOf st.m)) = midW (d1.write newN []).2 (chunksOf (opsOf st.m))) := by simp [Hid, begW, e1]
   gi_wp2_with (first
     | (gi_at_call 88; refine hRm.mono ?_; rintro e w1 ⟨rfl, hP1, k1⟩; clear hRm; have h1 := h0.next k1 hP1; obtain ⟨a0, a1, a2, a3, a4, _⟩ := cells5 h1.st.raw; have aS := h1.bS.cell; have aR := h1.bR.cell; have hWr := (callsIn_wide (n := 5)).2 (dWrite_any bd d1 newN [] _ w1 h1.prog hok1 (by omega) (by decide) (by decide)); rw [e1] at hWr)
     | (gi_at_call 80; refine hWr.mono ?_; rintro e w2 ⟨rfl, hP2, k2⟩; clear hWr; have h2 := h1.next k2 hP2; obtain ⟨b0, b1, b2, b3, b4, _⟩ := cells5 h2.st.raw; have bS := h2.bS.cell; have bR := h2.bR.cell; have hMo := (callsIn_wide (n := 5)).2 (mops_any h2.st.map hm.rise (fun x hx => (by have a := hm.key x hx; have b := hm.val x hx; simp only [keyOk, Bool.and_eq_true, decide_eq_true_eq] at a; omega)) (by omega)))
     | (gi_at_call 170; refine hMo.mono ?_; rintro e w3 ⟨v3, rfl, hb3, ho3⟩; clear hMo; obtain ⟨q3, c3', rfl, hp3, hn3⟩ := ho3.opp)
     | (gi_at_call 169; refine (chunk_in q3 _ c3' w3).mono ?_; rintro e w4 ⟨rfl, rfl⟩))
   have hops := opsOf_ok hm
   have hol : (opsOf st.m).length <= 1000000 := by unfold opsOf; rw [List.length_map]; exact hml
   have HX2 : Hid (chunksOf (opsOf st.m) = (cuts (opsOf st.m).length).map (cutOf (opsOf st.m))) := rfl
   generalize opsOf st.m = ops at *
   generalize hd2 : (d1.write newN []).2 = d2 at *
   have hnc : ops.length <= c3' := by
     rcases ho3.2 with ⟨hv, hn⟩ | ⟨g, cap, cur, hv, _, _, hle, _⟩
     . rw [hn]; exact Nat.zero_le _
     . cases hv; exact hle
   obtain ⟨g, off, hq0⟩ : ∃ g off, 0 < ops.length -> q3 = some ⟨g, off, none⟩ := by
     by_cases h0 : 0 < ops.length
     . obtain ⟨g, off, e, _⟩ := hp3 0 h0
       exact ⟨g, off, fun _ => e⟩
     . exact ⟨0, 0, fun h => absurd h h0⟩
   have hs2 := h2.big
   have hs3 := hb3.size
   have h4 := ((h2.mono (V := fun k => Nw (Nw S (wA w bs)) w1 k /\ k < w2.heap.size) (fun k hk s => ⟨s, hk⟩) (fun k s => s.1)).below hb3).below (((Below.refl _ w3).alloc (Nat.le_refl _) (.cells #[.slice q3 ops.length c3'] 65)).alloc (by simp) (.cells #[.int .i64 8] 3))
   have hDlt : ∀ k, (fun k => Nw (Nw S (wA w bs)) w1 k /\ k < w2.heap.size) k -> k < w2.heap.size := fun k s => s.2
   generalize (fun k => Nw (Nw S (wA w bs)) w1 k /\ k < w2.heap.size) = D at h4 hDlt
   have x1 := (Boxed.new w3 65 (.slice q3 ops.length c3')).alloc (.cells #[.int .i64 8] 3)
   have x2 := Boxed.new (w3.alloc (.cells #[.slice q3 ops.length c3'] 65)) 3 (.int .i64 8)
   have hp4 : Opp ((w3.alloc (.cells #[.slice q3 ops.length c3'] 65)).alloc (.cells #[.int .i64 8] 3)) q3 ops := hp3.below (((Below.refl _ w3).alloc (Nat.le_refl _) _).alloc (by simp) _)
   have hsz : ((w3.alloc (.cells #[.slice q3 ops.length c3'] 65)).alloc (.cells #[.int .i64 8] 3)).heap.size = w3.heap.size + 2 := by simp
   rw [World.size_alloc] at x2
   obtain ⟨W0, hW0⟩ : ∃ W0, (w3.alloc (.cells #[.slice q3 ops.length c3'] 65)).alloc (.cells #[.int .i64 8] 3) = W0 := ⟨_, rfl⟩
   rw [hW0] at h4 x1 x2 hp4 hsz ⊢
   clear hW0 a0 a1 a2 a3 a4 aS aR b0 b1 b2 b3 b4 bS bR h2 hP2 k2 ho3 hp3 c0 c1 c2 c3 c4 z0 z1 z2 z3 z4 cS cR
   obtain ⟨bmd, hPB⟩ := h4.prog.b
   have hbmd := hPB.lt
   have hqD : ∀ a, q3 = some a -> ¬ D a.block := fun a ha s => by have := (hn3 a ha).1; have := hDlt _ s; omega
   refine wpIn_rangeFunc_ownH rfl (by decide) (gf := 183) (lb := #[.pointer (some ⟨w3.heap.size, 0, none⟩), .pointer (some ⟨w3.heap.size + 1, 0, none⟩)]) rfl trivial (enters_of Tryz.func183 (by kernel_rfl) rfl)
     (chunk_stops w3.heap.size (w3.heap.size + 1) g off ops.length c3' q3 hq0 (by omega) hnc (fun i => i = w3.heap.size \/ i = w3.heap.size + 1) (.inl rfl) (.inr rfl) W0 x1 x2) Kz.trans
     (fun W l o o' hl _ _ _ => ⟨by simp, fun i _ z => World.putObj_heap_other (by rcases z with rfl | rfl <;> omega)⟩) (Below.refl _ _) (fun _ => rfl)
     (fun pre W => (∃ dc, putO d2 (pre.map (cutOf ops)) = some dc /\ dc.Ok /\ dc.files.length <= 3000001 + pre.length /\ ProgAtB W (Nw D W0) bd bmd dc) /\ Kp D W0 W)
     (fun c pre W => c = .ret /\ ∃ pre0 x dc, pre = pre0 ++ [x] /\ putO d2 (pre0.map (cutOf ops)) = some dc /\ (dc.write newN (encode (cutOf ops x))).1 ≠ 0 /\ dc.Ok /\ ProgAtB W (Nw D W0) bd bmd (dc.write newN (encode (cutOf ops x))).2 /\ Boxed W (w.heap.size + 1) 37 (.int .i64 (dc.write newN (encode (cutOf ops x))).1) /\ Kp (fun i => D i \/ i = w.heap.size + 1) W0 W)
     (fun pre A B row ⟨⟨dc, e1, e2, e3, hP⟩, k⟩ hg hr => ⟨⟨dc, e1, e2, e3, hP.own hg (fun r e => (hr r e).2) (fun e => by have := (hr _ e).1; omega)⟩, k.grown hg (fun r e hlt => by have := (hr r e).1; omega)⟩)
     (fun c pre A B row ⟨e0, pre0, x, dc, e1, e2, e3, e4, hP, hb, k⟩ hg hr => ⟨e0, pre0, x, dc, e1, e2, e3, e4, hP.own hg (fun r e => (hr r e).2) (fun e => by have := (hr _ e).1; omega), (hg.block _ hb.lt (fun e => by have := (hr _ e.symm).1; have := h4.big; omega)).trans hb, k.grown hg (fun r e hlt => by have := (hr r e).1; omega)⟩)
     ⟨⟨d2, rfl, hok2, by simp; omega, hPB.nw⟩, Kp.refl _ _⟩
     (fun x a' _ => a' = { tmps := rewT bs bd bm w.heap.size w3.heap.size e0 q3 ops.length c3' g off x, defers := [] })
     (fun x a' _ _ _ _ h _ _ => h)
     ?assign ?body ?done ?stop
   case assign =>
     rintro l pre x W K hI hK
     unfold encX
     gi_wp2
     exact hK _ _ (KeepsFrom.refl _ _) (Kz.refl _ _) hI rfl
   case body =>
     rintro l pre x a' W hl _ ⟨⟨dc, e1', e2', e3', hPW⟩, kW⟩ rfl hlt
     obtain ⟨o1, o2, o3⟩ := h4.out
     have hst := h4.st.kept kW o1
     have hbS := kW.at h4.bS o2
     have hbR := kW.at h4.bR o3
     obtain rfl := hq0 (by have := x.2; omega)
     have hpW := (hp4.kept kW (fun a ha _ => hqD a ha)).cut rfl x
     have hck := cutOf_ok rfl hops x
     have hcl := cutOf_len rfl x
     have hcu := cuts_len ops.length
     have hel := encode_len (cutOf ops x)
     have hbl := body_len hck
     have hV := hPW.cells
     have hVb : ∀ i, (fun i => Nw D W0 i /\ (i = bmd \/ ∃ cs t z, W.heap[i]? = some (Obj.cells cs t z))) i -> Nw D W0 i /\ (W0.heap.size <= i -> ∃ cs t z, W.heap[i]? = some (Obj.cells cs t z)) := fun i v => ⟨v.1, fun hi => v.2.elim (fun e => by omega) id⟩
     generalize (fun i => Nw D W0 i /\ (i = bmd \/ ∃ cs t z, W.heap[i]? = some (Obj.cells cs t z))) = V at hV hVb
     have vS : ¬ V w.heap.size := fun v => (hVb _ v).1.elim o2 (fun h => by have := h4.big; omega)
     have vR : ¬ V (w.heap.size + 1) := fun v => (hVb _ v).1.elim o3 (fun h => by have := h4.big; omega)
     have vT : ∀ i, T i -> ¬ V i := fun i t v => (hVb _ v).1.elim (o1 i t) (fun h => by have := h4.big; have := h4.ap.t i t; omega)
     have hEn := Encode_any _ x.1.2 (cutOf ops x) W.drew hck hpW.drew
     rw [hcl] at hEn
     unfold rewT
     gi_wp2
     refine wpIn_region_E (S := fun w' => Boxed w' w.heap.size 77 (.pointer (some ⟨bs, 0, none⟩)) /\ w'.heap[bs]? = some (.cells #[.pointer (some ⟨bd, 0, none⟩), .int .i64 st.turn, .map (some bm), .bool st.loose, .bool st.stuck] 126)) hmx (by kernel_rfl) ?lets ?_
     case lets => rintro ⟨_, _, h⟩; exact h
     have hc : Boxed W.drew w.heap.size 77 (.pointer (some ⟨bs, 0, none⟩)) /\ W.drew.heap[bs]? = some (.cells #[.pointer (some ⟨bd, 0, none⟩), .int .i64 st.turn, .map (some bm), .bool st.loose, .bool st.stuck] 126) := ⟨hbS, hst.raw⟩
     refine tp 0 7 bs 0 rfl rfl (fun w' hS => ?_) hc ?_
     . have := hS.1.cell; go_simp
     refine tp 1 7 bs 0 rfl rfl (fun w' hS => ?_) hc ?_
     . go_simp
     refine tp 2 7 bs 0 rfl rfl (fun w' hS => ?_) hc ?_
     . go_simp
     refine tp 3 7 bd 0 rfl rfl (fun w' hS => ?_) hc ?_
     . have := (cells5 hS.2).1; go_simp
     refine tk 4 7 (.slice (some ⟨g, off + x.1.1 * 3, none⟩) x.1.2 x.1.2) rfl rfl (fun w' hS => ?_) hc ?_
     . go_simp
     refine wpAnyE_one (i := 5) (by kernel_rfl) rfl (by rfl) (fun K hK => ?_)
     go_simp
     refine hEn.mono ?_
     rintro e w5 ⟨rfl, hb5⟩
     have k5 : Kp V W w5 := kp_below ((Kp.refl V W).drew) hb5
     refine hK.out _ _ ⟨k5.at hbS vS, k5.at hst.raw (vT _ hst.ts)⟩ ?_
     clear hK
     refine wpAnyE_one (i := 6) (by kernel_rfl) rfl (by rfl) (fun K hK => ?_)
     go_simp
     have hV5 : ProgAtB w5 V bd bmd dc := hV.kept (T := fun _ => False) (kp_below ((Kp.refl _ W).drew) hb5) (fun _ _ f => f)
     refine (dWriteB_any bd bmd dc newN (encode (cutOf ops x)) V w5 hV5 e2' (by omega) (by decide) (by omega)).mono ?_
     rintro e w6 ⟨rfl, hP6, k6'⟩
     have k6 : Kp V W w6 := k5.trans k6' (fun _ _ s => s)
     have hs5 := k5.size
     have hs6 := k6.size
     have hW0 := kW.size
     refine hK.out _ _ ⟨k6.at hbS vS, k6.at hst.raw (vT _ hst.ts)⟩ ?_
     clear hK
     refine wpAnyE_last (i := 7) (by kernel_rfl) rfl (by rfl) (by kernel_rfl) (by kernel_rfl) (fun K hK => ?_)
     go_simp
     refine hK.out _ _ ?_
     clear hK
     have hPn : ProgAtB w6 (Nw D W0) bd bmd (dc.write newN (encode (cutOf ops x))).2 := hP6.mono (fun i _ s => s.elim (fun v => (hVb i v).1) (fun h => .inr (by omega)))
     have hbR6 := k6.at hbR vR
     have cR6 := (show Boxed w6 (w.heap.size + 1) 37 (.int .i64 0) from hbR6).cell
     have zR6 := (show Boxed w6 (w.heap.size + 1) 37 (.int .i64 0) from hbR6).frozen
     obtain ⟨hokn, hln⟩ := write_ok e2' newN (encode (cutOf ops x))
     have hZ : ∀ i, i = w3.heap.size \/ i = w3.heap.size + 1 -> ¬ V i := fun i z v => (hVb i v).1.elim (fun d => by have := hDlt i d; rcases z with rfl | rfl <;> omega) (fun h => by rcases z with rfl | rfl <;> omega)
     have hkeep : KeepsFrom W0.heap.size W w6 := ⟨k6.size, fun i o hB hi ho => k6.at hi (fun v => by obtain ⟨cs, t, z, h⟩ := (hVb i v).2 hB; rw [h] at hi; cases hi; cases ho)⟩
     have hK0 : Kp D W0 w6 := kW.trans k6 (fun i hi v => (hVb i v).1.elim id (fun h => by omega))
     by_cases hR : (dc.write newN (encode (cutOf ops x))).1 = 0
     . have hsn := putO_snoc (pre.map (cutOf ops)) (cutOf ops x) e1' hR
       rw [hR]
       gi_wp2
       refine ⟨hkeep, Kz.of_kp k6 hZ, ⟨_, by rw [List.map_append]; exact hsn, hokn, ?_, hPn⟩, hK0⟩
       rw [List.length_append, List.length_singleton]
       omega
     . have hR' : Hid ((dc.write newN (encode (cutOf ops x))).1 ≠ 0) := hR
       have HP : Hid (ProgAtB w6 (Nw D W0) bd bmd (dc.write newN (encode (cutOf ops x))).2) := hPn
       generalize hRR : (dc.write newN (encode (cutOf ops x))).1 = R at *
       gi_wp2
       refine ⟨⟨by simpa using hs6, fun i o hB hi ho => ?_⟩, rfl, pre, x, dc, rfl, e1', by rw [hRR]; exact hR'.out, e2', ?_, ?_, ?_⟩
       . exact block_set_ne (hkeep.same i o hB hi ho) (by have := h4.big; omega) _
       . exact HP.out.kept (Kp.set1 w6 (w.heap.size + 1) 0 (.int .i64 R)) (fun i s e => by rw [e] at s; exact s.elim o3 (fun h => by have := h4.big; omega))
       . rw [hRR]; exact (block_set hbR6 _).trans rfl
       . exact (hK0.mono (T := fun i => D i \/ i = w.heap.size + 1) (fun _ s => .inl s)).setCell (p := ⟨w.heap.size + 1, 0, none⟩) (fun _ => .inr rfl) _
   case done =>
     rintro m xs W hD rfl ⟨⟨dc, e1', e2', e3', hPW⟩, kW⟩ hK
     have hbig := h4.big
     have r4 := h4.later kW (hPW.not hK rfl (by omega)).at (fun i s => s.1)
     have hmD : ¬ (fun i => Nw D W0 i /\ i ≠ m) m := fun s => s.2 rfl
     generalize (fun i => Nw D W0 i /\ i ≠ m) = E at r4 hmD
     have hmW := lt_of_block hK
     have hcu := cuts_len ops.length
     have HX3 : Hid (midW d2 (chunksOf ops) = finW dc) := by show _ = _; unfold midW; rw [HX2.out, putAll_of _ e1']; simp
     obtain ⟨a0, a1, a2, a3, a4, _⟩ := cells5 r4.st.raw
     have aS := r4.bS.cell
     have aR := r4.bR.cell
     have aF := r4.bR.frozen
     have hSy := (callsIn_wide (n := 5)).2 (dSync_any bd dc newN E W r4.prog e2' (by decide))
     obtain ⟨hok5, hl5⟩ := sync_ok e2' newN
     by_cases hR : (dc.sync newN).1 = 0
     . have HX4 : Hid (finW dc = (dc.sync newN).2.rename newN logN) := by simp [Hid, finW, hR]
       rw [hR] at hSy
       generalize (dc.sync newN).2 = d5 at *
       obtain ⟨hok6, hl6⟩ := rename_ok hok5 newN logN
       gi_wp2_with (first
         | (gi_at_call 70; refine hSy.mono ?_; rintro e w5 ⟨rfl, hP5, k5⟩; clear hSy; have r5 := r4.next k5 hP5; obtain ⟨b0, b1, b2, b3, b4, _⟩ := cells5 r5.st.raw; have bS := r5.bS.cell; have bR := r5.bR.cell; have hRn := (callsIn_wide (n := 5)).2 (dRename_any bd d5 newN logN _ w5 r5.prog hok5 (by omega) (by decide) (by decide)))
         | (gi_at_call 86; refine hRn.mono ?_; rintro e w6 ⟨rfl, hP6, k6⟩; clear hRn; have r6 := r5.next k6 hP6; have cR := r6.bR.cell; have cF := r6.bR.frozen))
       have hs5 := k5.size
       have hm5 : ¬ Nw E W m := fun s => s.elim hmD (fun h => by omega)
       have hm6 : ¬ Nw (Nw E W) w5 m := fun s => s.elim hm5 (fun h => by omega)
       have hK6 := k6.at (k5.at hK hmD) hm5
       exact (r6.put _).leaveM hok6 hm6 (by omega) (block_set_ne hK6 (by omega) _) rfl rfl u1 u2 (fun w' hs k => ⟨by rw [HX.out, HX1.out, HX3.out, HX4.out], by rw [HX.out, HX1.out, HX3.out, HX4.out]; exact hs, k⟩)
     . have HX4 : Hid (finW dc = dc.sync newN) := by simp [Hid, finW, hR]
       have hR' : Hid ((dc.sync newN).1 ≠ 0) := hR
       have HY : Hid (dc.sync newN = ((dc.sync newN).1, (dc.sync newN).2)) := rfl
       generalize (dc.sync newN).2 = d5 at *
       generalize (dc.sync newN).1 = R at *
       gi_wp2_with (gi_at_call 70; refine hSy.mono ?_; rintro e w5 ⟨rfl, hP5, k5⟩; clear hSy; have r5 := r4.next k5 hP5; have cR := r5.bR.cell; have cF := r5.bR.frozen)
       have hm5 : ¬ Nw E W m := fun s => s.elim hmD (fun h => by omega)
       exact (r5.put _).leaveM hok5 hm5 (by omega) (block_set_ne (k5.at hK hmD) (by omega) _) rfl rfl u1 u2 (fun w' hs k => ⟨by rw [HX.out, HX1.out, HX3.out, HX4.out, HY.out], by rw [HX.out, HX1.out, HX3.out, HX4.out, HY.out]; exact hs, k⟩)
   case stop =>
     rintro m c pre W hD hpre ⟨rfl, pre0, x, dc, rfl, e2', e3', e4', hPW, hb, kW⟩ hK
     have hbig := h4.big
     have r4 := h4.told _ kW (hPW.not hK rfl (by omega)).at (fun i s => s.1) hb
     obtain ⟨hokn, _⟩ := write_ok e4' newN (encode (cutOf ops x))
     have HX3 : Hid (midW d2 (chunksOf ops) = dc.write newN (encode (cutOf ops x))) := by
       show _ = _
       obtain ⟨r, hr⟩ := hpre
       have hpa : putAll d2 (chunksOf ops) = dc.write newN (encode (cutOf ops x)) := by
         rw [HX2.out, <- hr, List.append_assoc, List.map_append]
         exact putAll_stop _ _ _ e2' e3'
       unfold midW
       rw [hpa, if_neg e3']
     gi_wp2
     exact r4.leaveM hokn (fun s => s.2 rfl) (by omega) hK rfl rfl u1 u2 (fun w' hs k => ⟨by rw [HX.out, HX1.out, HX3.out], by rw [HX.out, HX1.out, HX3.out]; exact hs, k⟩)
 . have HX1 : Hid (begW d1 (chunksOf (opsOf st.m)) = d1.write newN []) := by simp [Hid, begW, e1]
   gi_wp2_with (first
     | (gi_at_call 88; refine hRm.mono ?_; rintro e w1 ⟨rfl, hP1, k1⟩; clear hRm; have h1 := h0.next k1 hP1; obtain ⟨a0, a1, a2, a3, a4, _⟩ := cells5 h1.st.raw; have aS := h1.bS.cell; have aR := h1.bR.cell; have hWr := (callsIn_wide (n := 5)).2 (dWrite_any bd d1 newN [] _ w1 h1.prog hok1 (by omega) (by decide) (by decide)))
     | (gi_at_call 80; refine hWr.mono ?_; rintro e w2 ⟨rfl, hP2, k2⟩; clear hWr; have h2 := h1.next k2 hP2; have bR := h2.bR.cell; have bF := h2.bR.frozen))
   refine (h2.put _).leave hok2 rfl rfl u1 u2 (fun w' hs k => ⟨by rw [HX.out, HX1.out], by rw [HX.out, HX1.out]; exact hs, k⟩)
end Go.Proofs.YtfghgmojnffgnaaGreat
namespace Go.Proofs.YtfghgmojnffgnaaGreat
open Go.RowKit Go.Maps Go.Sort
theorem load_dead (bd bs : Nat) (d : Dk) (st : St) (U : Nat -> Prop) (w : World) (hS : Sys w U bd bs d st) (hal : d.dead = true) :
   Calls Tryz.prog 79 #[.pointer (some ⟨bs, 0, none⟩)] w fun e w' => e = .returned (.int .i64 4) /\ Below w.heap.size w w' := by
 obtain ⟨S, T, bm, u1, u2, u3, hP, hT⟩ := hS.ex
 have hN := dNames_dead bd d S w hP hal
 obtain ⟨c0, c1, c2, c3, c4, f0, f1, f2, f3, f4⟩ := cells5 hT.raw
 go_enter Tryz.func79, Tryz.ntmps79
 go_wp2_with (go_at_call 91; refine hN.mono ?_; rintro e w1 ⟨rfl, rfl⟩; clear hN)
 go_ret
 exact ⟨rfl, Below.refl _ _⟩
theorem load_bad (bd bs : Nat) (d : Dk) (st : St) (U : Nat -> Prop) (w : World) (hS : Sys w U bd bs d st) (hok : d.Ok) (hfl : d.files.length <= 4194302) (hal : d.dead = false) (hour : (nmsOf d.files).all oursB = false) :
   Calls Tryz.prog 79 #[.pointer (some ⟨bs, 0, none⟩)] w fun e w' => e = .returned (.int .i64 5) /\ Below w.heap.size w w' := by
 obtain ⟨S, T, bm, u1, u2, u3, hP, hT⟩ := hS.ex
 have hnl : (nmsOf d.files).length = d.files.length := nms_len d.files
 have hN := dNames_any bd d S w hP hok (by omega) hal
 obtain ⟨c0, c1, c2, c3, c4, f0, f1, f2, f3, f4⟩ := cells5 hT.raw
 generalize nmsOf d.files = NL at *
 have hour' : Hid (NL.all oursB = false) := hour
 clear hour
 go_enter Tryz.func79, Tryz.ntmps79
 go_wp2_with (first
   | (go_at_call 91; refine hN.mono ?_; rintro e w1 ⟨v, rfl, hb1, ho1⟩; clear hN)
   | (go_at_call 124; refine (areOurs_any v NL _ w1 ho1 (by omega)).mono ?_; rintro e w2 ⟨he, rfl⟩; rw [hour'.out] at he; subst he))
 go_ret
 exact ⟨rfl, hb1⟩
theorem load_broken (bd bs : Nat) (d : Dk) (st : St) (U : Nat -> Prop) (w : World) (hS : Sys w U bd bs d st) (hok : d.Ok) (hfl : d.files.length <= 4194302) (hal : d.dead = false) (hour : (nmsOf d.files).all oursB = true) (f : Fl) (hf : getF logN d.files = some f) (hst : st.m = []) (hrep : rep f.bytes [] = none) :
   Calls Tryz.prog 79 #[.pointer (some ⟨bs, 0, none⟩)] w fun e w' => e = .returned (.int .i64 5) /\ (∃ m5, Sys w' (Nw U w) bd bs d { st with m := m5 }) /\ Kp U w w' := by
 obtain ⟨S, T, bm, u1, u2, u3, hP, hT⟩ := hS.ex
 have hnl : (nmsOf d.files).length = d.files.length := nms_len d.files
 have hN := dNames_any bd d S w hP hok (by omega) hal
 have hbl := bytes_le hok hf
 have hmem : logN ∈ nmsOf d.files := List.mem_map.2 ⟨_, getF_mem hf, rfl⟩
 have hUm := u2 _ hT.tm
 obtain ⟨c0, c1, c2, c3, c4, f0, f1, f2, f3, f4⟩ := cells5 hT.raw
 generalize nmsOf d.files = NL at *
 have hour' : Hid (NL.all oursB = true) := hour
 have hno' : Hid (decide (logN ∈ NL) = true) := by simpa [Hid] using hmem
 have hrd : d.read logN = (f.bytes, 0) := by simp [Dk.read, hal, hf]
 have hmok : MOk st.m := by rw [hst]; exact MOk.nil
 have hrp : ∀ w1, StAt w1 T bs bd bm st -> Calls Tryz.prog 126 #[.pointer (some ⟨bs, 0, none⟩), str f.bytes] w1 fun e w' => e = .returned (.tuple #[.int .i64 0, .int .i64 5]) /\ (∃ m5, StAt w' T bs bd bm { st with m := m5 }) /\ Kp (fun i => i = bm) w1 w' := fun w1 hT1 =>
   (replay_any bs bd bm st T f.bytes w1 hT1 hmok hbl (by rw [hst]; rfl)).mono (by
     rintro e w5 ⟨m5, hT5, k5, (⟨n5, hr5, rfl⟩ | ⟨hr5, rfl⟩)⟩
     . rw [hst, hrep] at hr5; cases hr5
     . exact ⟨rfl, ⟨m5, hT5⟩, k5⟩)
 clear hour hmem
 go_enter Tryz.func79, Tryz.ntmps79
 go_wp2_with (first
   | (go_at_call 91; refine hN.mono ?_; rintro e w1 ⟨v, rfl, hb1, ho1⟩; clear hN; have hP1 := hP.below hb1; have hT1 := hT.below hb1; have hRd := dRead_any bd d logN S w1 hP1 (by decide); rw [hrd] at hRd; obtain ⟨g0, g1, g2, g3, g4, _⟩ := cells5 hT1.raw)
   | (go_at_call 124; refine (areOurs_any v NL _ w1 ho1 (by omega)).mono ?_; rintro e w2 ⟨he, rfl⟩; rw [hour'.out] at he; subst he)
   | (go_at_call 125; refine (contains_any v NL logN _ _ ho1 (by omega)).mono ?_; rintro e w3 ⟨he, rfl⟩; rw [hno'.out] at he; subst he)
   | (go_at_call 89; refine hRd.mono ?_; rintro e w4 ⟨rfl, rfl⟩; clear hRd)
   | (go_at_call 126; refine (hrp _ hT1).mono ?_; rintro e w5 ⟨rfl, ⟨m5, hT5⟩, k5⟩))
 go_ret
 refine ⟨rfl, ⟨m5, (Sys.of u1 u2 u3 (hP1.kept k5 (fun i s e => by rw [e] at s; exact u3 _ s hT1.tm)) hT5).mono (fun _ _ s => .inl s)⟩, (kp_below (Kp.refl U w) hb1).trans k5 (fun i _ e => by rw [e]; exact hUm)⟩
theorem load_cut (bd bs : Nat) (d : Dk) (st : St) (U : Nat -> Prop) (w : World) (hS : Sys w U bd bs d st) (hok : d.Ok) (hfl : d.files.length <= 3000000) (hal : d.dead = false) (hour : (nmsOf d.files).all oursB = true) (f : Fl) (hf : getF logN d.files = some f) (hst : st.m = []) (m' : Mp) (n : Nat) (hrep : rep f.bytes [] = some (m', n)) (hlt : n < f.bytes.length) :
   Calls Tryz.prog 79 #[.pointer (some ⟨bs, 0, none⟩)] w fun e w' => e = .returned (.int .i64 (rewriteX d m').1) /\ Sys w' (Nw U w) bd bs (rewriteX d m').2 { st with m := m' } /\ Kp U w w' := by
 obtain ⟨S, T, bm, u1, u2, u3, hP, hT⟩ := hS.ex
 have hnl : (nmsOf d.files).length = d.files.length := nms_len d.files
 have hN := dNames_any bd d S w hP hok (by omega) hal
 have hbl := bytes_le hok hf
 have hmem : logN ∈ nmsOf d.files := List.mem_map.2 ⟨_, getF_mem hf, rfl⟩
 have hUm := u2 _ hT.tm
 obtain ⟨hmo, _, hm2⟩ := replay_ok _ _ _ _ _ hrep MOk.nil
 simp only [List.length_nil, Nat.mul_zero, Nat.zero_add] at hm2
 obtain ⟨c0, c1, c2, c3, c4, f0, f1, f2, f3, f4⟩ := cells5 hT.raw
 generalize nmsOf d.files = NL at *
 have hour' : Hid (NL.all oursB = true) := hour
 have hno' : Hid (decide (logN ∈ NL) = true) := by simpa [Hid] using hmem
 have hrd : d.read logN = (f.bytes, 0) := by simp [Dk.read, hal, hf]
 have hmok : MOk st.m := by rw [hst]; exact MOk.nil
 have hrp : ∀ w1, StAt w1 T bs bd bm st -> Calls Tryz.prog 126 #[.pointer (some ⟨bs, 0, none⟩), str f.bytes] w1 fun e w' => e = .returned (.tuple #[.int .i64 n, .int .i64 0]) /\ StAt w' T bs bd bm { st with m := m' } /\ Kp (fun i => i = bm) w1 w' := fun w1 hT1 =>
   (replay_any bs bd bm st T f.bytes w1 hT1 hmok hbl (by rw [hst]; rfl)).mono (by
     rintro e w5 ⟨m5, hT5, k5, (⟨n5, hr5, rfl⟩ | ⟨hr5, _⟩)⟩
     . rw [hst, hrep] at hr5
       obtain ⟨rfl, rfl⟩ : m' = m5 /\ n = n5 := by simpa using hr5
       exact ⟨rfl, hT5, k5⟩
     . rw [hst, hrep] at hr5; cases hr5)
 clear hour hmem
 go_enter Tryz.func79, Tryz.ntmps79
 go_wp2_with (first
   | (go_at_call 91; refine hN.mono ?_; rintro e w1 ⟨v, rfl, hb1, ho1⟩; clear hN; have hP1 := hP.below hb1; have hT1 := hT.below hb1; have hRd := dRead_any bd d logN S w1 hP1 (by decide); rw [hrd] at hRd; obtain ⟨g0, g1, g2, g3, g4, _⟩ := cells5 hT1.raw)
   | (go_at_call 124; refine (areOurs_any v NL _ w1 ho1 (by omega)).mono ?_; rintro e w2 ⟨he, rfl⟩; rw [hour'.out] at he; subst he)
   | (go_at_call 125; refine (contains_any v NL logN _ _ ho1 (by omega)).mono ?_; rintro e w3 ⟨he, rfl⟩; rw [hno'.out] at he; subst he)
   | (go_at_call 89; refine hRd.mono ?_; rintro e w4 ⟨rfl, rfl⟩; clear hRd)
   | (go_at_call 126; refine (hrp _ hT1).mono ?_; rintro e w5 ⟨rfl, hT5, k5⟩; have hS5 : Sys w5 U bd bs d { st with m := m' } := Sys.of u1 u2 u3 (hP1.kept k5 (fun i s e => by rw [e] at s; exact u3 _ s hT1.tm)) hT5)
   | (go_at_call 127; refine (rewrite_any bd bs d { st with m := m' } U w5 hS5 hok hfl hmo (by show m'.length <= _; omega)).mono ?_; rintro e w6 ⟨rfl, hS6, k6⟩))
 go_ret
 refine ⟨rfl, hS6.mono (fun _ _ s => s.imp id (fun h => Nat.le_trans (Nat.le_trans hb1.size k5.size) h)), ((kp_below (Kp.refl U w) hb1).trans k5 (fun i _ e => by rw [e]; exact hUm)).trans k6 (fun _ _ s => s)⟩
end Go.Proofs.YtfghgmojnffgnaaGreat
namespace Go.Proofs.YtfghgmojnffgnaaGreat
open Go.RowKit Go.Maps Go.Sort
def OpenP (bd : Nat) (S : Nat -> Prop) (w : World) (d2 : Dk) (eL : Int) (G : St -> Prop) (e : Ending) (w' : World) : Prop :=
 Kp S w w' /\ ((d2.dead = false /\ eL = 0 /\ ∃ bs st2, e = .returned (.tuple #[.pointer (some ⟨bs, 0, none⟩), .int .i64 0]) /\ G st2 /\ Sys w' (Nw S w) bd bs d2 st2) \/
   ((if d2.dead then 4 else eL) ≠ 0 /\ e = .returned (.tuple #[.pointer none, .int .i64 (if d2.dead then 4 else eL)]) /\ ProgAt w' (Nw S w) bd d2))
theorem getF_none_not {α : Type} {n : Nm} : ∀ {fs : List (Nm × α)}, getF n fs = none -> ∀ x ∈ fs, x.1 ≠ n
 | [], _, x, hx => by cases hx
 | y :: r, h, x, hx => by
   simp only [getF] at h
   split at h
   . cases h
   . rename_i hne
     rcases List.mem_cons.1 hx with rfl | hx
     . exact hne
     . exact getF_none_not h x hx
theorem sOpen_gen (bd : Nat) (d : Dk) (p : Int) (S : Nat -> Prop) (w : World) (hP : ProgAt w S bd d) (ht0 : 0 <= d.turn) (ht1 : d.turn <= 4611686018427387904) (hp0 : 0 <= p) (hp2 : p <= 2) (eL : Int) (d2 : Dk) (G : St -> Prop)
   (hL : ∀ w1, ProgAt w1 S bd { d with turn := d.turn + 1 } -> Calls Tryz.prog 79 #[.pointer (some ⟨w1.heap.size + 1, 0, none⟩)] (opened w1 bd (d.turn + 1)) fun e w' => e = .returned (.int .i64 eL) /\ (∃ st2, G st2 /\ Sys w' (Nw (Nw S w1) (opened w1 bd (d.turn + 1))) bd (w1.heap.size + 1) d2 st2) /\ Kp (Nw S w1) (opened w1 bd (d.turn + 1)) w') :
   Calls Tryz.prog 42 #[.pointer (some ⟨bd, 0, none⟩), .int .i64 p] w (OpenP bd S w d2 eL G) := by
 have hTk := dTake_any bd d S w hP ht0 ht1
 obtain ⟨dm, dr, df, hd, hsd⟩ := hP.raw
 have hmm := @run_makeMap Tryz.prog
 have hfin : ∀ (w1 w2 : World) (st2 : St), Kp (fun i => i = bd) w w1 -> Sys w2 (Nw (Nw S w1) (opened w1 bd (d.turn + 1))) bd (w1.heap.size + 1) d2 st2 -> Kp (Nw S w1) (opened w1 bd (d.turn + 1)) w2 -> Sys w2 (Nw S w) bd (w1.heap.size + 1) d2 st2 /\ Kp S w w2 := fun w1 w2 st2 k1 hS2 k2 => by
   have hs1 := k1.size
   have hs2 := k2.size
   simp only [World.size_alloc] at hs2
   refine ⟨hS2.mono (fun k hk s => ?_), ?_⟩
   . rcases s with (s | s) | s
     . exact .inl s
     . exact .inr (Nat.le_trans hs1 s)
     . simp only [World.size_alloc] at s; exact .inr (by omega)
   . refine (((k1.mono (T := S) (fun i e => by rw [e]; exact hsd)).alloc _).alloc _).trans k2 (fun i hi s => ?_)
     rcases s with s | s
     . exact s
     . omega
 cases hal : d2.dead
 . by_cases hz : eL = 0
   . subst hz
     go_enter Tryz.func42, Tryz.ntmps42
     go_wp2_with (first
       | (go_at_call 78; refine hTk.mono ?_; rintro e w1 ⟨rfl, hP1, k1⟩; clear hTk)
       | (go_at_call 79; refine (hL w1 hP1).mono ?_; rintro e w2 ⟨rfl, ⟨st2, hG, hS2⟩, k2⟩; obtain ⟨m2, r2, f2, hd2⟩ := hS2.disk; rw [hal] at hd2)
       | (go_at_call 71; refine (isDead_any hd2).mono ?_; rintro e w3 ⟨rfl, rfl⟩))
     go_ret2
     obtain ⟨a, b⟩ := hfin _ _ _ k1 hS2 k2
     exact ⟨b, .inl ⟨hal, rfl, _, _, rfl, hG, a⟩⟩
   . have hz' : Hid (eL ≠ 0) := hz
     go_enter Tryz.func42, Tryz.ntmps42
     go_wp2_with (first
       | (go_at_call 78; refine hTk.mono ?_; rintro e w1 ⟨rfl, hP1, k1⟩; clear hTk)
       | (go_at_call 79; refine (hL w1 hP1).mono ?_; rintro e w2 ⟨rfl, ⟨st2, hG, hS2⟩, k2⟩; obtain ⟨m2, r2, f2, hd2⟩ := hS2.disk; rw [hal] at hd2)
       | (go_at_call 71; refine (isDead_any hd2).mono ?_; rintro e w3 ⟨rfl, rfl⟩))
     go_ret2
     obtain ⟨a, b⟩ := hfin _ _ _ k1 hS2 k2
     obtain ⟨S', T', bm', v1, _, _, hP', _⟩ := a.ex
     exact ⟨b, .inr ⟨by rw [hal]; exact hz'.out, by rw [hal]; rfl, hP'.mono (fun k _ s => v1 k s)⟩⟩
 . go_enter Tryz.func42, Tryz.ntmps42
   go_wp2_with (first
     | (go_at_call 78; refine hTk.mono ?_; rintro e w1 ⟨rfl, hP1, k1⟩; clear hTk)
     | (go_at_call 79; refine (hL w1 hP1).mono ?_; rintro e w2 ⟨rfl, ⟨st2, hG, hS2⟩, k2⟩; obtain ⟨m2, r2, f2, hd2⟩ := hS2.disk; rw [hal] at hd2)
     | (go_at_call 71; refine (isDead_any hd2).mono ?_; rintro e w3 ⟨rfl, rfl⟩))
   go_ret2
   obtain ⟨a, b⟩ := hfin _ _ _ k1 hS2 k2
   obtain ⟨S', T', bm', v1, _, _, hP', _⟩ := a.ex
   exact ⟨b, .inr ⟨by rw [hal]; simp, by rw [hal]; rfl, hP'.mono (fun k _ s => v1 k s)⟩⟩
def loadX (d : Dk) : Int × Dk × Mp :=
 if d.dead then (4, d, []) else if (nmsOf d.files).all oursB = false then (5, d, []) else
 match getF logN d.files with
 | none => (0, d, [])
 | some f => match rep f.bytes [] with
   | none => (5, d, [])
   | some (m, n) => if n < f.bytes.length then ((rewriteX d m).1, (rewriteX d m).2, m) else ((secureX d ⟨d.turn, m, false, false⟩ f.bytes.length).1, (secureX d ⟨d.turn, m, false, false⟩ f.bytes.length).2.1, m)
theorem secureX_st (d : Dk) (st : St) (n : Nat) : (secureX d st n).2.2.m = st.m /\ (secureX d st n).2.2.turn = st.turn /\ (secureX d st n).2.2.stuck = st.stuck := by
 unfold secureX syncX
 split
 . exact ⟨rfl, rfl, rfl⟩
 . split
   . exact ⟨rfl, rfl, rfl⟩
   . split
     . exact ⟨rfl, rfl, rfl⟩
     . split <;> exact ⟨rfl, rfl, rfl⟩
theorem rep_len {t : List UInt8} {m : Mp} {n : Nat} (h : rep t [] = some (m, n)) : MOk m /\ n <= t.length /\ 2 * m.length <= n := by
 obtain ⟨h1, h2, h3⟩ := replay_ok _ _ _ _ _ h MOk.nil
 simp only [List.length_nil, Nat.mul_zero, Nat.zero_add] at h3
 exact ⟨h1, h2, h3⟩
end Go.Proofs.YtfghgmojnffgnaaGreat
namespace Go.Proofs.YtfghgmojnffgnaaGreat
open Go.RowKit Go.Maps Go.Sort
def turned (d : Dk) : Dk := { d with turn := d.turn + 1 }
theorem turned_ok {d : Dk} (h : d.Ok) : (turned d).Ok := ⟨h.quota, h.used, h.left0, h.left1, h.safe, h.rise, h.name⟩
def openX (d : Dk) : Int × Dk × Mp := (if (loadX (turned d)).2.1.dead then 4 else (loadX (turned d)).1, (loadX (turned d)).2.1, (loadX (turned d)).2.2)
end Go.Proofs.YtfghgmojnffgnaaGreat
namespace Go.Proofs.YtfghgmojnffgnaaGreat
open Go.RowKit Go.Maps Go.Sort
theorem getF_upd {α : Type} (n : Nm) (f : α -> α) : ∀ fs : List (Nm × α), getF n (upd n f fs) = (getF n fs).map f
 | [] => rfl
 | x :: r => by
   have ih := getF_upd n f r
   unfold upd at ih ⊢
   simp only [List.map_cons]
   by_cases h : x.1 = n
   . rw [if_pos h]; simp [getF, h]
   . rw [if_neg h]; simp only [getF]; rw [if_neg h, if_neg h]; exact ih
theorem newName : nameOk newN = true := by decide
end Go.Proofs.YtfghgmojnffgnaaGreat
