import Derived.Test.YtfghgmojnffgnaaGreatPkBG
set_option maxHeartbeats 4000000
set_option maxRecDepth 20000
namespace Go.Proofs.YtfghgmojnffgnaaGreat
open Go.RowKit Go.Maps Go.Sort
section
variable {w : World} {C : Nat -> Prop} {bk bx bd : Nat} {vy : Value} {d d1 : Dk} {zs : List (Nat × St)} {k : Kno} {st1 : St}
theorem opp_front {w : World} {g cap n : Nat} {l m : List Ox} (h : OwnO w 0 (.slice (some ⟨g, 0, none⟩) n cap) (l ++ m)) : Opp w (some ⟨g, 0, none⟩) l := by
 obtain ⟨q, c, e, hp, -⟩ := OwnO.opp h
 cases e
 intro i hi
 obtain ⟨g', off, e, h1, h2, h3⟩ := hp i (by simp; omega)
 rw [List.getElem_append_left hi] at h1 h2 h3
 exact ⟨g', off, e, h1, h2, h3⟩
theorem bat_shut (h : Dka w C bk bx bd vy d zs k) (hC : ∀ i, C i -> i < w.heap.size) (hI : KInv k d zs) (j : Nat) (hj : j < k.ones.length) (hz : j < zs.length) (Dd A B L old : Value) (S T : Nm) (q : Option Addr) (qc : Nat) (l : List Ox)
   (hl : l.length <= 1048576) (hll : lens l <= 1048576) (hox : OxLen l) (hp : Opp w q l) (hq0 : q = none -> l = [] /\ qc = 0) (hq : ∀ a, q = some a -> 0 < l.length -> ¬ C a.block /\ a.block < w.heap.size) (hb : k.bytes <= 2097152) (ho : k.ops <= 1048576) (R : Int) (hsh : shutX k k.ones[j] = (R, true)) :
   Calls Tryz.prog 102 #[.pointer (some ⟨bk, 0, none⟩), .pointer (some ⟨k.ones[j].b, 0, none⟩), .agg (opC 14 Dd A B S T q l.length qc L old)] w (Out w C bk bx bd vy d k l.length (lens l)) := by
 obtain ⟨hr, hR0⟩ := hI.shutR j hj hz hsh
 have hXs := batchX_shut (l := l) hr hR0
 have hzat := hI.zat j hj hz
 obtain ⟨D0, hv0, hD0⟩ := Dv.start h
 have hA : Below w.heap.size w (w.alloc (.cells (opC 14 Dd A B S T q l.length qc L old) 67)) := (Below.refl _ w).alloc (Nat.le_refl _) _
 have hv1 := hv0.below hA
 have hp1 := hp.below hA
 have hbo0 := block_new w (.cells (opC 14 Dd A B S T q l.length qc L old) 67)
 obtain ⟨v8, w8, hr8, hb8, ho8⟩ := app_new _ 65 q qc l (by omega) hp1 hq0
 obtain ⟨q8, c8, rfl, hp8, hq8⟩ := OwnO.opp ho8
 have hok := hI.ok
 have hml := (hI.mok zs[j] (List.getElem_mem hz)).2
 have hwl := wtM_len zs[j].2.m
 have hs8 := hb8.size
 simp only [World.size_alloc] at hs8 hq8 ho8
 have hbo8 := block_at2 hbo0 hb8
 have hv8 := hv1.below hb8
 have hDC : ∀ i, D0 i -> i < w.heap.size := fun i s => hC i (hD0 i s)
 have hSz := hv8.sizes q8 c8 l (by omega) hp8 (fun a ha _ s => by have := hDC _ s; have := (hq8 a ha).1; omega) (by omega) (by omega)
 obtain ⟨⟨m2, -⟩, -⟩ := hv8.cells j hj
 have c0' : w8.cell? ⟨w.heap.size, 0, none⟩ = some (.int .i64 14) := cell_block hbo8
 have HB8 : Hid (w8.heap[w.heap.size]? = some (.cells (opC 14 Dd A B S T q l.length qc L old) 67)) := hbo8
 have HOO : Hid (OwnO w8 0 (.slice q8 l.length c8) l) := ownsRow_base ho8 (Nat.zero_le _)
 have HG : Hid (∀ g, (Value.slice q8 l.length c8).ownBlock = some g -> w.heap.size + 1 <= g /\ g < w8.heap.size) := fun g hg => World.ownsRow.lt ho8 g hg
 have HP8 : Hid (Opp w8 q l) := hp1.below hb8
 have HI : Hid (KInv k d zs) := hI
 have HQ : Hid (∀ a, q = some a -> 0 < l.length -> ¬ C a.block /\ a.block < w.heap.size) := hq
 have HX : Hid (batchX d zs[j].2 l = (R, d, zs[j].2)) := hXs
 clear h hp hp1 hp8 hq hq8 hv0 hv1 hv8 hbo0 hbo8 ho8 hI hA hXs hr
 unfold opC at *
 clear hb8
 go_enter Tryz.func102, Tryz.ntmps102
 go_wp2_with (first
   | (at_builtin; refine wpList_bi_run rfl _ _ _ rfl hr8 ?_; clear hr8)
   | (go_at_call 136; refine hSz.mono ?_; rintro e w9 ⟨rfl, D9, hg9, hv9, kp9⟩; clear hSz m2; have hbo9 := kp9.at HB8.out (fun s => by have := hDC _ s; omega); have c6 : w9.cell? ⟨w.heap.size, 6, none⟩ = some (.slice q l.length qc) := cell_block hbo9; have HB9 : Hid (w9.heap[w.heap.size]? = some (.cells #[.int .i64 14, Dd, A, B, str S, str T, .slice q l.length qc, L, old] 67)) := hbo9; have HP9 : Hid (Opp w9 q l) := HP8.out.kept kp9 (fun a ha h0 s => (HQ.out a ha h0).1 (hD0 _ s)); have hGi := given_any q qc l w9 (by omega) HP9.out hq0; clear hbo9)
   | (go_at_call 138; refine hGi.mono ?_; rintro e wg ⟨gg, cg, rfl, hbg, hgg, hog⟩; clear hGi c6; have hvg := hv9.below hbg; have HOG : Hid (OwnO wg 0 (.slice (some ⟨gg, 0, none⟩) (l.length + 3) cg) (l ++ marksO)) := hog; obtain ⟨-, o0, -⟩ := (hvg.cells j hj).1; replace o0 : wg.cell? ⟨k.ones[j].b, 0, none⟩ = some (.pointer (some ⟨k.ones[j].z, 0, none⟩)) := o0; have hBt := hvg.batch j hz (some ⟨gg, 0, none⟩) cg l hok.1 (by omega) (by unfold cost at hml; omega) (by omega) hox (opp_front hog) (fun a ha _ s => by cases ha; have := hv9.lt _ s; simp only at this; omega); rw [HX.out, hzat] at hBt; simp only at hBt; clear hog)
   | (go_at_call 30; refine hBt.mono ?_; rintro e wb ⟨rfl, D10, hg10, hvb, kpb⟩; clear hBt o0; have hn9 : ∀ i, D9 i -> D0 i \/ w8.heap.size <= i := hg9; have hbb := kpb.at (block_at2 HB9.out hbg) (fun s => by rcases hn9 _ s with s | s; (have := hDC _ s; omega); omega); have c6 : wb.cell? ⟨w.heap.size, 6, none⟩ = some (.slice q l.length qc) := cell_block hbb; have HPb : Hid (Opp wb q l) := (HP9.out.below hbg).kept kpb (fun a ha h0 s => by have h9 := HQ.out a ha h0; rcases hn9 _ s with s | s; (exact h9.1 (hD0 _ s)); omega); have hgl := (World.ownsRow.lt HOG.out gg rfl).2; have hsb := kpb.size; have hs9 := kp9.size; have hsg := hbg.size; have hSt := still_any gg cg q qc l wb (by omega) HPb.out (fun a ha h0 e => by have := (HQ.out a ha h0).2; omega) (kpb.row HOG.out (fun g hg e => by cases hg; have := hv9.lt _ e; simp only at this; omega)); clear hbb)
   | (go_at_call 139; refine hSt.mono ?_; rintro e w10 ⟨rfl, kps⟩; clear hSt c6))
 have hv10 := hvb.kept kps (fun i s (e : i = gg) => by
   subst e
   rcases hg10 _ s with s | s
   . have := hv9.lt _ s; omega
   . omega) (fun i (e : i = gg) => by omega)
 have hn10 : ∀ g, (Value.slice q8 l.length c8).ownBlock = some g -> ¬ D10 g := fun g hg s => by
   have h1 := HG.out g hg
   rcases hg10 _ s with s | s
   . rcases hn9 _ s with s | s
     . have := hDC _ s; omega
     . omega
   . omega
 have HO10 : Hid (OwnO w10 0 (.slice q8 l.length c8) l) := by
   have h9 : OwnO w9 0 (.slice q8 l.length c8) l := kp9.row HOO.out (fun g hg s => by have := HG.out g hg; have := hDC _ s; omega)
   have hg : OwnO wg 0 (.slice q8 l.length c8) l := (Kp.of_below (S := fun _ => False) hbg).row h9 (fun _ _ f => f)
   have hb' : OwnO wb 0 (.slice q8 l.length c8) l := kpb.row hg (fun g hg s => by
     have h1 := HG.out g hg
     rcases hn9 _ s with s | s
     . have := hDC _ s; omega
     . omega)
   exact kps.row hb' (fun g hg (e : g = gg) => by have := HG.out g hg; omega)
 have hsz10 : w8.heap.size <= w10.heap.size := by have := kps.size; omega
 clear hvb kps kpb hvg hv9 kp9 hbg
 replace hv10 : Dv w C w10 D10 bk bx bd vy d (zs.set j (k.ones[j].z, zs[j].2)) (sizesK k l) := hv10
 have hSh : Calls Tryz.prog 103 #[.pointer (some ⟨bk, 0, none⟩), .pointer (some ⟨k.ones[j].b, 0, none⟩)] w10 fun e w' => e = .returned (.tuple #[.int .i64 R, .bool true]) /\ w10 = w' := by
   have h9 := shut_any hv10 j hj
   have HS : shutX (sizesK k l) (sizesK k l).ones[j] = (R, true) := hsh
   rw [HS] at h9
   exact h9
 go_wp2_with (go_at_call 103; refine hSh.mono ?_; rintro e w11 ⟨rfl, rfl⟩; clear hSh)
 go_ret
 have HZ : zs.set j (k.ones[j].z, zs[j].2) = zs := by rw [<- hzat]; exact List.set_getElem_self ..
 rw [HZ] at hv10
 exact ⟨by simp, D10, d, zs, sizesK k l, hv10, HI.out.sizes _, by omega, Nat.le_refl _, Nat.le_refl _, Nat.le_succ _⟩
theorem bat_7 (h : Dka w C bk bx bd vy d zs k) (hC : ∀ i, C i -> i < w.heap.size) (hI : KInv k d zs) (j : Nat) (hj : j < k.ones.length) (hz : j < zs.length) (Dd A B L old : Value) (S T : Nm) (q : Option Addr) (qc : Nat) (l : List Ox)
   (hl : l.length <= 1048576) (hll : lens l <= 1048576) (hox : OxLen l) (hp : Opp w q l) (hq0 : q = none -> l = [] /\ qc = 0) (hq : ∀ a, q = some a -> 0 < l.length -> ¬ C a.block /\ a.block < w.heap.size) (hb : k.bytes <= 2097152) (ho : k.ops <= 1048576) (hsh : shutX k k.ones[j] = (0, false)) (hst : k.ones[j].stuck = true)
   (hXs : batchX d zs[j].2 l = (7, d1, st1)) (hEn : endsB (sizesK k l) d1 7 7 true = true) (hok1 : d1.Ok) (hf1 : d1.files.length <= 2) (ht1 : d1.turn <= d.turn + 1) (hF : KInv (batchK (diedK (sizesK k l) d1) j k.ones[j] l 7) d1 (zs.set j (zs[j].1, st1))) :
   Calls Tryz.prog 102 #[.pointer (some ⟨bk, 0, none⟩), .pointer (some ⟨k.ones[j].b, 0, none⟩), .agg (opC 14 Dd A B S T q l.length qc L old)] w (Out w C bk bx bd vy d k l.length (lens l)) := by
 have hzat := hI.zat j hj hz
 obtain ⟨D0, hv0, hD0⟩ := Dv.start h
 have hA : Below w.heap.size w (w.alloc (.cells (opC 14 Dd A B S T q l.length qc L old) 67)) := (Below.refl _ w).alloc (Nat.le_refl _) _
 have hv1 := hv0.below hA
 have hp1 := hp.below hA
 have hbo0 := block_new w (.cells (opC 14 Dd A B S T q l.length qc L old) 67)
 obtain ⟨v8, w8, hr8, hb8, ho8⟩ := app_new _ 65 q qc l (by omega) hp1 hq0
 obtain ⟨q8, c8, rfl, hp8, hq8⟩ := OwnO.opp ho8
 have hok := hI.ok
 have hml := (hI.mok zs[j] (List.getElem_mem hz)).2
 have hwl := wtM_len zs[j].2.m
 have hs8 := hb8.size
 simp only [World.size_alloc] at hs8 hq8 ho8
 have hbo8 := block_at2 hbo0 hb8
 have hv8 := hv1.below hb8
 have hDC : ∀ i, D0 i -> i < w.heap.size := fun i s => hC i (hD0 i s)
 have hSz := hv8.sizes q8 c8 l (by omega) hp8 (fun a ha _ s => by have := hDC _ s; have := (hq8 a ha).1; omega) (by omega) (by omega)
 obtain ⟨⟨m2, -⟩, -⟩ := hv8.cells j hj
 have c0' : w8.cell? ⟨w.heap.size, 0, none⟩ = some (.int .i64 14) := cell_block hbo8
 have HB8 : Hid (w8.heap[w.heap.size]? = some (.cells (opC 14 Dd A B S T q l.length qc L old) 67)) := hbo8
 have HOO : Hid (OwnO w8 0 (.slice q8 l.length c8) l) := ownsRow_base ho8 (Nat.zero_le _)
 have HG : Hid (∀ g, (Value.slice q8 l.length c8).ownBlock = some g -> w.heap.size + 1 <= g /\ g < w8.heap.size) := fun g hg => World.ownsRow.lt ho8 g hg
 have HP8 : Hid (Opp w8 q l) := hp1.below hb8
 have HI : Hid (KInv k d zs) := hI
 have HQ : Hid (∀ a, q = some a -> 0 < l.length -> ¬ C a.block /\ a.block < w.heap.size) := hq
 have HX : Hid (batchX d zs[j].2 l = (7, d1, st1)) := hXs
 have HEN : Hid (endsB (sizesK k l) d1 7 7 true = true) := hEn
 have HF : Hid (KInv (batchK (diedK (sizesK k l) d1) j k.ones[j] l 7) d1 (zs.set j (zs[j].1, st1))) := hF
 have HGD : Hid ((∀ b ∈ k.h, batchOk b = true) /\ wtL k.h.flatten <= 33554432) := by
   have hw := hI.wt
   unfold cost at hw
   exact ⟨hI.good, by omega⟩
 clear h hp hp1 hp8 hq hq8 hv0 hv1 hv8 hbo0 hbo8 ho8 hI hA hXs hEn hF
 unfold opC at *
 clear hb8
 go_enter Tryz.func102, Tryz.ntmps102
 go_wp2_with (first
   | (at_builtin; refine wpList_bi_run rfl _ _ _ rfl hr8 ?_; clear hr8)
   | (go_at_call 136; refine hSz.mono ?_; rintro e w9 ⟨rfl, D9, hg9, hv9, kp9⟩; clear hSz m2; have hbo9 := kp9.at HB8.out (fun s => by have := hDC _ s; omega); have c6 : w9.cell? ⟨w.heap.size, 6, none⟩ = some (.slice q l.length qc) := cell_block hbo9; have HB9 : Hid (w9.heap[w.heap.size]? = some (.cells #[.int .i64 14, Dd, A, B, str S, str T, .slice q l.length qc, L, old] 67)) := hbo9; have HP9 : Hid (Opp w9 q l) := HP8.out.kept kp9 (fun a ha h0 s => (HQ.out a ha h0).1 (hD0 _ s)); have hGi := given_any q qc l w9 (by omega) HP9.out hq0; clear hbo9)
   | (go_at_call 138; refine hGi.mono ?_; rintro e wg ⟨gg, cg, rfl, hbg, hgg, hog⟩; clear hGi c6; have hvg := hv9.below hbg; have HOG : Hid (OwnO wg 0 (.slice (some ⟨gg, 0, none⟩) (l.length + 3) cg) (l ++ marksO)) := hog; obtain ⟨-, o0, -⟩ := (hvg.cells j hj).1; replace o0 : wg.cell? ⟨k.ones[j].b, 0, none⟩ = some (.pointer (some ⟨k.ones[j].z, 0, none⟩)) := o0; have hBt := hvg.batch j hz (some ⟨gg, 0, none⟩) cg l hok.1 (by omega) (by unfold cost at hml; omega) (by omega) hox (opp_front hog) (fun a ha _ s => by cases ha; have := hv9.lt _ s; simp only at this; omega); rw [HX.out, hzat] at hBt; simp only at hBt; clear hog)
   | (go_at_call 30; refine hBt.mono ?_; rintro e wb ⟨rfl, D10, hg10, hvb, kpb⟩; clear hBt o0; have hn9 : ∀ i, D9 i -> D0 i \/ w8.heap.size <= i := hg9; have hbb := kpb.at (block_at2 HB9.out hbg) (fun s => by rcases hn9 _ s with s | s; (have := hDC _ s; omega); omega); have c6 : wb.cell? ⟨w.heap.size, 6, none⟩ = some (.slice q l.length qc) := cell_block hbb; have HPb : Hid (Opp wb q l) := (HP9.out.below hbg).kept kpb (fun a ha h0 s => by have h9 := HQ.out a ha h0; rcases hn9 _ s with s | s; (exact h9.1 (hD0 _ s)); omega); have hgl := (World.ownsRow.lt HOG.out gg rfl).2; have hsb := kpb.size; have hs9 := kp9.size; have hsg := hbg.size; have hSt := still_any gg cg q qc l wb (by omega) HPb.out (fun a ha h0 e => by have := (HQ.out a ha h0).2; omega) (kpb.row HOG.out (fun g hg e => by cases hg; have := hv9.lt _ e; simp only at this; omega)); clear hbb)
   | (go_at_call 139; refine hSt.mono ?_; rintro e w10 ⟨rfl, kps⟩; clear hSt c6))
 have hv10 := hvb.kept kps (fun i s (e : i = gg) => by
   subst e
   rcases hg10 _ s with s | s
   . have := hv9.lt _ s; omega
   . omega) (fun i (e : i = gg) => by omega)
 have hn10 : ∀ g, (Value.slice q8 l.length c8).ownBlock = some g -> ¬ D10 g := fun g hg s => by
   have h1 := HG.out g hg
   rcases hg10 _ s with s | s
   . rcases hn9 _ s with s | s
     . have := hDC _ s; omega
     . omega
   . omega
 have HO10 : Hid (OwnO w10 0 (.slice q8 l.length c8) l) := by
   have h9 : OwnO w9 0 (.slice q8 l.length c8) l := kp9.row HOO.out (fun g hg s => by have := HG.out g hg; have := hDC _ s; omega)
   have hg : OwnO wg 0 (.slice q8 l.length c8) l := (Kp.of_below (S := fun _ => False) hbg).row h9 (fun _ _ f => f)
   have hb' : OwnO wb 0 (.slice q8 l.length c8) l := kpb.row hg (fun g hg s => by
     have h1 := HG.out g hg
     rcases hn9 _ s with s | s
     . have := hDC _ s; omega
     . omega)
   exact kps.row hb' (fun g hg (e : g = gg) => by have := HG.out g hg; omega)
 have hsz10 : w8.heap.size <= w10.heap.size := by have := kps.size; omega
 clear hvb kps kpb hvg hv9 kp9 hbg
 replace hv10 : Dv w C w10 D10 bk bx bd vy d1 (zs.set j (k.ones[j].z, st1)) (sizesK k l) := hv10
 obtain ⟨q10, c10, e10, hop10, -⟩ := OwnO.opp HO10.out
 cases e10
 have hSh : Calls Tryz.prog 103 #[.pointer (some ⟨bk, 0, none⟩), .pointer (some ⟨k.ones[j].b, 0, none⟩)] w10 fun e w' => e = .returned (.tuple #[.int .i64 0, .bool false]) /\ w10 = w' := by
   have h9 := shut_any hv10 j hj
   have HS : shutX (sizesK k l) (sizesK k l).ones[j] = (0, false) := hsh
   rw [HS] at h9
   exact h9
 have hYb := yBatch_any q8 c8 l w10 (by omega) hox hop10
 obtain ⟨-, -, o6, -⟩ := (hv10.cells j hj).1
 replace o6 : w10.cell? ⟨k.ones[j].b, 6, none⟩ = some (.bool true) := o6.trans (congrArg (fun b => some (Value.bool b)) hst)
 have hEd := ends_any hv10 hok1 (by omega) (by show k.bytes + lens l <= _; omega) (by show k.ops + l.length <= _; omega) 7 7 true
 rw [HEN.out] at hEd
 skip
 clear hok1
 have hk2 := diedK_eq (sizesK k l) d1
 generalize (diedK (sizesK k l) d1).dead = a2 at hk2
 generalize (diedK (sizesK k l) d1).armed = b2 at hk2
 rw [hk2] at hEd
 replace HF : Hid (KInv (batchK ({ sizesK k l with dead := a2, armed := b2 }) j k.ones[j] l 7) d1 (zs.set j (k.ones[j].z, st1))) := by
   have := HF.out
   rw [hk2, hzat] at this
   exact this
 clear hk2
 go_wp2_with (first
   | (go_at_call 103; refine hSh.mono ?_; rintro e w11 ⟨rfl, rfl⟩; clear hSh)
   | (go_at_call 140; refine hYb.mono ?_; rintro e w11 ⟨rfl, rfl⟩; clear hYb)
   | (go_at_call 98; refine hEd.mono ?_; rintro e w12 ⟨rfl, D12, hg12, hv12, kp12⟩; clear hEd o6; obtain ⟨⟨-, -, s6, sz⟩, -, -, sf, -⟩ := hv12.cells j hj; replace sz : ∀ c, w12.frozen? ⟨k.ones[j].b, c, none⟩ = false := sz; replace s6 : w12.cell? ⟨k.ones[j].b, 6, none⟩ = some (.bool k.ones[j].stuck) := s6; replace sf : ∀ c, 7 <= c -> c <= 12 -> ∃ u, w12.cell? ⟨k.ones[j].b, c, none⟩ = some u := sf; obtain ⟨u7, f7⟩ := sf 7 (by omega) (by omega); obtain ⟨u8, f8⟩ := sf 8 (by omega) (by omega); obtain ⟨u9, f9⟩ := sf 9 (by omega) (by omega); obtain ⟨uA, fA⟩ := sf 10 (by omega) (by omega); obtain ⟨uB, fB⟩ := sf 11 (by omega) (by omega); obtain ⟨uC, fC⟩ := sf 12 (by omega) (by omega); have z6 := sz 6; have z7 := sz 7; have z8 := sz 8; have z9 := sz 9; have zA := sz 10; have zB := sz 11; have zC := sz 12; clear sf sz))
 go_ret
 have hvF := (((((hv12.flag j hj 7 (by omega) (.bool false)).flag j hj 8 (by omega) (.bool false)).flag j hj 9 (by omega) (.bool false)).flag j hj 10 (by omega) (.bool false)).flag j hj 11 (by omega) (.bool false)).flag j hj 12 (by omega) (.bool false)
 exact ⟨rfl, D12, d1, zs.set j (k.ones[j].z, st1), { sizesK k l with dead := a2, armed := b2 }, hvF, HF.out, ht1, Nat.le_refl _, Nat.le_refl _, Nat.le_succ _⟩
theorem bat_1 (h : Dka w C bk bx bd vy d zs k) (hC : ∀ i, C i -> i < w.heap.size) (hI : KInv k d zs) (j : Nat) (hj : j < k.ones.length) (hz : j < zs.length) (Dd A B L old : Value) (S T : Nm) (q : Option Addr) (qc : Nat) (l : List Ox)
   (hl : l.length <= 1048576) (hll : lens l <= 1048576) (hox : OxLen l) (hp : Opp w q l) (hq0 : q = none -> l = [] /\ qc = 0) (hq : ∀ a, q = some a -> 0 < l.length -> ¬ C a.block /\ a.block < w.heap.size) (hb : k.bytes <= 2097152) (ho : k.ops <= 1048576) (hsh : shutX k k.ones[j] = (0, false)) (hst : k.ones[j].stuck = false) (hbo : batchOk l = false)
   (hXs : batchX d zs[j].2 l = (1, d1, st1)) (hEn : endsB (sizesK k l) d1 1 1 true = true) (hok1 : d1.Ok) (hf1 : d1.files.length <= 2) (ht1 : d1.turn <= d.turn + 1) (hF : KInv (batchK (diedK (sizesK k l) d1) j k.ones[j] l 1) d1 (zs.set j (zs[j].1, st1))) :
   Calls Tryz.prog 102 #[.pointer (some ⟨bk, 0, none⟩), .pointer (some ⟨k.ones[j].b, 0, none⟩), .agg (opC 14 Dd A B S T q l.length qc L old)] w (Out w C bk bx bd vy d k l.length (lens l)) := by
 have hzat := hI.zat j hj hz
 obtain ⟨D0, hv0, hD0⟩ := Dv.start h
 have hA : Below w.heap.size w (w.alloc (.cells (opC 14 Dd A B S T q l.length qc L old) 67)) := (Below.refl _ w).alloc (Nat.le_refl _) _
 have hv1 := hv0.below hA
 have hp1 := hp.below hA
 have hbo0 := block_new w (.cells (opC 14 Dd A B S T q l.length qc L old) 67)
 obtain ⟨v8, w8, hr8, hb8, ho8⟩ := app_new _ 65 q qc l (by omega) hp1 hq0
 obtain ⟨q8, c8, rfl, hp8, hq8⟩ := OwnO.opp ho8
 have hok := hI.ok
 have hml := (hI.mok zs[j] (List.getElem_mem hz)).2
 have hwl := wtM_len zs[j].2.m
 have hs8 := hb8.size
 simp only [World.size_alloc] at hs8 hq8 ho8
 have hbo8 := block_at2 hbo0 hb8
 have hv8 := hv1.below hb8
 have hDC : ∀ i, D0 i -> i < w.heap.size := fun i s => hC i (hD0 i s)
 have hSz := hv8.sizes q8 c8 l (by omega) hp8 (fun a ha _ s => by have := hDC _ s; have := (hq8 a ha).1; omega) (by omega) (by omega)
 obtain ⟨⟨m2, -⟩, -⟩ := hv8.cells j hj
 have c0' : w8.cell? ⟨w.heap.size, 0, none⟩ = some (.int .i64 14) := cell_block hbo8
 have HB8 : Hid (w8.heap[w.heap.size]? = some (.cells (opC 14 Dd A B S T q l.length qc L old) 67)) := hbo8
 have HOO : Hid (OwnO w8 0 (.slice q8 l.length c8) l) := ownsRow_base ho8 (Nat.zero_le _)
 have HG : Hid (∀ g, (Value.slice q8 l.length c8).ownBlock = some g -> w.heap.size + 1 <= g /\ g < w8.heap.size) := fun g hg => World.ownsRow.lt ho8 g hg
 have HP8 : Hid (Opp w8 q l) := hp1.below hb8
 have HI : Hid (KInv k d zs) := hI
 have HQ : Hid (∀ a, q = some a -> 0 < l.length -> ¬ C a.block /\ a.block < w.heap.size) := hq
 have HX : Hid (batchX d zs[j].2 l = (1, d1, st1)) := hXs
 have HEN : Hid (endsB (sizesK k l) d1 1 1 true = true) := hEn
 have HF : Hid (KInv (batchK (diedK (sizesK k l) d1) j k.ones[j] l 1) d1 (zs.set j (zs[j].1, st1))) := hF
 have HGD : Hid ((∀ b ∈ k.h, batchOk b = true) /\ wtL k.h.flatten <= 33554432) := by
   have hw := hI.wt
   unfold cost at hw
   exact ⟨hI.good, by omega⟩
 clear h hp hp1 hp8 hq hq8 hv0 hv1 hv8 hbo0 hbo8 ho8 hI hA hXs hEn hF
 unfold opC at *
 clear hb8
 go_enter Tryz.func102, Tryz.ntmps102
 go_wp2_with (first
   | (at_builtin; refine wpList_bi_run rfl _ _ _ rfl hr8 ?_; clear hr8)
   | (go_at_call 136; refine hSz.mono ?_; rintro e w9 ⟨rfl, D9, hg9, hv9, kp9⟩; clear hSz m2; have hbo9 := kp9.at HB8.out (fun s => by have := hDC _ s; omega); have c6 : w9.cell? ⟨w.heap.size, 6, none⟩ = some (.slice q l.length qc) := cell_block hbo9; have HB9 : Hid (w9.heap[w.heap.size]? = some (.cells #[.int .i64 14, Dd, A, B, str S, str T, .slice q l.length qc, L, old] 67)) := hbo9; have HP9 : Hid (Opp w9 q l) := HP8.out.kept kp9 (fun a ha h0 s => (HQ.out a ha h0).1 (hD0 _ s)); have hGi := given_any q qc l w9 (by omega) HP9.out hq0; clear hbo9)
   | (go_at_call 138; refine hGi.mono ?_; rintro e wg ⟨gg, cg, rfl, hbg, hgg, hog⟩; clear hGi c6; have hvg := hv9.below hbg; have HOG : Hid (OwnO wg 0 (.slice (some ⟨gg, 0, none⟩) (l.length + 3) cg) (l ++ marksO)) := hog; obtain ⟨-, o0, -⟩ := (hvg.cells j hj).1; replace o0 : wg.cell? ⟨k.ones[j].b, 0, none⟩ = some (.pointer (some ⟨k.ones[j].z, 0, none⟩)) := o0; have hBt := hvg.batch j hz (some ⟨gg, 0, none⟩) cg l hok.1 (by omega) (by unfold cost at hml; omega) (by omega) hox (opp_front hog) (fun a ha _ s => by cases ha; have := hv9.lt _ s; simp only at this; omega); rw [HX.out, hzat] at hBt; simp only at hBt; clear hog)
   | (go_at_call 30; refine hBt.mono ?_; rintro e wb ⟨rfl, D10, hg10, hvb, kpb⟩; clear hBt o0; have hn9 : ∀ i, D9 i -> D0 i \/ w8.heap.size <= i := hg9; have hbb := kpb.at (block_at2 HB9.out hbg) (fun s => by rcases hn9 _ s with s | s; (have := hDC _ s; omega); omega); have c6 : wb.cell? ⟨w.heap.size, 6, none⟩ = some (.slice q l.length qc) := cell_block hbb; have HPb : Hid (Opp wb q l) := (HP9.out.below hbg).kept kpb (fun a ha h0 s => by have h9 := HQ.out a ha h0; rcases hn9 _ s with s | s; (exact h9.1 (hD0 _ s)); omega); have hgl := (World.ownsRow.lt HOG.out gg rfl).2; have hsb := kpb.size; have hs9 := kp9.size; have hsg := hbg.size; have hSt := still_any gg cg q qc l wb (by omega) HPb.out (fun a ha h0 e => by have := (HQ.out a ha h0).2; omega) (kpb.row HOG.out (fun g hg e => by cases hg; have := hv9.lt _ e; simp only at this; omega)); clear hbb)
   | (go_at_call 139; refine hSt.mono ?_; rintro e w10 ⟨rfl, kps⟩; clear hSt c6))
 have hv10 := hvb.kept kps (fun i s (e : i = gg) => by
   subst e
   rcases hg10 _ s with s | s
   . have := hv9.lt _ s; omega
   . omega) (fun i (e : i = gg) => by omega)
 have hn10 : ∀ g, (Value.slice q8 l.length c8).ownBlock = some g -> ¬ D10 g := fun g hg s => by
   have h1 := HG.out g hg
   rcases hg10 _ s with s | s
   . rcases hn9 _ s with s | s
     . have := hDC _ s; omega
     . omega
   . omega
 have HO10 : Hid (OwnO w10 0 (.slice q8 l.length c8) l) := by
   have h9 : OwnO w9 0 (.slice q8 l.length c8) l := kp9.row HOO.out (fun g hg s => by have := HG.out g hg; have := hDC _ s; omega)
   have hg : OwnO wg 0 (.slice q8 l.length c8) l := (Kp.of_below (S := fun _ => False) hbg).row h9 (fun _ _ f => f)
   have hb' : OwnO wb 0 (.slice q8 l.length c8) l := kpb.row hg (fun g hg s => by
     have h1 := HG.out g hg
     rcases hn9 _ s with s | s
     . have := hDC _ s; omega
     . omega)
   exact kps.row hb' (fun g hg (e : g = gg) => by have := HG.out g hg; omega)
 have hsz10 : w8.heap.size <= w10.heap.size := by have := kps.size; omega
 clear hvb kps kpb hvg hv9 kp9 hbg
 replace hv10 : Dv w C w10 D10 bk bx bd vy d1 (zs.set j (k.ones[j].z, st1)) (sizesK k l) := hv10
 obtain ⟨q10, c10, e10, hop10, -⟩ := OwnO.opp HO10.out
 cases e10
 have hSh : Calls Tryz.prog 103 #[.pointer (some ⟨bk, 0, none⟩), .pointer (some ⟨k.ones[j].b, 0, none⟩)] w10 fun e w' => e = .returned (.tuple #[.int .i64 0, .bool false]) /\ w10 = w' := by
   have h9 := shut_any hv10 j hj
   have HS : shutX (sizesK k l) (sizesK k l).ones[j] = (0, false) := hsh
   rw [HS] at h9
   exact h9
 have hYb := yBatch_any q8 c8 l w10 (by omega) hox hop10
 obtain ⟨-, -, o6, -⟩ := (hv10.cells j hj).1
 replace o6 : w10.cell? ⟨k.ones[j].b, 6, none⟩ = some (.bool false) := o6.trans (congrArg (fun b => some (Value.bool b)) hst)
 have hEd := ends_any hv10 hok1 (by omega) (by show k.bytes + lens l <= _; omega) (by show k.ops + l.length <= _; omega) 1 1 true
 rw [HEN.out] at hEd
 rw [hbo] at hYb
 clear hok1
 have hk2 := diedK_eq (sizesK k l) d1
 generalize (diedK (sizesK k l) d1).dead = a2 at hk2
 generalize (diedK (sizesK k l) d1).armed = b2 at hk2
 rw [hk2] at hEd
 replace HF : Hid (KInv (batchK ({ sizesK k l with dead := a2, armed := b2 }) j k.ones[j] l 1) d1 (zs.set j (k.ones[j].z, st1))) := by
   have := HF.out
   rw [hk2, hzat] at this
   exact this
 clear hk2
 go_wp2_with (first
   | (go_at_call 103; refine hSh.mono ?_; rintro e w11 ⟨rfl, rfl⟩; clear hSh)
   | (go_at_call 140; refine hYb.mono ?_; rintro e w11 ⟨rfl, rfl⟩; clear hYb)
   | (go_at_call 98; refine hEd.mono ?_; rintro e w12 ⟨rfl, D12, hg12, hv12, kp12⟩; clear hEd o6; obtain ⟨⟨-, -, s6, sz⟩, -, -, sf, -⟩ := hv12.cells j hj; replace sz : ∀ c, w12.frozen? ⟨k.ones[j].b, c, none⟩ = false := sz; replace s6 : w12.cell? ⟨k.ones[j].b, 6, none⟩ = some (.bool k.ones[j].stuck) := s6; replace sf : ∀ c, 7 <= c -> c <= 12 -> ∃ u, w12.cell? ⟨k.ones[j].b, c, none⟩ = some u := sf; obtain ⟨u7, f7⟩ := sf 7 (by omega) (by omega); obtain ⟨u8, f8⟩ := sf 8 (by omega) (by omega); obtain ⟨u9, f9⟩ := sf 9 (by omega) (by omega); obtain ⟨uA, fA⟩ := sf 10 (by omega) (by omega); obtain ⟨uB, fB⟩ := sf 11 (by omega) (by omega); obtain ⟨uC, fC⟩ := sf 12 (by omega) (by omega); have z6 := sz 6; have z7 := sz 7; have z8 := sz 8; have z9 := sz 9; have zA := sz 10; have zB := sz 11; have zC := sz 12; clear sf sz))
 go_ret
 have hvF := (((((hv12.flag j hj 7 (by omega) (.bool false)).flag j hj 8 (by omega) (.bool false)).flag j hj 9 (by omega) (.bool false)).flag j hj 10 (by omega) (.bool false)).flag j hj 11 (by omega) (.bool false)).flag j hj 12 (by omega) (.bool false)
 exact ⟨rfl, D12, d1, zs.set j (k.ones[j].z, st1), { sizesK k l with dead := a2, armed := b2 }, hvF, HF.out, ht1, Nat.le_refl _, Nat.le_refl _, Nat.le_succ _⟩
theorem bat_3 (h : Dka w C bk bx bd vy d zs k) (hC : ∀ i, C i -> i < w.heap.size) (hI : KInv k d zs) (j : Nat) (hj : j < k.ones.length) (hz : j < zs.length) (Dd A B L old : Value) (S T : Nm) (q : Option Addr) (qc : Nat) (l : List Ox)
   (hl : l.length <= 1048576) (hll : lens l <= 1048576) (hox : OxLen l) (hp : Opp w q l) (hq0 : q = none -> l = [] /\ qc = 0) (hq : ∀ a, q = some a -> 0 < l.length -> ¬ C a.block /\ a.block < w.heap.size) (hb : k.bytes <= 2097152) (ho : k.ops <= 1048576) (hsh : shutX k k.ones[j] = (0, false)) (hst : k.ones[j].stuck = false) (hbo : batchOk l = true)
   (hXs : batchX d zs[j].2 l = (3, d1, st1)) (hEn : endsB (sizesK k l) d1 3 0 true = true) (hok1 : d1.Ok) (hf1 : d1.files.length <= 2) (ht1 : d1.turn <= d.turn + 1) (hF : KInv (batchK (diedK (sizesK k l) d1) j k.ones[j] l 3) d1 (zs.set j (zs[j].1, st1))) :
   Calls Tryz.prog 102 #[.pointer (some ⟨bk, 0, none⟩), .pointer (some ⟨k.ones[j].b, 0, none⟩), .agg (opC 14 Dd A B S T q l.length qc L old)] w (Out w C bk bx bd vy d k l.length (lens l)) := by
 have hzat := hI.zat j hj hz
 obtain ⟨D0, hv0, hD0⟩ := Dv.start h
 have hA : Below w.heap.size w (w.alloc (.cells (opC 14 Dd A B S T q l.length qc L old) 67)) := (Below.refl _ w).alloc (Nat.le_refl _) _
 have hv1 := hv0.below hA
 have hp1 := hp.below hA
 have hbo0 := block_new w (.cells (opC 14 Dd A B S T q l.length qc L old) 67)
 obtain ⟨v8, w8, hr8, hb8, ho8⟩ := app_new _ 65 q qc l (by omega) hp1 hq0
 obtain ⟨q8, c8, rfl, hp8, hq8⟩ := OwnO.opp ho8
 have hok := hI.ok
 have hml := (hI.mok zs[j] (List.getElem_mem hz)).2
 have hwl := wtM_len zs[j].2.m
 have hs8 := hb8.size
 simp only [World.size_alloc] at hs8 hq8 ho8
 have hbo8 := block_at2 hbo0 hb8
 have hv8 := hv1.below hb8
 have hDC : ∀ i, D0 i -> i < w.heap.size := fun i s => hC i (hD0 i s)
 have hSz := hv8.sizes q8 c8 l (by omega) hp8 (fun a ha _ s => by have := hDC _ s; have := (hq8 a ha).1; omega) (by omega) (by omega)
 obtain ⟨⟨m2, -⟩, -⟩ := hv8.cells j hj
 have c0' : w8.cell? ⟨w.heap.size, 0, none⟩ = some (.int .i64 14) := cell_block hbo8
 have HB8 : Hid (w8.heap[w.heap.size]? = some (.cells (opC 14 Dd A B S T q l.length qc L old) 67)) := hbo8
 have HOO : Hid (OwnO w8 0 (.slice q8 l.length c8) l) := ownsRow_base ho8 (Nat.zero_le _)
 have HG : Hid (∀ g, (Value.slice q8 l.length c8).ownBlock = some g -> w.heap.size + 1 <= g /\ g < w8.heap.size) := fun g hg => World.ownsRow.lt ho8 g hg
 have HP8 : Hid (Opp w8 q l) := hp1.below hb8
 have HI : Hid (KInv k d zs) := hI
 have HQ : Hid (∀ a, q = some a -> 0 < l.length -> ¬ C a.block /\ a.block < w.heap.size) := hq
 have HX : Hid (batchX d zs[j].2 l = (3, d1, st1)) := hXs
 have HEN : Hid (endsB (sizesK k l) d1 3 0 true = true) := hEn
 have HF : Hid (KInv (batchK (diedK (sizesK k l) d1) j k.ones[j] l 3) d1 (zs.set j (zs[j].1, st1))) := hF
 have HGD : Hid ((∀ b ∈ k.h, batchOk b = true) /\ wtL k.h.flatten <= 33554432) := by
   have hw := hI.wt
   unfold cost at hw
   exact ⟨hI.good, by omega⟩
 clear h hp hp1 hp8 hq hq8 hv0 hv1 hv8 hbo0 hbo8 ho8 hI hA hXs hEn hF
 unfold opC at *
 clear hb8
 go_enter Tryz.func102, Tryz.ntmps102
 go_wp2_with (first
   | (at_builtin; refine wpList_bi_run rfl _ _ _ rfl hr8 ?_; clear hr8)
   | (go_at_call 136; refine hSz.mono ?_; rintro e w9 ⟨rfl, D9, hg9, hv9, kp9⟩; clear hSz m2; have hbo9 := kp9.at HB8.out (fun s => by have := hDC _ s; omega); have c6 : w9.cell? ⟨w.heap.size, 6, none⟩ = some (.slice q l.length qc) := cell_block hbo9; have HB9 : Hid (w9.heap[w.heap.size]? = some (.cells #[.int .i64 14, Dd, A, B, str S, str T, .slice q l.length qc, L, old] 67)) := hbo9; have HP9 : Hid (Opp w9 q l) := HP8.out.kept kp9 (fun a ha h0 s => (HQ.out a ha h0).1 (hD0 _ s)); have hGi := given_any q qc l w9 (by omega) HP9.out hq0; clear hbo9)
   | (go_at_call 138; refine hGi.mono ?_; rintro e wg ⟨gg, cg, rfl, hbg, hgg, hog⟩; clear hGi c6; have hvg := hv9.below hbg; have HOG : Hid (OwnO wg 0 (.slice (some ⟨gg, 0, none⟩) (l.length + 3) cg) (l ++ marksO)) := hog; obtain ⟨-, o0, -⟩ := (hvg.cells j hj).1; replace o0 : wg.cell? ⟨k.ones[j].b, 0, none⟩ = some (.pointer (some ⟨k.ones[j].z, 0, none⟩)) := o0; have hBt := hvg.batch j hz (some ⟨gg, 0, none⟩) cg l hok.1 (by omega) (by unfold cost at hml; omega) (by omega) hox (opp_front hog) (fun a ha _ s => by cases ha; have := hv9.lt _ s; simp only at this; omega); rw [HX.out, hzat] at hBt; simp only at hBt; clear hog)
   | (go_at_call 30; refine hBt.mono ?_; rintro e wb ⟨rfl, D10, hg10, hvb, kpb⟩; clear hBt o0; have hn9 : ∀ i, D9 i -> D0 i \/ w8.heap.size <= i := hg9; have hbb := kpb.at (block_at2 HB9.out hbg) (fun s => by rcases hn9 _ s with s | s; (have := hDC _ s; omega); omega); have c6 : wb.cell? ⟨w.heap.size, 6, none⟩ = some (.slice q l.length qc) := cell_block hbb; have HPb : Hid (Opp wb q l) := (HP9.out.below hbg).kept kpb (fun a ha h0 s => by have h9 := HQ.out a ha h0; rcases hn9 _ s with s | s; (exact h9.1 (hD0 _ s)); omega); have hgl := (World.ownsRow.lt HOG.out gg rfl).2; have hsb := kpb.size; have hs9 := kp9.size; have hsg := hbg.size; have hSt := still_any gg cg q qc l wb (by omega) HPb.out (fun a ha h0 e => by have := (HQ.out a ha h0).2; omega) (kpb.row HOG.out (fun g hg e => by cases hg; have := hv9.lt _ e; simp only at this; omega)); clear hbb)
   | (go_at_call 139; refine hSt.mono ?_; rintro e w10 ⟨rfl, kps⟩; clear hSt c6))
 have hv10 := hvb.kept kps (fun i s (e : i = gg) => by
   subst e
   rcases hg10 _ s with s | s
   . have := hv9.lt _ s; omega
   . omega) (fun i (e : i = gg) => by omega)
 have hn10 : ∀ g, (Value.slice q8 l.length c8).ownBlock = some g -> ¬ D10 g := fun g hg s => by
   have h1 := HG.out g hg
   rcases hg10 _ s with s | s
   . rcases hn9 _ s with s | s
     . have := hDC _ s; omega
     . omega
   . omega
 have HO10 : Hid (OwnO w10 0 (.slice q8 l.length c8) l) := by
   have h9 : OwnO w9 0 (.slice q8 l.length c8) l := kp9.row HOO.out (fun g hg s => by have := HG.out g hg; have := hDC _ s; omega)
   have hg : OwnO wg 0 (.slice q8 l.length c8) l := (Kp.of_below (S := fun _ => False) hbg).row h9 (fun _ _ f => f)
   have hb' : OwnO wb 0 (.slice q8 l.length c8) l := kpb.row hg (fun g hg s => by
     have h1 := HG.out g hg
     rcases hn9 _ s with s | s
     . have := hDC _ s; omega
     . omega)
   exact kps.row hb' (fun g hg (e : g = gg) => by have := HG.out g hg; omega)
 have hsz10 : w8.heap.size <= w10.heap.size := by have := kps.size; omega
 clear hvb kps kpb hvg hv9 kp9 hbg
 replace hv10 : Dv w C w10 D10 bk bx bd vy d1 (zs.set j (k.ones[j].z, st1)) (sizesK k l) := hv10
 obtain ⟨q10, c10, e10, hop10, -⟩ := OwnO.opp HO10.out
 cases e10
 have hSh : Calls Tryz.prog 103 #[.pointer (some ⟨bk, 0, none⟩), .pointer (some ⟨k.ones[j].b, 0, none⟩)] w10 fun e w' => e = .returned (.tuple #[.int .i64 0, .bool false]) /\ w10 = w' := by
   have h9 := shut_any hv10 j hj
   have HS : shutX (sizesK k l) (sizesK k l).ones[j] = (0, false) := hsh
   rw [HS] at h9
   exact h9
 have hYb := yBatch_any q8 c8 l w10 (by omega) hox hop10
 obtain ⟨-, -, o6, -⟩ := (hv10.cells j hj).1
 replace o6 : w10.cell? ⟨k.ones[j].b, 6, none⟩ = some (.bool false) := o6.trans (congrArg (fun b => some (Value.bool b)) hst)
 have hEd := ends_any hv10 hok1 (by omega) (by show k.bytes + lens l <= _; omega) (by show k.ops + l.length <= _; omega) 3 0 true
 rw [HEN.out] at hEd
 rw [hbo] at hYb
 clear hok1
 have hk2 := diedK_eq (sizesK k l) d1
 generalize (diedK (sizesK k l) d1).dead = a2 at hk2
 generalize (diedK (sizesK k l) d1).armed = b2 at hk2
 rw [hk2] at hEd
 replace HF : Hid (KInv (batchK ({ sizesK k l with dead := a2, armed := b2 }) j k.ones[j] l 3) d1 (zs.set j (k.ones[j].z, st1))) := by
   have := HF.out
   rw [hk2, hzat] at this
   exact this
 clear hk2
 go_wp2_with (first
   | (go_at_call 103; refine hSh.mono ?_; rintro e w11 ⟨rfl, rfl⟩; clear hSh)
   | (go_at_call 140; refine hYb.mono ?_; rintro e w11 ⟨rfl, rfl⟩; clear hYb)
   | (go_at_call 98; refine hEd.mono ?_; rintro e w12 ⟨rfl, D12, hg12, hv12, kp12⟩; clear hEd o6; obtain ⟨⟨-, -, s6, sz⟩, -, -, sf, -⟩ := hv12.cells j hj; replace sz : ∀ c, w12.frozen? ⟨k.ones[j].b, c, none⟩ = false := sz; replace s6 : w12.cell? ⟨k.ones[j].b, 6, none⟩ = some (.bool k.ones[j].stuck) := s6; replace sf : ∀ c, 7 <= c -> c <= 12 -> ∃ u, w12.cell? ⟨k.ones[j].b, c, none⟩ = some u := sf; obtain ⟨u7, f7⟩ := sf 7 (by omega) (by omega); obtain ⟨u8, f8⟩ := sf 8 (by omega) (by omega); obtain ⟨u9, f9⟩ := sf 9 (by omega) (by omega); obtain ⟨uA, fA⟩ := sf 10 (by omega) (by omega); obtain ⟨uB, fB⟩ := sf 11 (by omega) (by omega); obtain ⟨uC, fC⟩ := sf 12 (by omega) (by omega); have z6 := sz 6; have z7 := sz 7; have z8 := sz 8; have z9 := sz 9; have zA := sz 10; have zB := sz 11; have zC := sz 12; clear sf sz))
 go_ret
 have hvF := ((((((hv12.flag j hj 7 (by omega) (.bool false)).flag j hj 8 (by omega) (.bool false)).flag j hj 9 (by omega) (.bool false)).flag j hj 10 (by omega) (.bool false)).flag j hj 11 (by omega) (.bool false)).flag j hj 12 (by omega) (.bool false)).stuckAt j hj
 exact ⟨rfl, D12, d1, zs.set j (k.ones[j].z, st1), _, hvF, HF.out, ht1, Nat.le_refl _, Nat.le_refl _, (by simp [sizesK])⟩
theorem bat_4 (h : Dka w C bk bx bd vy d zs k) (hC : ∀ i, C i -> i < w.heap.size) (hI : KInv k d zs) (j : Nat) (hj : j < k.ones.length) (hz : j < zs.length) (Dd A B L old : Value) (S T : Nm) (q : Option Addr) (qc : Nat) (l : List Ox)
   (hl : l.length <= 1048576) (hll : lens l <= 1048576) (hox : OxLen l) (hp : Opp w q l) (hq0 : q = none -> l = [] /\ qc = 0) (hq : ∀ a, q = some a -> 0 < l.length -> ¬ C a.block /\ a.block < w.heap.size) (hb : k.bytes <= 2097152) (ho : k.ops <= 1048576) (hsh : shutX k k.ones[j] = (0, false)) (hst : k.ones[j].stuck = false) (hbo : batchOk l = true)
   (hXs : batchX d zs[j].2 l = (4, d1, st1)) (hEn : endsB (sizesK k l) d1 4 0 true = true) (hok1 : d1.Ok) (hf1 : d1.files.length <= 2) (ht1 : d1.turn <= d.turn + 1) (hF : KInv (batchK (diedK (sizesK k l) d1) j k.ones[j] l 4) d1 (zs.set j (zs[j].1, st1))) :
   Calls Tryz.prog 102 #[.pointer (some ⟨bk, 0, none⟩), .pointer (some ⟨k.ones[j].b, 0, none⟩), .agg (opC 14 Dd A B S T q l.length qc L old)] w (Out w C bk bx bd vy d k l.length (lens l)) := by
 have hzat := hI.zat j hj hz
 obtain ⟨D0, hv0, hD0⟩ := Dv.start h
 have hA : Below w.heap.size w (w.alloc (.cells (opC 14 Dd A B S T q l.length qc L old) 67)) := (Below.refl _ w).alloc (Nat.le_refl _) _
 have hv1 := hv0.below hA
 have hp1 := hp.below hA
 have hbo0 := block_new w (.cells (opC 14 Dd A B S T q l.length qc L old) 67)
 obtain ⟨v8, w8, hr8, hb8, ho8⟩ := app_new _ 65 q qc l (by omega) hp1 hq0
 obtain ⟨q8, c8, rfl, hp8, hq8⟩ := OwnO.opp ho8
 have hok := hI.ok
 have hml := (hI.mok zs[j] (List.getElem_mem hz)).2
 have hwl := wtM_len zs[j].2.m
 have hs8 := hb8.size
 simp only [World.size_alloc] at hs8 hq8 ho8
 have hbo8 := block_at2 hbo0 hb8
 have hv8 := hv1.below hb8
 have hDC : ∀ i, D0 i -> i < w.heap.size := fun i s => hC i (hD0 i s)
 have hSz := hv8.sizes q8 c8 l (by omega) hp8 (fun a ha _ s => by have := hDC _ s; have := (hq8 a ha).1; omega) (by omega) (by omega)
 obtain ⟨⟨m2, -⟩, -⟩ := hv8.cells j hj
 have c0' : w8.cell? ⟨w.heap.size, 0, none⟩ = some (.int .i64 14) := cell_block hbo8
 have HB8 : Hid (w8.heap[w.heap.size]? = some (.cells (opC 14 Dd A B S T q l.length qc L old) 67)) := hbo8
 have HOO : Hid (OwnO w8 0 (.slice q8 l.length c8) l) := ownsRow_base ho8 (Nat.zero_le _)
 have HG : Hid (∀ g, (Value.slice q8 l.length c8).ownBlock = some g -> w.heap.size + 1 <= g /\ g < w8.heap.size) := fun g hg => World.ownsRow.lt ho8 g hg
 have HP8 : Hid (Opp w8 q l) := hp1.below hb8
 have HI : Hid (KInv k d zs) := hI
 have HQ : Hid (∀ a, q = some a -> 0 < l.length -> ¬ C a.block /\ a.block < w.heap.size) := hq
 have HX : Hid (batchX d zs[j].2 l = (4, d1, st1)) := hXs
 have HEN : Hid (endsB (sizesK k l) d1 4 0 true = true) := hEn
 have HF : Hid (KInv (batchK (diedK (sizesK k l) d1) j k.ones[j] l 4) d1 (zs.set j (zs[j].1, st1))) := hF
 have HGD : Hid ((∀ b ∈ k.h, batchOk b = true) /\ wtL k.h.flatten <= 33554432) := by
   have hw := hI.wt
   unfold cost at hw
   exact ⟨hI.good, by omega⟩
 clear h hp hp1 hp8 hq hq8 hv0 hv1 hv8 hbo0 hbo8 ho8 hI hA hXs hEn hF
 unfold opC at *
 clear hb8
 go_enter Tryz.func102, Tryz.ntmps102
 go_wp2_with (first
   | (at_builtin; refine wpList_bi_run rfl _ _ _ rfl hr8 ?_; clear hr8)
   | (go_at_call 136; refine hSz.mono ?_; rintro e w9 ⟨rfl, D9, hg9, hv9, kp9⟩; clear hSz m2; have hbo9 := kp9.at HB8.out (fun s => by have := hDC _ s; omega); have c6 : w9.cell? ⟨w.heap.size, 6, none⟩ = some (.slice q l.length qc) := cell_block hbo9; have HB9 : Hid (w9.heap[w.heap.size]? = some (.cells #[.int .i64 14, Dd, A, B, str S, str T, .slice q l.length qc, L, old] 67)) := hbo9; have HP9 : Hid (Opp w9 q l) := HP8.out.kept kp9 (fun a ha h0 s => (HQ.out a ha h0).1 (hD0 _ s)); have hGi := given_any q qc l w9 (by omega) HP9.out hq0; clear hbo9)
   | (go_at_call 138; refine hGi.mono ?_; rintro e wg ⟨gg, cg, rfl, hbg, hgg, hog⟩; clear hGi c6; have hvg := hv9.below hbg; have HOG : Hid (OwnO wg 0 (.slice (some ⟨gg, 0, none⟩) (l.length + 3) cg) (l ++ marksO)) := hog; obtain ⟨-, o0, -⟩ := (hvg.cells j hj).1; replace o0 : wg.cell? ⟨k.ones[j].b, 0, none⟩ = some (.pointer (some ⟨k.ones[j].z, 0, none⟩)) := o0; have hBt := hvg.batch j hz (some ⟨gg, 0, none⟩) cg l hok.1 (by omega) (by unfold cost at hml; omega) (by omega) hox (opp_front hog) (fun a ha _ s => by cases ha; have := hv9.lt _ s; simp only at this; omega); rw [HX.out, hzat] at hBt; simp only at hBt; clear hog)
   | (go_at_call 30; refine hBt.mono ?_; rintro e wb ⟨rfl, D10, hg10, hvb, kpb⟩; clear hBt o0; have hn9 : ∀ i, D9 i -> D0 i \/ w8.heap.size <= i := hg9; have hbb := kpb.at (block_at2 HB9.out hbg) (fun s => by rcases hn9 _ s with s | s; (have := hDC _ s; omega); omega); have c6 : wb.cell? ⟨w.heap.size, 6, none⟩ = some (.slice q l.length qc) := cell_block hbb; have HPb : Hid (Opp wb q l) := (HP9.out.below hbg).kept kpb (fun a ha h0 s => by have h9 := HQ.out a ha h0; rcases hn9 _ s with s | s; (exact h9.1 (hD0 _ s)); omega); have hgl := (World.ownsRow.lt HOG.out gg rfl).2; have hsb := kpb.size; have hs9 := kp9.size; have hsg := hbg.size; have hSt := still_any gg cg q qc l wb (by omega) HPb.out (fun a ha h0 e => by have := (HQ.out a ha h0).2; omega) (kpb.row HOG.out (fun g hg e => by cases hg; have := hv9.lt _ e; simp only at this; omega)); clear hbb)
   | (go_at_call 139; refine hSt.mono ?_; rintro e w10 ⟨rfl, kps⟩; clear hSt c6))
 have hv10 := hvb.kept kps (fun i s (e : i = gg) => by
   subst e
   rcases hg10 _ s with s | s
   . have := hv9.lt _ s; omega
   . omega) (fun i (e : i = gg) => by omega)
 have hn10 : ∀ g, (Value.slice q8 l.length c8).ownBlock = some g -> ¬ D10 g := fun g hg s => by
   have h1 := HG.out g hg
   rcases hg10 _ s with s | s
   . rcases hn9 _ s with s | s
     . have := hDC _ s; omega
     . omega
   . omega
 have HO10 : Hid (OwnO w10 0 (.slice q8 l.length c8) l) := by
   have h9 : OwnO w9 0 (.slice q8 l.length c8) l := kp9.row HOO.out (fun g hg s => by have := HG.out g hg; have := hDC _ s; omega)
   have hg : OwnO wg 0 (.slice q8 l.length c8) l := (Kp.of_below (S := fun _ => False) hbg).row h9 (fun _ _ f => f)
   have hb' : OwnO wb 0 (.slice q8 l.length c8) l := kpb.row hg (fun g hg s => by
     have h1 := HG.out g hg
     rcases hn9 _ s with s | s
     . have := hDC _ s; omega
     . omega)
   exact kps.row hb' (fun g hg (e : g = gg) => by have := HG.out g hg; omega)
 have hsz10 : w8.heap.size <= w10.heap.size := by have := kps.size; omega
 clear hvb kps kpb hvg hv9 kp9 hbg
 replace hv10 : Dv w C w10 D10 bk bx bd vy d1 (zs.set j (k.ones[j].z, st1)) (sizesK k l) := hv10
 obtain ⟨q10, c10, e10, hop10, -⟩ := OwnO.opp HO10.out
 cases e10
 have hSh : Calls Tryz.prog 103 #[.pointer (some ⟨bk, 0, none⟩), .pointer (some ⟨k.ones[j].b, 0, none⟩)] w10 fun e w' => e = .returned (.tuple #[.int .i64 0, .bool false]) /\ w10 = w' := by
   have h9 := shut_any hv10 j hj
   have HS : shutX (sizesK k l) (sizesK k l).ones[j] = (0, false) := hsh
   rw [HS] at h9
   exact h9
 have hYb := yBatch_any q8 c8 l w10 (by omega) hox hop10
 obtain ⟨-, -, o6, -⟩ := (hv10.cells j hj).1
 replace o6 : w10.cell? ⟨k.ones[j].b, 6, none⟩ = some (.bool false) := o6.trans (congrArg (fun b => some (Value.bool b)) hst)
 have hEd := ends_any hv10 hok1 (by omega) (by show k.bytes + lens l <= _; omega) (by show k.ops + l.length <= _; omega) 4 0 true
 rw [HEN.out] at hEd
 rw [hbo] at hYb
 clear hok1
 have hk2 := diedK_eq (sizesK k l) d1
 generalize (diedK (sizesK k l) d1).dead = a2 at hk2
 generalize (diedK (sizesK k l) d1).armed = b2 at hk2
 rw [hk2] at hEd
 replace HF : Hid (KInv (batchK ({ sizesK k l with dead := a2, armed := b2 }) j k.ones[j] l 4) d1 (zs.set j (k.ones[j].z, st1))) := by
   have := HF.out
   rw [hk2, hzat] at this
   exact this
 clear hk2
 go_wp2_with (first
   | (go_at_call 103; refine hSh.mono ?_; rintro e w11 ⟨rfl, rfl⟩; clear hSh)
   | (go_at_call 140; refine hYb.mono ?_; rintro e w11 ⟨rfl, rfl⟩; clear hYb)
   | (go_at_call 98; refine hEd.mono ?_; rintro e w12 ⟨rfl, D12, hg12, hv12, kp12⟩; clear hEd o6; obtain ⟨⟨-, -, s6, sz⟩, -, -, sf, -⟩ := hv12.cells j hj; replace sz : ∀ c, w12.frozen? ⟨k.ones[j].b, c, none⟩ = false := sz; replace s6 : w12.cell? ⟨k.ones[j].b, 6, none⟩ = some (.bool k.ones[j].stuck) := s6; replace sf : ∀ c, 7 <= c -> c <= 12 -> ∃ u, w12.cell? ⟨k.ones[j].b, c, none⟩ = some u := sf; obtain ⟨u7, f7⟩ := sf 7 (by omega) (by omega); obtain ⟨u8, f8⟩ := sf 8 (by omega) (by omega); obtain ⟨u9, f9⟩ := sf 9 (by omega) (by omega); obtain ⟨uA, fA⟩ := sf 10 (by omega) (by omega); obtain ⟨uB, fB⟩ := sf 11 (by omega) (by omega); obtain ⟨uC, fC⟩ := sf 12 (by omega) (by omega); have z6 := sz 6; have z7 := sz 7; have z8 := sz 8; have z9 := sz 9; have zA := sz 10; have zB := sz 11; have zC := sz 12; clear sf sz))
 have hvF : Dv w C ((((((w12.setCell ⟨k.ones[j].b, 7, none⟩ (.bool false)).setCell ⟨k.ones[j].b, 8, none⟩ (.bool false)).setCell ⟨k.ones[j].b, 9, none⟩ (.bool false)).setCell ⟨k.ones[j].b, 10, none⟩ (.bool false)).setCell ⟨k.ones[j].b, 11, none⟩ (.bool false)).setCell ⟨k.ones[j].b, 12, none⟩ (.bool false)) D12 bk bx bd vy d1 (zs.set j (k.ones[j].z, st1)) { sizesK k l with dead := a2, armed := b2 } := (((((hv12.flag j hj 7 (by omega) (.bool false)).flag j hj 8 (by omega) (.bool false)).flag j hj 9 (by omega) (.bool false)).flag j hj 10 (by omega) (.bool false)).flag j hj 11 (by omega) (.bool false)).flag j hj 12 (by omega) (.bool false)
 have hn12 : ∀ g, (Value.slice q8 l.length c8).ownBlock = some g -> ¬ D12 g := fun g hg s => by
   rcases hg12 _ s with s | s
   . exact hn10 g hg s
   . have := HG.out g hg; omega
 have hoD : D12 k.ones[j].b := (hv12.cells j hj).2.2.2.2.2.1
 have hO12 : OwnO w12 0 (.slice q8 l.length c8) l := kp12.row HO10.out (fun g hg e => hn10 g hg e)
 have hO13 : OwnO ((((((w12.setCell ⟨k.ones[j].b, 7, none⟩ (.bool false)).setCell ⟨k.ones[j].b, 8, none⟩ (.bool false)).setCell ⟨k.ones[j].b, 9, none⟩ (.bool false)).setCell ⟨k.ones[j].b, 10, none⟩ (.bool false)).setCell ⟨k.ones[j].b, 11, none⟩ (.bool false)).setCell ⟨k.ones[j].b, 12, none⟩ (.bool false)) 0 (.slice q8 l.length c8) l := (((((((Kp.refl (fun i => i = k.ones[j].b) w12).put rfl _).put rfl _).put rfl _).put rfl _).put rfl _).put rfl _).row hO12 (fun g hg e => hn12 g hg (by rw [show g = k.ones[j].b from e]; exact hoD))
 clear s6 f7 f8 f9 fA fB fC z6 z7 z8 z9 zA zB zC hO12 hv12 kp12
 generalize ((((((w12.setCell ⟨k.ones[j].b, 7, none⟩ (.bool false)).setCell ⟨k.ones[j].b, 8, none⟩ (.bool false)).setCell ⟨k.ones[j].b, 9, none⟩ (.bool false)).setCell ⟨k.ones[j].b, 10, none⟩ (.bool false)).setCell ⟨k.ones[j].b, 11, none⟩ (.bool false)).setCell ⟨k.ones[j].b, 12, none⟩ (.bool false)) = w13 at hvF hO13 ⊢
 have hone : (Value.slice q8 l.length c8).oneCell' = true := rfl
 obtain ⟨vh, v5, w5, vals, hMR, D14, hg14, hvG⟩ := Dv.moreAt (k := k) (l := l) (l2 := l) (a := a2) (b := b2) hvF HGD.out.1 HGD.out.2 hone j hj hO13 (fun g hg => ⟨hn12 g hg, by have := HG.out g hg; omega⟩)
 obtain ⟨m2, c1, z1, hrun, c5, z5, ⟨a5, p5, rfl⟩, m5⟩ := hMR
 clear hvF hO13
 have hc : (w13.drew.cell? ⟨bk, 2, none⟩ = some (.pointer (some ⟨k.kb, 0, none⟩)) /\ w13.drew.cell? ⟨k.kb, 1, none⟩ = some vh) := ⟨m2, c1⟩
 refine wp_region_E (S := fun w' => w'.cell? ⟨bk, 2, none⟩ = some (.pointer (some ⟨k.kb, 0, none⟩)) /\ w'.cell? ⟨k.kb, 1, none⟩ = some vh) mixedT ?_
 refine tp 0 16 bk 0 rfl rfl (fun w' hS => ?_) hc ?_
 . obtain ⟨hS1, hS2⟩ := hS
   go_simp
 refine tp 1 16 bk 0 rfl rfl (fun w' hS => ?_) hc ?_
 . obtain ⟨hS1, hS2⟩ := hS
   go_simp
 refine tp 2 16 bk 2 rfl rfl (fun w' hS => ?_) hc ?_
 . obtain ⟨hS1, hS2⟩ := hS
   go_simp
 refine tp 3 16 k.kb 0 rfl rfl (fun w' hS => ?_) hc ?_
 . obtain ⟨hS1, hS2⟩ := hS
   go_simp
 refine tp 4 16 bk 0 rfl rfl (fun w' hS => ?_) hc ?_
 . obtain ⟨hS1, hS2⟩ := hS
   go_simp
 refine tp 5 16 bk 0 rfl rfl (fun w' hS => ?_) hc ?_
 . obtain ⟨hS1, hS2⟩ := hS
   go_simp
 refine tp 6 16 bk 2 rfl rfl (fun w' hS => ?_) hc ?_
 . obtain ⟨hS1, hS2⟩ := hS
   go_simp
 refine tp 7 16 k.kb 0 rfl rfl (fun w' hS => ?_) hc ?_
 . obtain ⟨hS1, hS2⟩ := hS
   go_simp
 refine tp 8 16 k.kb 0 rfl rfl (fun w' hS => ?_) hc ?_
 . obtain ⟨hS1, hS2⟩ := hS
   go_simp
 refine tp 9 16 k.kb 1 rfl rfl (fun w' hS => ?_) hc ?_
 . obtain ⟨hS1, hS2⟩ := hS
   go_simp
 refine tk 10 16 vh rfl rfl (fun w' hS => ?_) hc ?_
 . obtain ⟨hS1, hS2⟩ := hS
   go_simp
 refine tk 11 16 (.slice q8 l.length c8) rfl rfl (fun w' hS => ?_) hc ?_
 . obtain ⟨hS1, hS2⟩ := hS
   go_simp
 refine wpAnyE_one (i := 12) (by kernel_rfl) rfl (by rfl) (fun K hK => ?_)
 go_simp
 refine hK.out _ _ ⟨cell_below ((Below.refl _ w13.drew).alloc (Nat.le_refl _) _) m2, cell_below ((Below.refl _ w13.drew).alloc (Nat.le_refl _) _) c1⟩ ?_
 clear hK
 refine wpAnyE_one (i := 13) (by kernel_rfl) rfl (by rfl) (fun K hK => ?_)
 refine wp_append_run rfl rfl rfl hrun ?_
 refine hK.out _ _ ⟨m5, c5⟩ ?_
 clear hK
 refine wpAnyE_one (i := 14) (by kernel_rfl) rfl (by rfl) (fun K hK => ?_)
 go_simp
 refine hK.out _ _ ⟨m5, c5⟩ ?_
 clear hK
 refine wpAnyE_one (i := 15) (by kernel_rfl) rfl (by rfl) (fun K hK => ?_)
 go_simp
 refine hK.out _ _ ⟨m5, c5⟩ ?_
 clear hK
 refine wpAnyE_last (i := 16) (by kernel_rfl) rfl (by rfl) (by kernel_rfl) (by kernel_rfl) (fun K hK => ?_)
 go_simp
 refine hK.out _ _ ?_
 clear hK
 go_wp2
 go_ret
 exact ⟨rfl, D14, d1, zs.set j (k.ones[j].z, st1), _, hvG, HF.out, ht1, Nat.le_refl _, Nat.le_refl _, Nat.le_succ _⟩
end
end Go.Proofs.YtfghgmojnffgnaaGreat
