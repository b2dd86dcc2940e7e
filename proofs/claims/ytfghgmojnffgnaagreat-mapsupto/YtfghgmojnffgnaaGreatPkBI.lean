import Derived.Test.YtfghgmojnffgnaaGreatPkBF
set_option maxHeartbeats 4000000
set_option maxRecDepth 20000
namespace Go.Proofs.YtfghgmojnffgnaaGreat
open Go.RowKit Go.Maps Go.Sort
section
variable {w : World} {C : Nat -> Prop} {bk bx bd : Nat} {vy : Value} {d d1 : Dk} {zs : List (Nat × St)} {k : Kno} {st1 : St}
theorem del_7 (h : Dka w C bk bx bd vy d zs k) (hC : ∀ i, C i -> i < w.heap.size) (hI : KInv k d zs) (j : Nat) (hj : j < k.ones.length) (hz : j < zs.length) (Dd A B L old : Value) (S T : Nm) (q : Option Addr) (qc : Nat) (l0 : List Ox)
   (hl0 : l0.length <= 4194304) (hp : Opp w q l0) (hq0 : q = none -> l0 = [] /\ qc = 0) (hS : S.length <= 1048576) (hb : k.bytes <= 2097152) (ho : k.ops <= 1048576) (hsh : shutX k k.ones[j] = (0, false)) (hst : k.ones[j].stuck = true)
   (hXs : batchX d zs[j].2 [⟨S, [], true⟩] = (7, d1, st1)) (hEn : endsB (sizesK k [⟨S, [], true⟩]) d1 7 7 true = true) (hok1 : d1.Ok) (hf1 : d1.files.length <= 2) (ht1 : d1.turn <= d.turn + 1) (hF : KInv (batchK (diedK (sizesK k [⟨S, [], true⟩]) d1) j k.ones[j] [⟨S, [], true⟩] 7) d1 (zs.set j (zs[j].1, st1))) :
   Calls Tryz.prog 102 #[.pointer (some ⟨bk, 0, none⟩), .pointer (some ⟨k.ones[j].b, 0, none⟩), .agg (opC 13 Dd A B S T q l0.length qc L old)] w (Out w C bk bx bd vy d k 1 (S.length + T.length)) := by
 have hzat := hI.zat j hj hz
 obtain ⟨D0, hv0, hD0⟩ := Dv.start h
 have hA : Below w.heap.size w (w.alloc (.cells (opC 13 Dd A B S T q l0.length qc L old) 67)) := (Below.refl _ w).alloc (Nat.le_refl _) _
 have hv1 := hv0.below hA
 have hp1 := hp.below hA
 have hbo0 := block_new w (.cells (opC 13 Dd A B S T q l0.length qc L old) 67)
 obtain ⟨v8, w8, hr8, hb8, ho8⟩ := app_new _ 65 q qc l0 hl0 hp1 hq0
 have hok := hI.ok
 have hml := (hI.mok zs[j] (List.getElem_mem hz)).2
 have hwl := wtM_len zs[j].2.m
 have hs1 := hA.size
 have hs8 := hb8.size
 simp only [World.size_alloc] at hs8
 have hbo8 := block_at2 hbo0 hb8
 have hv8 := hv1.below hb8
 have hDC : ∀ i, D0 i -> i < w.heap.size := fun i s => hC i (hD0 i s)
 have hAA : Below w8.heap.size w8 (w8.alloc (.cells #[str S, str [], .bool true] 121)) := (Below.refl _ w8).alloc (Nat.le_refl _) _
 have hvA := hv8.below hAA
 have hSz := hvA.sizes (some ⟨w8.heap.size, 0, none⟩) 1 [⟨S, [], true⟩] (by simp) (op_row w8 S [] true) (fun a ha _ s => by cases ha; have := hDC _ s; simp only at this; omega) (by simp [lens]; omega) (by simp; omega)
 obtain ⟨⟨m2, -⟩, -⟩ := hvA.cells j hj
 have hboA := block_at2 hbo8 hAA
 have c0' : w8.cell? ⟨w.heap.size, 0, none⟩ = some (.int .i64 13) := cell_block hbo8
 have c4' : w8.cell? ⟨w.heap.size, 4, none⟩ = some (str S) := cell_block hbo8
 have c5' : w8.cell? ⟨w.heap.size, 5, none⟩ = some (str T) := cell_block hbo8
 have HBA : Hid ((w8.alloc (.cells #[str S, str [], .bool true] 121)).heap[w.heap.size]? = some (.cells (opC 13 Dd A B S T q l0.length qc L old) 67)) := hboA
 have HOO : Hid (OwnO (w8.alloc (.cells #[str S, str [], .bool true] 121)) 0 (.slice (some ⟨w8.heap.size, 0, none⟩) 1 1) [⟨S, [], true⟩]) := op_own w8 S [] true
 have HI : Hid (KInv k d zs) := hI
 have HX : Hid (batchX d zs[j].2 [⟨S, [], true⟩] = (7, d1, st1)) := hXs
 have HEN : Hid (endsB (sizesK k [⟨S, [], true⟩]) d1 7 7 true = true) := hEn
 have HF : Hid (KInv (batchK (diedK (sizesK k [⟨S, [], true⟩]) d1) j k.ones[j] [⟨S, [], true⟩] 7) d1 (zs.set j (zs[j].1, st1))) := hF
 have HGD : Hid ((∀ b ∈ k.h, batchOk b = true) /\ wtL k.h.flatten <= 33554432) := by
   have hw := hI.wt
   unfold cost at hw
   exact ⟨hI.good, by omega⟩
 clear h hp hp1 hv0 hv1 hv8 hvA hbo0 hbo8 hboA ho8 hXs hI hA hAA hEn hF
 unfold opC at *
 clear hb8
 go_enter Tryz.func102, Tryz.ntmps102
 go_wp2_with (first
   | (at_builtin; refine wpList_bi_run rfl _ _ _ rfl hr8 ?_; clear hr8)
   | (go_at_call 136; refine hSz.mono ?_; rintro e w9 ⟨rfl, D9, hg9, hv9, kp9⟩; clear hSz m2))
 have hns : ¬ D0 w.heap.size := fun s => by have := hDC _ s; omega
 have hns8 : ¬ D0 w8.heap.size := fun s => by have := hDC _ s; omega
 have hbo9 := kp9.at HBA.out hns
 have hsz9 := kp9.size
 simp only [World.size_alloc] at hsz9
 have hn8 : ¬ D9 w8.heap.size := fun s => by
   rcases hg9 _ s with s | s
   . exact hns8 s
   . simp at s; omega
 have HO9 : Hid (OwnO w9 0 (.slice (some ⟨w8.heap.size, 0, none⟩) 1 1) [⟨S, [], true⟩]) := kp9.row HOO.out (fun g hg e => by cases hg; exact hns8 e)
 obtain ⟨-, o0, -⟩ := (hv9.cells j hj).1
 replace o0 : w9.cell? ⟨k.ones[j].b, 0, none⟩ = some (.pointer (some ⟨k.ones[j].z, 0, none⟩)) := o0
 have hPut := hv9.drew.delete j hz S hok.1 (by omega) (by unfold cost at hml; omega) (by omega)
 rw [HX.out, hzat] at hPut
 simp only at hPut
 have b4 : w9.cell? ⟨w.heap.size, 4, none⟩ = some (str S) := cell_block hbo9
 have b5 : w9.cell? ⟨w.heap.size, 5, none⟩ = some (str T) := cell_block hbo9
 clear hv9 kp9 hbo9
 go_still_tail 6, mixedT
 go_wp2_with (go_at_call 137; refine hPut.mono ?_; rintro e w10 ⟨rfl, D10, hg10, hv10, kp10⟩; clear hPut o0 b4 b5)
 have hsz10 := kp10.size
 replace hsz10 : w9.heap.size <= w10.heap.size := hsz10
 have hn10 : ¬ D10 w8.heap.size := fun s => by
   rcases hg10 _ s with s | s
   . exact hn8 s
   . replace s : w9.heap.size <= w8.heap.size := s
     omega
 have HO10 : Hid (OwnO w10 0 (.slice (some ⟨w8.heap.size, 0, none⟩) 1 1) [⟨S, [], true⟩]) := kp10.row (show OwnO w9.drew 0 (.slice (some ⟨w8.heap.size, 0, none⟩) 1 1) [⟨S, [], true⟩] from HO9.out) (fun g hg e => by cases hg; exact hn8 e)
 obtain ⟨q10, c10, e10, hop10, -⟩ := OwnO.opp HO10.out
 cases e10
 have hSh : Calls Tryz.prog 103 #[.pointer (some ⟨bk, 0, none⟩), .pointer (some ⟨k.ones[j].b, 0, none⟩)] w10 fun e w' => e = .returned (.tuple #[.int .i64 0, .bool false]) /\ w10 = w' := by
   have h9 := shut_any hv10 j hj
   have HS : shutX (sizesK k [⟨S, [], true⟩]) (sizesK k [⟨S, [], true⟩]).ones[j] = (0, false) := hsh
   rw [HS] at h9
   exact h9
 have hYb := yBatch_any (some ⟨w8.heap.size, 0, none⟩) 1 [⟨S, [], true⟩] w10 (by simp) (fun o ho => by obtain rfl := List.mem_singleton.1 ho; first | (simp only; omega) | (simp only [List.length_nil]; omega)) hop10
 replace hYb : Calls Tryz.prog 140 #[.slice (some ⟨w8.heap.size, 0, none⟩) 1 1] w10 _ := hYb
 obtain ⟨-, -, o6, -⟩ := (hv10.cells j hj).1
 replace o6 : w10.cell? ⟨k.ones[j].b, 6, none⟩ = some (.bool true) := o6.trans (congrArg (fun b => some (Value.bool b)) hst)
 have hEd := ends_any hv10 hok1 (by omega) (by simp [sizesK, lens] <;> omega) (by simp [sizesK]; omega) 7 7 true
 rw [HEN.out] at hEd
 skip
 clear hok1
 have hk2 := diedK_eq (sizesK k [⟨S, [], true⟩]) d1
 generalize (diedK (sizesK k [⟨S, [], true⟩]) d1).dead = a2 at hk2
 generalize (diedK (sizesK k [⟨S, [], true⟩]) d1).armed = b2 at hk2
 rw [hk2] at hEd
 replace HF : Hid (KInv (batchK ({ sizesK k [⟨S, [], true⟩] with dead := a2, armed := b2 }) j k.ones[j] [⟨S, [], true⟩] 7) d1 (zs.set j (k.ones[j].z, st1))) := by
   have := HF.out
   rw [hk2, hzat] at this
   exact this
 clear hk2
 go_wp2_with (first
   | (go_at_call 103; refine hSh.mono ?_; rintro e w11 ⟨rfl, rfl⟩; clear hSh)
   | (go_at_call 140; refine hYb.mono ?_; rintro e w11 ⟨rfl, rfl⟩; clear hYb)
   | (go_at_call 98; refine hEd.mono ?_; rintro e w12 ⟨rfl, D12, hg12, hv12, kp12⟩; clear hEd o6; obtain ⟨⟨-, -, s6, sz⟩, -, -, sf, -⟩ := hv12.cells j hj; replace sz : ∀ c, w12.frozen? ⟨k.ones[j].b, c, none⟩ = false := sz; replace s6 : w12.cell? ⟨k.ones[j].b, 6, none⟩ = some (.bool k.ones[j].stuck) := s6; replace sf : ∀ c, 7 <= c -> c <= 12 -> ∃ u, w12.cell? ⟨k.ones[j].b, c, none⟩ = some u := sf; obtain ⟨u7, f7⟩ := sf 7 (by omega) (by omega); obtain ⟨u8, f8⟩ := sf 8 (by omega) (by omega); obtain ⟨u9, f9⟩ := sf 9 (by omega) (by omega); obtain ⟨uA, fA⟩ := sf 10 (by omega) (by omega); obtain ⟨uB, fB⟩ := sf 11 (by omega) (by omega); obtain ⟨uC, fC⟩ := sf 12 (by omega) (by omega); have z6 := sz 6; have z7 := sz 7; have z8 := sz 8; have z9 := sz 9; have zA := sz 10; have zB := sz 11; have zC := sz 12; clear sf sz))
 go_ret
 have hvF := (((((hv12.flag j hj 7 (by omega) (.bool false)).flag j hj 8 (by omega) (.bool false)).flag j hj 9 (by omega) (.bool false)).flag j hj 10 (by omega) (.bool false)).flag j hj 11 (by omega) (.bool false)).flag j hj 12 (by omega) (.bool false)
 exact ⟨rfl, D12, d1, zs.set j (k.ones[j].z, st1), { sizesK k [⟨S, [], true⟩] with dead := a2, armed := b2 }, hvF, HF.out, ht1, (by simp [sizesK, lens] <;> omega), (by simp [sizesK]), Nat.le_succ _⟩
theorem del_1 (h : Dka w C bk bx bd vy d zs k) (hC : ∀ i, C i -> i < w.heap.size) (hI : KInv k d zs) (j : Nat) (hj : j < k.ones.length) (hz : j < zs.length) (Dd A B L old : Value) (S T : Nm) (q : Option Addr) (qc : Nat) (l0 : List Ox)
   (hl0 : l0.length <= 4194304) (hp : Opp w q l0) (hq0 : q = none -> l0 = [] /\ qc = 0) (hS : S.length <= 1048576) (hb : k.bytes <= 2097152) (ho : k.ops <= 1048576) (hsh : shutX k k.ones[j] = (0, false)) (hst : k.ones[j].stuck = false) (hbo : batchOk [⟨S, [], true⟩] = false)
   (hXs : batchX d zs[j].2 [⟨S, [], true⟩] = (1, d1, st1)) (hEn : endsB (sizesK k [⟨S, [], true⟩]) d1 1 1 true = true) (hok1 : d1.Ok) (hf1 : d1.files.length <= 2) (ht1 : d1.turn <= d.turn + 1) (hF : KInv (batchK (diedK (sizesK k [⟨S, [], true⟩]) d1) j k.ones[j] [⟨S, [], true⟩] 1) d1 (zs.set j (zs[j].1, st1))) :
   Calls Tryz.prog 102 #[.pointer (some ⟨bk, 0, none⟩), .pointer (some ⟨k.ones[j].b, 0, none⟩), .agg (opC 13 Dd A B S T q l0.length qc L old)] w (Out w C bk bx bd vy d k 1 (S.length + T.length)) := by
 have hzat := hI.zat j hj hz
 obtain ⟨D0, hv0, hD0⟩ := Dv.start h
 have hA : Below w.heap.size w (w.alloc (.cells (opC 13 Dd A B S T q l0.length qc L old) 67)) := (Below.refl _ w).alloc (Nat.le_refl _) _
 have hv1 := hv0.below hA
 have hp1 := hp.below hA
 have hbo0 := block_new w (.cells (opC 13 Dd A B S T q l0.length qc L old) 67)
 obtain ⟨v8, w8, hr8, hb8, ho8⟩ := app_new _ 65 q qc l0 hl0 hp1 hq0
 have hok := hI.ok
 have hml := (hI.mok zs[j] (List.getElem_mem hz)).2
 have hwl := wtM_len zs[j].2.m
 have hs1 := hA.size
 have hs8 := hb8.size
 simp only [World.size_alloc] at hs8
 have hbo8 := block_at2 hbo0 hb8
 have hv8 := hv1.below hb8
 have hDC : ∀ i, D0 i -> i < w.heap.size := fun i s => hC i (hD0 i s)
 have hAA : Below w8.heap.size w8 (w8.alloc (.cells #[str S, str [], .bool true] 121)) := (Below.refl _ w8).alloc (Nat.le_refl _) _
 have hvA := hv8.below hAA
 have hSz := hvA.sizes (some ⟨w8.heap.size, 0, none⟩) 1 [⟨S, [], true⟩] (by simp) (op_row w8 S [] true) (fun a ha _ s => by cases ha; have := hDC _ s; simp only at this; omega) (by simp [lens]; omega) (by simp; omega)
 obtain ⟨⟨m2, -⟩, -⟩ := hvA.cells j hj
 have hboA := block_at2 hbo8 hAA
 have c0' : w8.cell? ⟨w.heap.size, 0, none⟩ = some (.int .i64 13) := cell_block hbo8
 have c4' : w8.cell? ⟨w.heap.size, 4, none⟩ = some (str S) := cell_block hbo8
 have c5' : w8.cell? ⟨w.heap.size, 5, none⟩ = some (str T) := cell_block hbo8
 have HBA : Hid ((w8.alloc (.cells #[str S, str [], .bool true] 121)).heap[w.heap.size]? = some (.cells (opC 13 Dd A B S T q l0.length qc L old) 67)) := hboA
 have HOO : Hid (OwnO (w8.alloc (.cells #[str S, str [], .bool true] 121)) 0 (.slice (some ⟨w8.heap.size, 0, none⟩) 1 1) [⟨S, [], true⟩]) := op_own w8 S [] true
 have HI : Hid (KInv k d zs) := hI
 have HX : Hid (batchX d zs[j].2 [⟨S, [], true⟩] = (1, d1, st1)) := hXs
 have HEN : Hid (endsB (sizesK k [⟨S, [], true⟩]) d1 1 1 true = true) := hEn
 have HF : Hid (KInv (batchK (diedK (sizesK k [⟨S, [], true⟩]) d1) j k.ones[j] [⟨S, [], true⟩] 1) d1 (zs.set j (zs[j].1, st1))) := hF
 have HGD : Hid ((∀ b ∈ k.h, batchOk b = true) /\ wtL k.h.flatten <= 33554432) := by
   have hw := hI.wt
   unfold cost at hw
   exact ⟨hI.good, by omega⟩
 clear h hp hp1 hv0 hv1 hv8 hvA hbo0 hbo8 hboA ho8 hXs hI hA hAA hEn hF
 unfold opC at *
 clear hb8
 go_enter Tryz.func102, Tryz.ntmps102
 go_wp2_with (first
   | (at_builtin; refine wpList_bi_run rfl _ _ _ rfl hr8 ?_; clear hr8)
   | (go_at_call 136; refine hSz.mono ?_; rintro e w9 ⟨rfl, D9, hg9, hv9, kp9⟩; clear hSz m2))
 have hns : ¬ D0 w.heap.size := fun s => by have := hDC _ s; omega
 have hns8 : ¬ D0 w8.heap.size := fun s => by have := hDC _ s; omega
 have hbo9 := kp9.at HBA.out hns
 have hsz9 := kp9.size
 simp only [World.size_alloc] at hsz9
 have hn8 : ¬ D9 w8.heap.size := fun s => by
   rcases hg9 _ s with s | s
   . exact hns8 s
   . simp at s; omega
 have HO9 : Hid (OwnO w9 0 (.slice (some ⟨w8.heap.size, 0, none⟩) 1 1) [⟨S, [], true⟩]) := kp9.row HOO.out (fun g hg e => by cases hg; exact hns8 e)
 obtain ⟨-, o0, -⟩ := (hv9.cells j hj).1
 replace o0 : w9.cell? ⟨k.ones[j].b, 0, none⟩ = some (.pointer (some ⟨k.ones[j].z, 0, none⟩)) := o0
 have hPut := hv9.drew.delete j hz S hok.1 (by omega) (by unfold cost at hml; omega) (by omega)
 rw [HX.out, hzat] at hPut
 simp only at hPut
 have b4 : w9.cell? ⟨w.heap.size, 4, none⟩ = some (str S) := cell_block hbo9
 have b5 : w9.cell? ⟨w.heap.size, 5, none⟩ = some (str T) := cell_block hbo9
 clear hv9 kp9 hbo9
 go_still_tail 6, mixedT
 go_wp2_with (go_at_call 137; refine hPut.mono ?_; rintro e w10 ⟨rfl, D10, hg10, hv10, kp10⟩; clear hPut o0 b4 b5)
 have hsz10 := kp10.size
 replace hsz10 : w9.heap.size <= w10.heap.size := hsz10
 have hn10 : ¬ D10 w8.heap.size := fun s => by
   rcases hg10 _ s with s | s
   . exact hn8 s
   . replace s : w9.heap.size <= w8.heap.size := s
     omega
 have HO10 : Hid (OwnO w10 0 (.slice (some ⟨w8.heap.size, 0, none⟩) 1 1) [⟨S, [], true⟩]) := kp10.row (show OwnO w9.drew 0 (.slice (some ⟨w8.heap.size, 0, none⟩) 1 1) [⟨S, [], true⟩] from HO9.out) (fun g hg e => by cases hg; exact hn8 e)
 obtain ⟨q10, c10, e10, hop10, -⟩ := OwnO.opp HO10.out
 cases e10
 have hSh : Calls Tryz.prog 103 #[.pointer (some ⟨bk, 0, none⟩), .pointer (some ⟨k.ones[j].b, 0, none⟩)] w10 fun e w' => e = .returned (.tuple #[.int .i64 0, .bool false]) /\ w10 = w' := by
   have h9 := shut_any hv10 j hj
   have HS : shutX (sizesK k [⟨S, [], true⟩]) (sizesK k [⟨S, [], true⟩]).ones[j] = (0, false) := hsh
   rw [HS] at h9
   exact h9
 have hYb := yBatch_any (some ⟨w8.heap.size, 0, none⟩) 1 [⟨S, [], true⟩] w10 (by simp) (fun o ho => by obtain rfl := List.mem_singleton.1 ho; first | (simp only; omega) | (simp only [List.length_nil]; omega)) hop10
 replace hYb : Calls Tryz.prog 140 #[.slice (some ⟨w8.heap.size, 0, none⟩) 1 1] w10 _ := hYb
 obtain ⟨-, -, o6, -⟩ := (hv10.cells j hj).1
 replace o6 : w10.cell? ⟨k.ones[j].b, 6, none⟩ = some (.bool false) := o6.trans (congrArg (fun b => some (Value.bool b)) hst)
 have hEd := ends_any hv10 hok1 (by omega) (by simp [sizesK, lens] <;> omega) (by simp [sizesK]; omega) 1 1 true
 rw [HEN.out] at hEd
 rw [hbo] at hYb
 clear hok1
 have hk2 := diedK_eq (sizesK k [⟨S, [], true⟩]) d1
 generalize (diedK (sizesK k [⟨S, [], true⟩]) d1).dead = a2 at hk2
 generalize (diedK (sizesK k [⟨S, [], true⟩]) d1).armed = b2 at hk2
 rw [hk2] at hEd
 replace HF : Hid (KInv (batchK ({ sizesK k [⟨S, [], true⟩] with dead := a2, armed := b2 }) j k.ones[j] [⟨S, [], true⟩] 1) d1 (zs.set j (k.ones[j].z, st1))) := by
   have := HF.out
   rw [hk2, hzat] at this
   exact this
 clear hk2
 go_wp2_with (first
   | (go_at_call 103; refine hSh.mono ?_; rintro e w11 ⟨rfl, rfl⟩; clear hSh)
   | (go_at_call 140; refine hYb.mono ?_; rintro e w11 ⟨rfl, rfl⟩; clear hYb)
   | (go_at_call 98; refine hEd.mono ?_; rintro e w12 ⟨rfl, D12, hg12, hv12, kp12⟩; clear hEd o6; obtain ⟨⟨-, -, s6, sz⟩, -, -, sf, -⟩ := hv12.cells j hj; replace sz : ∀ c, w12.frozen? ⟨k.ones[j].b, c, none⟩ = false := sz; replace s6 : w12.cell? ⟨k.ones[j].b, 6, none⟩ = some (.bool k.ones[j].stuck) := s6; replace sf : ∀ c, 7 <= c -> c <= 12 -> ∃ u, w12.cell? ⟨k.ones[j].b, c, none⟩ = some u := sf; obtain ⟨u7, f7⟩ := sf 7 (by omega) (by omega); obtain ⟨u8, f8⟩ := sf 8 (by omega) (by omega); obtain ⟨u9, f9⟩ := sf 9 (by omega) (by omega); obtain ⟨uA, fA⟩ := sf 10 (by omega) (by omega); obtain ⟨uB, fB⟩ := sf 11 (by omega) (by omega); obtain ⟨uC, fC⟩ := sf 12 (by omega) (by omega); have z6 := sz 6; have z7 := sz 7; have z8 := sz 8; have z9 := sz 9; have zA := sz 10; have zB := sz 11; have zC := sz 12; clear sf sz))
 go_ret
 have hvF := (((((hv12.flag j hj 7 (by omega) (.bool false)).flag j hj 8 (by omega) (.bool false)).flag j hj 9 (by omega) (.bool false)).flag j hj 10 (by omega) (.bool false)).flag j hj 11 (by omega) (.bool false)).flag j hj 12 (by omega) (.bool false)
 exact ⟨rfl, D12, d1, zs.set j (k.ones[j].z, st1), { sizesK k [⟨S, [], true⟩] with dead := a2, armed := b2 }, hvF, HF.out, ht1, (by simp [sizesK, lens] <;> omega), (by simp [sizesK]), Nat.le_succ _⟩
theorem del_3 (h : Dka w C bk bx bd vy d zs k) (hC : ∀ i, C i -> i < w.heap.size) (hI : KInv k d zs) (j : Nat) (hj : j < k.ones.length) (hz : j < zs.length) (Dd A B L old : Value) (S T : Nm) (q : Option Addr) (qc : Nat) (l0 : List Ox)
   (hl0 : l0.length <= 4194304) (hp : Opp w q l0) (hq0 : q = none -> l0 = [] /\ qc = 0) (hS : S.length <= 1048576) (hb : k.bytes <= 2097152) (ho : k.ops <= 1048576) (hsh : shutX k k.ones[j] = (0, false)) (hst : k.ones[j].stuck = false) (hbo : batchOk [⟨S, [], true⟩] = true)
   (hXs : batchX d zs[j].2 [⟨S, [], true⟩] = (3, d1, st1)) (hEn : endsB (sizesK k [⟨S, [], true⟩]) d1 3 0 true = true) (hok1 : d1.Ok) (hf1 : d1.files.length <= 2) (ht1 : d1.turn <= d.turn + 1) (hF : KInv (batchK (diedK (sizesK k [⟨S, [], true⟩]) d1) j k.ones[j] [⟨S, [], true⟩] 3) d1 (zs.set j (zs[j].1, st1))) :
   Calls Tryz.prog 102 #[.pointer (some ⟨bk, 0, none⟩), .pointer (some ⟨k.ones[j].b, 0, none⟩), .agg (opC 13 Dd A B S T q l0.length qc L old)] w (Out w C bk bx bd vy d k 1 (S.length + T.length)) := by
 have hzat := hI.zat j hj hz
 obtain ⟨D0, hv0, hD0⟩ := Dv.start h
 have hA : Below w.heap.size w (w.alloc (.cells (opC 13 Dd A B S T q l0.length qc L old) 67)) := (Below.refl _ w).alloc (Nat.le_refl _) _
 have hv1 := hv0.below hA
 have hp1 := hp.below hA
 have hbo0 := block_new w (.cells (opC 13 Dd A B S T q l0.length qc L old) 67)
 obtain ⟨v8, w8, hr8, hb8, ho8⟩ := app_new _ 65 q qc l0 hl0 hp1 hq0
 have hok := hI.ok
 have hml := (hI.mok zs[j] (List.getElem_mem hz)).2
 have hwl := wtM_len zs[j].2.m
 have hs1 := hA.size
 have hs8 := hb8.size
 simp only [World.size_alloc] at hs8
 have hbo8 := block_at2 hbo0 hb8
 have hv8 := hv1.below hb8
 have hDC : ∀ i, D0 i -> i < w.heap.size := fun i s => hC i (hD0 i s)
 have hAA : Below w8.heap.size w8 (w8.alloc (.cells #[str S, str [], .bool true] 121)) := (Below.refl _ w8).alloc (Nat.le_refl _) _
 have hvA := hv8.below hAA
 have hSz := hvA.sizes (some ⟨w8.heap.size, 0, none⟩) 1 [⟨S, [], true⟩] (by simp) (op_row w8 S [] true) (fun a ha _ s => by cases ha; have := hDC _ s; simp only at this; omega) (by simp [lens]; omega) (by simp; omega)
 obtain ⟨⟨m2, -⟩, -⟩ := hvA.cells j hj
 have hboA := block_at2 hbo8 hAA
 have c0' : w8.cell? ⟨w.heap.size, 0, none⟩ = some (.int .i64 13) := cell_block hbo8
 have c4' : w8.cell? ⟨w.heap.size, 4, none⟩ = some (str S) := cell_block hbo8
 have c5' : w8.cell? ⟨w.heap.size, 5, none⟩ = some (str T) := cell_block hbo8
 have HBA : Hid ((w8.alloc (.cells #[str S, str [], .bool true] 121)).heap[w.heap.size]? = some (.cells (opC 13 Dd A B S T q l0.length qc L old) 67)) := hboA
 have HOO : Hid (OwnO (w8.alloc (.cells #[str S, str [], .bool true] 121)) 0 (.slice (some ⟨w8.heap.size, 0, none⟩) 1 1) [⟨S, [], true⟩]) := op_own w8 S [] true
 have HI : Hid (KInv k d zs) := hI
 have HX : Hid (batchX d zs[j].2 [⟨S, [], true⟩] = (3, d1, st1)) := hXs
 have HEN : Hid (endsB (sizesK k [⟨S, [], true⟩]) d1 3 0 true = true) := hEn
 have HF : Hid (KInv (batchK (diedK (sizesK k [⟨S, [], true⟩]) d1) j k.ones[j] [⟨S, [], true⟩] 3) d1 (zs.set j (zs[j].1, st1))) := hF
 have HGD : Hid ((∀ b ∈ k.h, batchOk b = true) /\ wtL k.h.flatten <= 33554432) := by
   have hw := hI.wt
   unfold cost at hw
   exact ⟨hI.good, by omega⟩
 clear h hp hp1 hv0 hv1 hv8 hvA hbo0 hbo8 hboA ho8 hXs hI hA hAA hEn hF
 unfold opC at *
 clear hb8
 go_enter Tryz.func102, Tryz.ntmps102
 go_wp2_with (first
   | (at_builtin; refine wpList_bi_run rfl _ _ _ rfl hr8 ?_; clear hr8)
   | (go_at_call 136; refine hSz.mono ?_; rintro e w9 ⟨rfl, D9, hg9, hv9, kp9⟩; clear hSz m2))
 have hns : ¬ D0 w.heap.size := fun s => by have := hDC _ s; omega
 have hns8 : ¬ D0 w8.heap.size := fun s => by have := hDC _ s; omega
 have hbo9 := kp9.at HBA.out hns
 have hsz9 := kp9.size
 simp only [World.size_alloc] at hsz9
 have hn8 : ¬ D9 w8.heap.size := fun s => by
   rcases hg9 _ s with s | s
   . exact hns8 s
   . simp at s; omega
 have HO9 : Hid (OwnO w9 0 (.slice (some ⟨w8.heap.size, 0, none⟩) 1 1) [⟨S, [], true⟩]) := kp9.row HOO.out (fun g hg e => by cases hg; exact hns8 e)
 obtain ⟨-, o0, -⟩ := (hv9.cells j hj).1
 replace o0 : w9.cell? ⟨k.ones[j].b, 0, none⟩ = some (.pointer (some ⟨k.ones[j].z, 0, none⟩)) := o0
 have hPut := hv9.drew.delete j hz S hok.1 (by omega) (by unfold cost at hml; omega) (by omega)
 rw [HX.out, hzat] at hPut
 simp only at hPut
 have b4 : w9.cell? ⟨w.heap.size, 4, none⟩ = some (str S) := cell_block hbo9
 have b5 : w9.cell? ⟨w.heap.size, 5, none⟩ = some (str T) := cell_block hbo9
 clear hv9 kp9 hbo9
 go_still_tail 6, mixedT
 go_wp2_with (go_at_call 137; refine hPut.mono ?_; rintro e w10 ⟨rfl, D10, hg10, hv10, kp10⟩; clear hPut o0 b4 b5)
 have hsz10 := kp10.size
 replace hsz10 : w9.heap.size <= w10.heap.size := hsz10
 have hn10 : ¬ D10 w8.heap.size := fun s => by
   rcases hg10 _ s with s | s
   . exact hn8 s
   . replace s : w9.heap.size <= w8.heap.size := s
     omega
 have HO10 : Hid (OwnO w10 0 (.slice (some ⟨w8.heap.size, 0, none⟩) 1 1) [⟨S, [], true⟩]) := kp10.row (show OwnO w9.drew 0 (.slice (some ⟨w8.heap.size, 0, none⟩) 1 1) [⟨S, [], true⟩] from HO9.out) (fun g hg e => by cases hg; exact hn8 e)
 obtain ⟨q10, c10, e10, hop10, -⟩ := OwnO.opp HO10.out
 cases e10
 have hSh : Calls Tryz.prog 103 #[.pointer (some ⟨bk, 0, none⟩), .pointer (some ⟨k.ones[j].b, 0, none⟩)] w10 fun e w' => e = .returned (.tuple #[.int .i64 0, .bool false]) /\ w10 = w' := by
   have h9 := shut_any hv10 j hj
   have HS : shutX (sizesK k [⟨S, [], true⟩]) (sizesK k [⟨S, [], true⟩]).ones[j] = (0, false) := hsh
   rw [HS] at h9
   exact h9
 have hYb := yBatch_any (some ⟨w8.heap.size, 0, none⟩) 1 [⟨S, [], true⟩] w10 (by simp) (fun o ho => by obtain rfl := List.mem_singleton.1 ho; first | (simp only; omega) | (simp only [List.length_nil]; omega)) hop10
 replace hYb : Calls Tryz.prog 140 #[.slice (some ⟨w8.heap.size, 0, none⟩) 1 1] w10 _ := hYb
 obtain ⟨-, -, o6, -⟩ := (hv10.cells j hj).1
 replace o6 : w10.cell? ⟨k.ones[j].b, 6, none⟩ = some (.bool false) := o6.trans (congrArg (fun b => some (Value.bool b)) hst)
 have hEd := ends_any hv10 hok1 (by omega) (by simp [sizesK, lens] <;> omega) (by simp [sizesK]; omega) 3 0 true
 rw [HEN.out] at hEd
 rw [hbo] at hYb
 clear hok1
 have hk2 := diedK_eq (sizesK k [⟨S, [], true⟩]) d1
 generalize (diedK (sizesK k [⟨S, [], true⟩]) d1).dead = a2 at hk2
 generalize (diedK (sizesK k [⟨S, [], true⟩]) d1).armed = b2 at hk2
 rw [hk2] at hEd
 replace HF : Hid (KInv (batchK ({ sizesK k [⟨S, [], true⟩] with dead := a2, armed := b2 }) j k.ones[j] [⟨S, [], true⟩] 3) d1 (zs.set j (k.ones[j].z, st1))) := by
   have := HF.out
   rw [hk2, hzat] at this
   exact this
 clear hk2
 go_wp2_with (first
   | (go_at_call 103; refine hSh.mono ?_; rintro e w11 ⟨rfl, rfl⟩; clear hSh)
   | (go_at_call 140; refine hYb.mono ?_; rintro e w11 ⟨rfl, rfl⟩; clear hYb)
   | (go_at_call 98; refine hEd.mono ?_; rintro e w12 ⟨rfl, D12, hg12, hv12, kp12⟩; clear hEd o6; obtain ⟨⟨-, -, s6, sz⟩, -, -, sf, -⟩ := hv12.cells j hj; replace sz : ∀ c, w12.frozen? ⟨k.ones[j].b, c, none⟩ = false := sz; replace s6 : w12.cell? ⟨k.ones[j].b, 6, none⟩ = some (.bool k.ones[j].stuck) := s6; replace sf : ∀ c, 7 <= c -> c <= 12 -> ∃ u, w12.cell? ⟨k.ones[j].b, c, none⟩ = some u := sf; obtain ⟨u7, f7⟩ := sf 7 (by omega) (by omega); obtain ⟨u8, f8⟩ := sf 8 (by omega) (by omega); obtain ⟨u9, f9⟩ := sf 9 (by omega) (by omega); obtain ⟨uA, fA⟩ := sf 10 (by omega) (by omega); obtain ⟨uB, fB⟩ := sf 11 (by omega) (by omega); obtain ⟨uC, fC⟩ := sf 12 (by omega) (by omega); have z6 := sz 6; have z7 := sz 7; have z8 := sz 8; have z9 := sz 9; have zA := sz 10; have zB := sz 11; have zC := sz 12; clear sf sz))
 go_ret
 have hvF := ((((((hv12.flag j hj 7 (by omega) (.bool false)).flag j hj 8 (by omega) (.bool false)).flag j hj 9 (by omega) (.bool false)).flag j hj 10 (by omega) (.bool false)).flag j hj 11 (by omega) (.bool false)).flag j hj 12 (by omega) (.bool false)).stuckAt j hj
 exact ⟨rfl, D12, d1, zs.set j (k.ones[j].z, st1), _, hvF, HF.out, ht1, (by simp [sizesK, lens] <;> omega), (by simp [sizesK]), (by simp [sizesK])⟩
theorem del_4 (h : Dka w C bk bx bd vy d zs k) (hC : ∀ i, C i -> i < w.heap.size) (hI : KInv k d zs) (j : Nat) (hj : j < k.ones.length) (hz : j < zs.length) (Dd A B L old : Value) (S T : Nm) (q : Option Addr) (qc : Nat) (l0 : List Ox)
   (hl0 : l0.length <= 4194304) (hp : Opp w q l0) (hq0 : q = none -> l0 = [] /\ qc = 0) (hS : S.length <= 1048576) (hb : k.bytes <= 2097152) (ho : k.ops <= 1048576) (hsh : shutX k k.ones[j] = (0, false)) (hst : k.ones[j].stuck = false) (hbo : batchOk [⟨S, [], true⟩] = true)
   (hXs : batchX d zs[j].2 [⟨S, [], true⟩] = (4, d1, st1)) (hEn : endsB (sizesK k [⟨S, [], true⟩]) d1 4 0 true = true) (hok1 : d1.Ok) (hf1 : d1.files.length <= 2) (ht1 : d1.turn <= d.turn + 1) (hF : KInv (batchK (diedK (sizesK k [⟨S, [], true⟩]) d1) j k.ones[j] [⟨S, [], true⟩] 4) d1 (zs.set j (zs[j].1, st1))) :
   Calls Tryz.prog 102 #[.pointer (some ⟨bk, 0, none⟩), .pointer (some ⟨k.ones[j].b, 0, none⟩), .agg (opC 13 Dd A B S T q l0.length qc L old)] w (Out w C bk bx bd vy d k 1 (S.length + T.length)) := by
 have hzat := hI.zat j hj hz
 obtain ⟨D0, hv0, hD0⟩ := Dv.start h
 have hA : Below w.heap.size w (w.alloc (.cells (opC 13 Dd A B S T q l0.length qc L old) 67)) := (Below.refl _ w).alloc (Nat.le_refl _) _
 have hv1 := hv0.below hA
 have hp1 := hp.below hA
 have hbo0 := block_new w (.cells (opC 13 Dd A B S T q l0.length qc L old) 67)
 obtain ⟨v8, w8, hr8, hb8, ho8⟩ := app_new _ 65 q qc l0 hl0 hp1 hq0
 have hok := hI.ok
 have hml := (hI.mok zs[j] (List.getElem_mem hz)).2
 have hwl := wtM_len zs[j].2.m
 have hs1 := hA.size
 have hs8 := hb8.size
 simp only [World.size_alloc] at hs8
 have hbo8 := block_at2 hbo0 hb8
 have hv8 := hv1.below hb8
 have hDC : ∀ i, D0 i -> i < w.heap.size := fun i s => hC i (hD0 i s)
 have hAA : Below w8.heap.size w8 (w8.alloc (.cells #[str S, str [], .bool true] 121)) := (Below.refl _ w8).alloc (Nat.le_refl _) _
 have hvA := hv8.below hAA
 have hSz := hvA.sizes (some ⟨w8.heap.size, 0, none⟩) 1 [⟨S, [], true⟩] (by simp) (op_row w8 S [] true) (fun a ha _ s => by cases ha; have := hDC _ s; simp only at this; omega) (by simp [lens]; omega) (by simp; omega)
 obtain ⟨⟨m2, -⟩, -⟩ := hvA.cells j hj
 have hboA := block_at2 hbo8 hAA
 have c0' : w8.cell? ⟨w.heap.size, 0, none⟩ = some (.int .i64 13) := cell_block hbo8
 have c4' : w8.cell? ⟨w.heap.size, 4, none⟩ = some (str S) := cell_block hbo8
 have c5' : w8.cell? ⟨w.heap.size, 5, none⟩ = some (str T) := cell_block hbo8
 have HBA : Hid ((w8.alloc (.cells #[str S, str [], .bool true] 121)).heap[w.heap.size]? = some (.cells (opC 13 Dd A B S T q l0.length qc L old) 67)) := hboA
 have HOO : Hid (OwnO (w8.alloc (.cells #[str S, str [], .bool true] 121)) 0 (.slice (some ⟨w8.heap.size, 0, none⟩) 1 1) [⟨S, [], true⟩]) := op_own w8 S [] true
 have HI : Hid (KInv k d zs) := hI
 have HX : Hid (batchX d zs[j].2 [⟨S, [], true⟩] = (4, d1, st1)) := hXs
 have HEN : Hid (endsB (sizesK k [⟨S, [], true⟩]) d1 4 0 true = true) := hEn
 have HF : Hid (KInv (batchK (diedK (sizesK k [⟨S, [], true⟩]) d1) j k.ones[j] [⟨S, [], true⟩] 4) d1 (zs.set j (zs[j].1, st1))) := hF
 have HGD : Hid ((∀ b ∈ k.h, batchOk b = true) /\ wtL k.h.flatten <= 33554432) := by
   have hw := hI.wt
   unfold cost at hw
   exact ⟨hI.good, by omega⟩
 clear h hp hp1 hv0 hv1 hv8 hvA hbo0 hbo8 hboA ho8 hXs hI hA hAA hEn hF
 unfold opC at *
 clear hb8
 go_enter Tryz.func102, Tryz.ntmps102
 go_wp2_with (first
   | (at_builtin; refine wpList_bi_run rfl _ _ _ rfl hr8 ?_; clear hr8)
   | (go_at_call 136; refine hSz.mono ?_; rintro e w9 ⟨rfl, D9, hg9, hv9, kp9⟩; clear hSz m2))
 have hns : ¬ D0 w.heap.size := fun s => by have := hDC _ s; omega
 have hns8 : ¬ D0 w8.heap.size := fun s => by have := hDC _ s; omega
 have hbo9 := kp9.at HBA.out hns
 have hsz9 := kp9.size
 simp only [World.size_alloc] at hsz9
 have hn8 : ¬ D9 w8.heap.size := fun s => by
   rcases hg9 _ s with s | s
   . exact hns8 s
   . simp at s; omega
 have HO9 : Hid (OwnO w9 0 (.slice (some ⟨w8.heap.size, 0, none⟩) 1 1) [⟨S, [], true⟩]) := kp9.row HOO.out (fun g hg e => by cases hg; exact hns8 e)
 obtain ⟨-, o0, -⟩ := (hv9.cells j hj).1
 replace o0 : w9.cell? ⟨k.ones[j].b, 0, none⟩ = some (.pointer (some ⟨k.ones[j].z, 0, none⟩)) := o0
 have hPut := hv9.drew.delete j hz S hok.1 (by omega) (by unfold cost at hml; omega) (by omega)
 rw [HX.out, hzat] at hPut
 simp only at hPut
 have b4 : w9.cell? ⟨w.heap.size, 4, none⟩ = some (str S) := cell_block hbo9
 have b5 : w9.cell? ⟨w.heap.size, 5, none⟩ = some (str T) := cell_block hbo9
 clear hv9 kp9 hbo9
 go_still_tail 6, mixedT
 go_wp2_with (go_at_call 137; refine hPut.mono ?_; rintro e w10 ⟨rfl, D10, hg10, hv10, kp10⟩; clear hPut o0 b4 b5)
 have hsz10 := kp10.size
 replace hsz10 : w9.heap.size <= w10.heap.size := hsz10
 have hn10 : ¬ D10 w8.heap.size := fun s => by
   rcases hg10 _ s with s | s
   . exact hn8 s
   . replace s : w9.heap.size <= w8.heap.size := s
     omega
 have HO10 : Hid (OwnO w10 0 (.slice (some ⟨w8.heap.size, 0, none⟩) 1 1) [⟨S, [], true⟩]) := kp10.row (show OwnO w9.drew 0 (.slice (some ⟨w8.heap.size, 0, none⟩) 1 1) [⟨S, [], true⟩] from HO9.out) (fun g hg e => by cases hg; exact hn8 e)
 obtain ⟨q10, c10, e10, hop10, -⟩ := OwnO.opp HO10.out
 cases e10
 have hSh : Calls Tryz.prog 103 #[.pointer (some ⟨bk, 0, none⟩), .pointer (some ⟨k.ones[j].b, 0, none⟩)] w10 fun e w' => e = .returned (.tuple #[.int .i64 0, .bool false]) /\ w10 = w' := by
   have h9 := shut_any hv10 j hj
   have HS : shutX (sizesK k [⟨S, [], true⟩]) (sizesK k [⟨S, [], true⟩]).ones[j] = (0, false) := hsh
   rw [HS] at h9
   exact h9
 have hYb := yBatch_any (some ⟨w8.heap.size, 0, none⟩) 1 [⟨S, [], true⟩] w10 (by simp) (fun o ho => by obtain rfl := List.mem_singleton.1 ho; first | (simp only; omega) | (simp only [List.length_nil]; omega)) hop10
 replace hYb : Calls Tryz.prog 140 #[.slice (some ⟨w8.heap.size, 0, none⟩) 1 1] w10 _ := hYb
 obtain ⟨-, -, o6, -⟩ := (hv10.cells j hj).1
 replace o6 : w10.cell? ⟨k.ones[j].b, 6, none⟩ = some (.bool false) := o6.trans (congrArg (fun b => some (Value.bool b)) hst)
 have hEd := ends_any hv10 hok1 (by omega) (by simp [sizesK, lens] <;> omega) (by simp [sizesK]; omega) 4 0 true
 rw [HEN.out] at hEd
 rw [hbo] at hYb
 clear hok1
 have hk2 := diedK_eq (sizesK k [⟨S, [], true⟩]) d1
 generalize (diedK (sizesK k [⟨S, [], true⟩]) d1).dead = a2 at hk2
 generalize (diedK (sizesK k [⟨S, [], true⟩]) d1).armed = b2 at hk2
 rw [hk2] at hEd
 replace HF : Hid (KInv (batchK ({ sizesK k [⟨S, [], true⟩] with dead := a2, armed := b2 }) j k.ones[j] [⟨S, [], true⟩] 4) d1 (zs.set j (k.ones[j].z, st1))) := by
   have := HF.out
   rw [hk2, hzat] at this
   exact this
 clear hk2
 go_wp2_with (first
   | (go_at_call 103; refine hSh.mono ?_; rintro e w11 ⟨rfl, rfl⟩; clear hSh)
   | (go_at_call 140; refine hYb.mono ?_; rintro e w11 ⟨rfl, rfl⟩; clear hYb)
   | (go_at_call 98; refine hEd.mono ?_; rintro e w12 ⟨rfl, D12, hg12, hv12, kp12⟩; clear hEd o6; obtain ⟨⟨-, -, s6, sz⟩, -, -, sf, -⟩ := hv12.cells j hj; replace sz : ∀ c, w12.frozen? ⟨k.ones[j].b, c, none⟩ = false := sz; replace s6 : w12.cell? ⟨k.ones[j].b, 6, none⟩ = some (.bool k.ones[j].stuck) := s6; replace sf : ∀ c, 7 <= c -> c <= 12 -> ∃ u, w12.cell? ⟨k.ones[j].b, c, none⟩ = some u := sf; obtain ⟨u7, f7⟩ := sf 7 (by omega) (by omega); obtain ⟨u8, f8⟩ := sf 8 (by omega) (by omega); obtain ⟨u9, f9⟩ := sf 9 (by omega) (by omega); obtain ⟨uA, fA⟩ := sf 10 (by omega) (by omega); obtain ⟨uB, fB⟩ := sf 11 (by omega) (by omega); obtain ⟨uC, fC⟩ := sf 12 (by omega) (by omega); have z6 := sz 6; have z7 := sz 7; have z8 := sz 8; have z9 := sz 9; have zA := sz 10; have zB := sz 11; have zC := sz 12; clear sf sz))
 have hvF : Dv w C ((((((w12.setCell ⟨k.ones[j].b, 7, none⟩ (.bool false)).setCell ⟨k.ones[j].b, 8, none⟩ (.bool false)).setCell ⟨k.ones[j].b, 9, none⟩ (.bool false)).setCell ⟨k.ones[j].b, 10, none⟩ (.bool false)).setCell ⟨k.ones[j].b, 11, none⟩ (.bool false)).setCell ⟨k.ones[j].b, 12, none⟩ (.bool false)) D12 bk bx bd vy d1 (zs.set j (k.ones[j].z, st1)) ({ sizesK k [⟨S, [], true⟩] with dead := a2, armed := b2 }) := (((((hv12.flag j hj 7 (by omega) (.bool false)).flag j hj 8 (by omega) (.bool false)).flag j hj 9 (by omega) (.bool false)).flag j hj 10 (by omega) (.bool false)).flag j hj 11 (by omega) (.bool false)).flag j hj 12 (by omega) (.bool false)
 have hn12 : ¬ D12 w8.heap.size := fun s => by
   rcases hg12 _ s with s | s
   . exact hn10 s
   . omega
 have hoD : D12 k.ones[j].b := (hv12.cells j hj).2.2.2.2.2.1
 have hO12 : OwnO w12 0 (.slice (some ⟨w8.heap.size, 0, none⟩) 1 1) [⟨S, [], true⟩] := kp12.row HO10.out (fun g hg e => by cases hg; exact hn10 e)
 have hO13 : OwnO ((((((w12.setCell ⟨k.ones[j].b, 7, none⟩ (.bool false)).setCell ⟨k.ones[j].b, 8, none⟩ (.bool false)).setCell ⟨k.ones[j].b, 9, none⟩ (.bool false)).setCell ⟨k.ones[j].b, 10, none⟩ (.bool false)).setCell ⟨k.ones[j].b, 11, none⟩ (.bool false)).setCell ⟨k.ones[j].b, 12, none⟩ (.bool false)) 0 (.slice (some ⟨w8.heap.size, 0, none⟩) 1 1) [⟨S, [], true⟩] := (((((((Kp.refl (fun i => i = k.ones[j].b) w12).put rfl _).put rfl _).put rfl _).put rfl _).put rfl _).put rfl _).row hO12 (fun g hg e => by cases hg; exact hn12 (by rw [show w8.heap.size = k.ones[j].b from e]; exact hoD))
 clear s6 f7 f8 f9 fA fB fC z6 z7 z8 z9 zA zB zC hO12 hv12 kp12
 generalize ((((((w12.setCell ⟨k.ones[j].b, 7, none⟩ (.bool false)).setCell ⟨k.ones[j].b, 8, none⟩ (.bool false)).setCell ⟨k.ones[j].b, 9, none⟩ (.bool false)).setCell ⟨k.ones[j].b, 10, none⟩ (.bool false)).setCell ⟨k.ones[j].b, 11, none⟩ (.bool false)).setCell ⟨k.ones[j].b, 12, none⟩ (.bool false)) = w13 at hvF hO13 ⊢
 have hone : (Value.slice (some ⟨w8.heap.size, 0, none⟩) 1 1).oneCell' = true := rfl
 obtain ⟨vh, v5, w5, vals, hMR, D14, hg14, hvG⟩ := Dv.moreAt (k := k) (l := [⟨S, [], true⟩]) (l2 := [⟨S, [], true⟩]) (a := a2) (b := b2) hvF HGD.out.1 HGD.out.2 hone j hj hO13 (fun g hg => by cases hg; exact ⟨hn12, show w.heap.size <= w8.heap.size by omega⟩)
 obtain ⟨m2, c1, z1, hrun, c5, z5, ⟨a5, p5, rfl⟩, m5⟩ := hMR
 clear hvF hO13
 have hc : (w13.drew.cell? ⟨bk, 2, none⟩ = some (.pointer (some ⟨k.kb, 0, none⟩)) /\ w13.drew.cell? ⟨k.kb, 1, none⟩ = some vh) := ⟨m2, c1⟩
 refine wp_region_E (S := fun w' => w'.cell? ⟨bk, 2, none⟩ = some (.pointer (some ⟨k.kb, 0, none⟩)) /\ w'.cell? ⟨k.kb, 1, none⟩ = some vh) mixedT ?_
 refine tp 0 16 bk 0 rfl rfl (fun w' hS => ?_) hc ?_
 . obtain ⟨hS1, hS2⟩ := hS
   go_simp
 refine tp 1 16 bk 0 rfl rfl (fun w' hS => ?_) hc ?_
 . obtain ⟨hS1, hS2⟩ := hS
   go_simp
 refine tp 2 16 bk 2 rfl rfl (fun w' hS => ?_) hc ?_
 . obtain ⟨hS1, hS2⟩ := hS
   go_simp
 refine tp 3 16 k.kb 0 rfl rfl (fun w' hS => ?_) hc ?_
 . obtain ⟨hS1, hS2⟩ := hS
   go_simp
 refine tp 4 16 bk 0 rfl rfl (fun w' hS => ?_) hc ?_
 . obtain ⟨hS1, hS2⟩ := hS
   go_simp
 refine tp 5 16 bk 0 rfl rfl (fun w' hS => ?_) hc ?_
 . obtain ⟨hS1, hS2⟩ := hS
   go_simp
 refine tp 6 16 bk 2 rfl rfl (fun w' hS => ?_) hc ?_
 . obtain ⟨hS1, hS2⟩ := hS
   go_simp
 refine tp 7 16 k.kb 0 rfl rfl (fun w' hS => ?_) hc ?_
 . obtain ⟨hS1, hS2⟩ := hS
   go_simp
 refine tp 8 16 k.kb 0 rfl rfl (fun w' hS => ?_) hc ?_
 . obtain ⟨hS1, hS2⟩ := hS
   go_simp
 refine tp 9 16 k.kb 1 rfl rfl (fun w' hS => ?_) hc ?_
 . obtain ⟨hS1, hS2⟩ := hS
   go_simp
 refine tk 10 16 vh rfl rfl (fun w' hS => ?_) hc ?_
 . obtain ⟨hS1, hS2⟩ := hS
   go_simp
 refine tk 11 16 (.slice (some ⟨w8.heap.size, 0, none⟩) 1 1) rfl rfl (fun w' hS => ?_) hc ?_
 . obtain ⟨hS1, hS2⟩ := hS
   go_simp
 refine wpAnyE_one (i := 12) (by kernel_rfl) rfl (by rfl) (fun K hK => ?_)
 go_simp
 refine hK.out _ _ ⟨cell_below ((Below.refl _ w13.drew).alloc (Nat.le_refl _) _) m2, cell_below ((Below.refl _ w13.drew).alloc (Nat.le_refl _) _) c1⟩ ?_
 clear hK
 refine wpAnyE_one (i := 13) (by kernel_rfl) rfl (by rfl) (fun K hK => ?_)
 refine wp_append_run rfl rfl rfl hrun ?_
 refine hK.out _ _ ⟨m5, c5⟩ ?_
 clear hK
 refine wpAnyE_one (i := 14) (by kernel_rfl) rfl (by rfl) (fun K hK => ?_)
 go_simp
 refine hK.out _ _ ⟨m5, c5⟩ ?_
 clear hK
 refine wpAnyE_one (i := 15) (by kernel_rfl) rfl (by rfl) (fun K hK => ?_)
 go_simp
 refine hK.out _ _ ⟨m5, c5⟩ ?_
 clear hK
 refine wpAnyE_last (i := 16) (by kernel_rfl) rfl (by rfl) (by kernel_rfl) (by kernel_rfl) (fun K hK => ?_)
 go_simp
 refine hK.out _ _ ?_
 clear hK
 go_wp2
 go_ret
 exact ⟨rfl, D14, d1, zs.set j (k.ones[j].z, st1), _, hvG, HF.out, ht1, (by simp [sizesK, lens] <;> omega), (by simp [sizesK]), Nat.le_succ _⟩
end
end Go.Proofs.YtfghgmojnffgnaaGreat
