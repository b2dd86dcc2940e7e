import Derived.Test.YtfghgmojnffgnaaGreatPkBQ
set_option maxHeartbeats 4000000
set_option maxRecDepth 20000
namespace Go.Proofs.YtfghgmojnffgnaaGreat
open Go.RowKit Go.Maps Go.Sort
section
variable {w : World} {C : Nat -> Prop} {bk bx bd : Nat} {vy : Value} {d : Dk} {zs : List (Nat × St)} {k : Kno}
theorem st_getS_a (h : Dka w C bk bx bd vy d zs k) (hC : ∀ i, C i -> i < w.heap.size) (hI : KInv k d zs) (bW j : Nat) (hjl : j + 1 = k.ones.length) (hon : k.ones.length <= 4194000) (Dd B L : Value) (A : Int) (S T : Nm) (q : Option Addr) (qc : Nat) (l : List Ox) (hS : S.length <= 1048576) (R : Int) (hshj : ∀ (hj : j < k.ones.length), shutX k k.ones[j] = (R, true)) :
   Calls Tryz.prog 64 #[.pointer (some ⟨bW, 0, none⟩), .pointer (some ⟨bk, 0, none⟩), .agg #[.int .i64 15, Dd, .int .i64 A, B, str S, str T, .slice q l.length qc, L, .bool false]] w (Out w C bk bx bd vy d k 0 0) := by
 have _hu := hon
 have hj : j < k.ones.length := by omega
 have hz : j < zs.length := by rw [hI.zlen]; exact hj
 obtain ⟨w1, hw1⟩ : ∃ w1, w1 = w.alloc (.cells #[.int .i64 15, Dd, .int .i64 A, B, str S, str T, .slice q l.length qc, L, .bool false] 67) := ⟨_, rfl⟩
 have hB : Below w.heap.size w w1 := by rw [hw1]; exact (Below.refl _ w).alloc (Nat.le_refl _) _
 have hsz1 : w1.heap.size = w.heap.size + 1 := by rw [hw1]; simp
 have h1 := h.below hB
 have hC1 : ∀ i, C i -> i < w1.heap.size := fun i s => by have := hC i s; omega
 obtain ⟨D0, hv1, hD0⟩ := Dv.start h1
 have hLa := klast_any hv1 j (by omega) (by omega)
 obtain ⟨m0, -, m2, -, -⟩ := hv1.dcells
 obtain ⟨qs, cs, s8, -, -, -, hcs⟩ := hv1.srow
 have hbo : w1.heap[w.heap.size]? = some (.cells #[.int .i64 15, Dd, .int .i64 A, B, str S, str T, .slice q l.length qc, L, .bool false] 67) := by rw [hw1]; exact block_new w _
 obtain ⟨o0, o1, o2, o3, o4, o5, o6, o7, o8⟩ := op_cells hbo
 have hsh := hshj hj
 have hGX : getX d zs[j].2 S = ([], false, R) := by
   obtain ⟨hr, hR⟩ := hI.shutR j hj hz hsh
   simp [getX, hr, hR]
 have hzat := hI.zat j hj hz
 have hmo := hI.mok zs[j] (List.getElem_mem hz)
 have hGe : ∀ w', Below w1.heap.size w1 w' -> _ := fun w' hw => (hv1.below hw).get j hz S (by omega) hmo.1
 rw [hGX, hzat] at hGe
 simp only at hGe
 have HB : Hid (Below w.heap.size w w1) := hB
 have HW : Hid (w1 = w.alloc (.cells #[.int .i64 15, Dd, .int .i64 A, B, str S, str T, .slice q l.length qc, L, .bool false] 67)) := hw1
 have hlen : ((k.ones.length : Int) <= 1) = (k.ones.length <= 1) := by simp; omega
 have hnl : True := trivial
 clear hcs
 have HV1 : Hid (Dv w1 C w1 D0 bk bx bd vy d zs k) := hv1
 rw [hw1] at m2
 clear h h1 hB hw1 hbo hv1 hlen
 go_enter Tryz.func64, Tryz.ntmps64
 go_wp2_with (first
   | (go_at_call 101; rw [<- HW.out]; refine hLa.mono ?_; rintro e w2 ⟨rfl, n2, rfl⟩; clear hLa m2; have m2 : w1.cell? ⟨bk, 2, none⟩ = some (.pointer (some ⟨k.kb, 0, none⟩)) := HV1.out.dcells.2.2.1; have HN : Hid (Below w1.heap.size w1 (w1.drewN n2)) := (Sm.drewN _ _).belowB)
   | fail)
 have hwn : Below w1.heap.size w1 (w1.drewN n2).drew := HN.out.drew
 have hc : (w1.drewN n2).drew.cell? ⟨k.ones[j].b, 0, none⟩ = some (.pointer (some ⟨k.ones[j].z, 0, none⟩)) /\ (w1.drewN n2).drew.cell? ⟨w.heap.size, 4, none⟩ = some (str S) := ⟨((HV1.out.below hwn).cells j hj).1.2.1, o4⟩
 have hGe' := hGe _ hwn
 refine wp_region_E (S := fun w' => w'.cell? ⟨k.ones[j].b, 0, none⟩ = some (.pointer (some ⟨k.ones[j].z, 0, none⟩)) /\ w'.cell? ⟨w.heap.size, 4, none⟩ = some (str S)) mixedT ?_
 refine tp 0 11 k.ones[j].b 0 rfl rfl (fun w' hS => ?_) hc ?_
 . obtain ⟨hS1, hS2⟩ := hS
   go_simp
 refine tp 1 11 k.ones[j].b 0 rfl rfl (fun w' hS => ?_) hc ?_
 . obtain ⟨hS1, hS2⟩ := hS
   go_simp
 refine tp 2 11 k.ones[j].b 0 rfl rfl (fun w' hS => ?_) hc ?_
 . obtain ⟨hS1, hS2⟩ := hS
   go_simp
 refine tp 3 11 k.ones[j].z 0 rfl rfl (fun w' hS => ?_) hc ?_
 . obtain ⟨hS1, hS2⟩ := hS
   go_simp
 refine tp 4 11 w.heap.size 4 rfl rfl (fun w' hS => ?_) hc ?_
 . obtain ⟨hS1, hS2⟩ := hS
   go_simp
 refine tk 5 11 (str S) rfl rfl (fun w' hS => ?_) hc ?_
 . obtain ⟨hS1, hS2⟩ := hS
   go_simp
 refine wpAnyE_one (i := 6) (by kernel_rfl) rfl (by rfl) (fun K hK => ?_)
 go_simp
 refine hGe'.mono ?_
 clear hGe hGe'
 rintro e w3 ⟨rfl, hb3⟩
 have hB3 : Below w1.heap.size w1 w3 := hwn.trans (hb3.mono hwn.size)
 have hv3 := HV1.out.below hB3
 have s4 : w3.cell? ⟨w.heap.size, 4, none⟩ = some (str S) := cell_below hB3 o4
 clear hc
 have hc : w3.cell? ⟨k.ones[j].b, 0, none⟩ = some (.pointer (some ⟨k.ones[j].z, 0, none⟩)) /\ w3.cell? ⟨w.heap.size, 4, none⟩ = some (str S) := ⟨(hv3.cells j hj).1.2.1, s4⟩
 refine hK.out _ _ hc ?_
 clear hK
 refine wpAnyE_one (i := 7) (by kernel_rfl) rfl (by rfl) (fun K hK => ?_)
 go_simp
 refine hK.out _ _ hc ?_
 clear hK
 refine tk 8 11 (str []) rfl rfl (fun w' hS => ?_) hc ?_
 . obtain ⟨hS1, hS2⟩ := hS
   go_simp
 refine tk 9 12 (.bool false) rfl rfl (fun w' hS => ?_) hc ?_
 . obtain ⟨hS1, hS2⟩ := hS
   go_simp
 refine tk 10 13 (.int .i64 R) rfl rfl (fun w' hS => ?_) hc ?_
 . obtain ⟨hS1, hS2⟩ := hS
   go_simp
 refine wpAnyE_one (i := 11) (by kernel_rfl) rfl (by rfl) (fun K hK => ?_)
 go_simp
 refine hK.out _ _ hc ?_
 clear hK
 refine wpAnyE_one (i := 12) (by kernel_rfl) rfl (by rfl) (fun K hK => ?_)
 go_simp
 refine hK.out _ _ hc ?_
 clear hK
 refine wpAnyE_last (i := 13) (by kernel_rfl) rfl (by rfl) (by kernel_rfl) (by kernel_rfl) (fun K hK => ?_)
 go_simp
 refine hK.out _ _ ?_
 clear hK
 have hSh := shut_any hv3 j hj
 rw [hsh] at hSh
 go_wp2_with (go_at_call 103; refine hSh.mono ?_; rintro e w4 ⟨rfl, rfl⟩; clear hSh)
 go_ret
 exact (Out.behind HB.out ⟨by first | rfl | simp | exact ret_bool (by simp), D0, d, zs, k, hv3, hI, by omega, Nat.le_refl _, Nat.le_refl _, Nat.le_succ _⟩)
theorem st_getS_b (h : Dka w C bk bx bd vy d zs k) (hC : ∀ i, C i -> i < w.heap.size) (hI : KInv k d zs) (bW j : Nat) (hjl : j + 1 = k.ones.length) (hj1 : k.ones.length <= 1) (hon : k.ones.length <= 4194000) (Dd B L : Value) (A : Int) (S T : Nm) (q : Option Addr) (qc : Nat) (l : List Ox) (hS : S.length <= 1048576) (R : Int) (hshj : ∀ (hj : j < k.ones.length), shutX k k.ones[j] = (R, true)) :
   Calls Tryz.prog 64 #[.pointer (some ⟨bW, 0, none⟩), .pointer (some ⟨bk, 0, none⟩), .agg #[.int .i64 15, Dd, .int .i64 A, B, str S, str T, .slice q l.length qc, L, .bool true]] w (Out w C bk bx bd vy d k 0 0) := by
 have _hu := hon
 have hj : j < k.ones.length := by omega
 have hz : j < zs.length := by rw [hI.zlen]; exact hj
 obtain ⟨w1, hw1⟩ : ∃ w1, w1 = w.alloc (.cells #[.int .i64 15, Dd, .int .i64 A, B, str S, str T, .slice q l.length qc, L, .bool true] 67) := ⟨_, rfl⟩
 have hB : Below w.heap.size w w1 := by rw [hw1]; exact (Below.refl _ w).alloc (Nat.le_refl _) _
 have hsz1 : w1.heap.size = w.heap.size + 1 := by rw [hw1]; simp
 have h1 := h.below hB
 have hC1 : ∀ i, C i -> i < w1.heap.size := fun i s => by have := hC i s; omega
 obtain ⟨D0, hv1, hD0⟩ := Dv.start h1
 have hLa := klast_any hv1 j (by omega) (by omega)
 obtain ⟨m0, -, m2, -, -⟩ := hv1.dcells
 obtain ⟨qs, cs, s8, -, -, -, hcs⟩ := hv1.srow
 have hbo : w1.heap[w.heap.size]? = some (.cells #[.int .i64 15, Dd, .int .i64 A, B, str S, str T, .slice q l.length qc, L, .bool true] 67) := by rw [hw1]; exact block_new w _
 obtain ⟨o0, o1, o2, o3, o4, o5, o6, o7, o8⟩ := op_cells hbo
 have hsh := hshj hj
 have hGX : getX d zs[j].2 S = ([], false, R) := by
   obtain ⟨hr, hR⟩ := hI.shutR j hj hz hsh
   simp [getX, hr, hR]
 have hzat := hI.zat j hj hz
 have hmo := hI.mok zs[j] (List.getElem_mem hz)
 have hGe : ∀ w', Below w1.heap.size w1 w' -> _ := fun w' hw => (hv1.below hw).get j hz S (by omega) hmo.1
 rw [hGX, hzat] at hGe
 simp only at hGe
 have HB : Hid (Below w.heap.size w w1) := hB
 have HW : Hid (w1 = w.alloc (.cells #[.int .i64 15, Dd, .int .i64 A, B, str S, str T, .slice q l.length qc, L, .bool true] 67)) := hw1
 have hlen : ((k.ones.length : Int) <= 1) = (k.ones.length <= 1) := by simp; omega
 have hnl : ¬ (1 : Int) < (k.ones.length : Int) := by omega
 clear hcs
 have HV1 : Hid (Dv w1 C w1 D0 bk bx bd vy d zs k) := hv1
 rw [hw1] at m2
 clear h h1 hB hw1 hbo hv1 hlen
 go_enter Tryz.func64, Tryz.ntmps64
 go_wp2_with (first
   | (go_at_call 101; rw [<- HW.out]; refine hLa.mono ?_; rintro e w2 ⟨rfl, n2, rfl⟩; clear hLa m2; have m2 : w1.cell? ⟨bk, 2, none⟩ = some (.pointer (some ⟨k.kb, 0, none⟩)) := HV1.out.dcells.2.2.1; have HN : Hid (Below w1.heap.size w1 (w1.drewN n2)) := (Sm.drewN _ _).belowB)
   | fail)
 have hwn : Below w1.heap.size w1 (w1.drewN n2).drew := HN.out.drew
 have hc : (w1.drewN n2).drew.cell? ⟨k.ones[j].b, 0, none⟩ = some (.pointer (some ⟨k.ones[j].z, 0, none⟩)) /\ (w1.drewN n2).drew.cell? ⟨w.heap.size, 4, none⟩ = some (str S) := ⟨((HV1.out.below hwn).cells j hj).1.2.1, o4⟩
 have hGe' := hGe _ hwn
 refine wp_region_E (S := fun w' => w'.cell? ⟨k.ones[j].b, 0, none⟩ = some (.pointer (some ⟨k.ones[j].z, 0, none⟩)) /\ w'.cell? ⟨w.heap.size, 4, none⟩ = some (str S)) mixedT ?_
 refine tp 0 11 k.ones[j].b 0 rfl rfl (fun w' hS => ?_) hc ?_
 . obtain ⟨hS1, hS2⟩ := hS
   go_simp
 refine tp 1 11 k.ones[j].b 0 rfl rfl (fun w' hS => ?_) hc ?_
 . obtain ⟨hS1, hS2⟩ := hS
   go_simp
 refine tp 2 11 k.ones[j].b 0 rfl rfl (fun w' hS => ?_) hc ?_
 . obtain ⟨hS1, hS2⟩ := hS
   go_simp
 refine tp 3 11 k.ones[j].z 0 rfl rfl (fun w' hS => ?_) hc ?_
 . obtain ⟨hS1, hS2⟩ := hS
   go_simp
 refine tp 4 11 w.heap.size 4 rfl rfl (fun w' hS => ?_) hc ?_
 . obtain ⟨hS1, hS2⟩ := hS
   go_simp
 refine tk 5 11 (str S) rfl rfl (fun w' hS => ?_) hc ?_
 . obtain ⟨hS1, hS2⟩ := hS
   go_simp
 refine wpAnyE_one (i := 6) (by kernel_rfl) rfl (by rfl) (fun K hK => ?_)
 go_simp
 refine hGe'.mono ?_
 clear hGe hGe'
 rintro e w3 ⟨rfl, hb3⟩
 have hB3 : Below w1.heap.size w1 w3 := hwn.trans (hb3.mono hwn.size)
 have hv3 := HV1.out.below hB3
 have s4 : w3.cell? ⟨w.heap.size, 4, none⟩ = some (str S) := cell_below hB3 o4
 clear hc
 have hc : w3.cell? ⟨k.ones[j].b, 0, none⟩ = some (.pointer (some ⟨k.ones[j].z, 0, none⟩)) /\ w3.cell? ⟨w.heap.size, 4, none⟩ = some (str S) := ⟨(hv3.cells j hj).1.2.1, s4⟩
 refine hK.out _ _ hc ?_
 clear hK
 refine wpAnyE_one (i := 7) (by kernel_rfl) rfl (by rfl) (fun K hK => ?_)
 go_simp
 refine hK.out _ _ hc ?_
 clear hK
 refine tk 8 11 (str []) rfl rfl (fun w' hS => ?_) hc ?_
 . obtain ⟨hS1, hS2⟩ := hS
   go_simp
 refine tk 9 12 (.bool false) rfl rfl (fun w' hS => ?_) hc ?_
 . obtain ⟨hS1, hS2⟩ := hS
   go_simp
 refine tk 10 13 (.int .i64 R) rfl rfl (fun w' hS => ?_) hc ?_
 . obtain ⟨hS1, hS2⟩ := hS
   go_simp
 refine wpAnyE_one (i := 11) (by kernel_rfl) rfl (by rfl) (fun K hK => ?_)
 go_simp
 refine hK.out _ _ hc ?_
 clear hK
 refine wpAnyE_one (i := 12) (by kernel_rfl) rfl (by rfl) (fun K hK => ?_)
 go_simp
 refine hK.out _ _ hc ?_
 clear hK
 refine wpAnyE_last (i := 13) (by kernel_rfl) rfl (by rfl) (by kernel_rfl) (by kernel_rfl) (fun K hK => ?_)
 go_simp
 refine hK.out _ _ ?_
 clear hK
 have hSh := shut_any hv3 j hj
 rw [hsh] at hSh
 go_wp2_with (go_at_call 103; refine hSh.mono ?_; rintro e w4 ⟨rfl, rfl⟩; clear hSh)
 go_ret
 exact (Out.behind HB.out ⟨by first | rfl | simp | exact ret_bool (by simp), D0, d, zs, k, hv3, hI, by omega, Nat.le_refl _, Nat.le_refl _, Nat.le_succ _⟩)
theorem st_getS_c (h : Dka w C bk bx bd vy d zs k) (hC : ∀ i, C i -> i < w.heap.size) (hI : KInv k d zs) (bW j : Nat) (hjl : j + 2 = k.ones.length) (hon : k.ones.length <= 4194000) (Dd B L : Value) (A : Int) (S T : Nm) (q : Option Addr) (qc : Nat) (l : List Ox) (hS : S.length <= 1048576) (R : Int) (hshj : ∀ (hj : j < k.ones.length), shutX k k.ones[j] = (R, true)) :
   Calls Tryz.prog 64 #[.pointer (some ⟨bW, 0, none⟩), .pointer (some ⟨bk, 0, none⟩), .agg #[.int .i64 15, Dd, .int .i64 A, B, str S, str T, .slice q l.length qc, L, .bool true]] w (Out w C bk bx bd vy d k 0 0) := by
 have _hu := hon
 have hj : j < k.ones.length := by omega
 have hz : j < zs.length := by rw [hI.zlen]; exact hj
 obtain ⟨w1, hw1⟩ : ∃ w1, w1 = w.alloc (.cells #[.int .i64 15, Dd, .int .i64 A, B, str S, str T, .slice q l.length qc, L, .bool true] 67) := ⟨_, rfl⟩
 have hB : Below w.heap.size w w1 := by rw [hw1]; exact (Below.refl _ w).alloc (Nat.le_refl _) _
 have hsz1 : w1.heap.size = w.heap.size + 1 := by rw [hw1]; simp
 have h1 := h.below hB
 have hC1 : ∀ i, C i -> i < w1.heap.size := fun i s => by have := hC i s; omega
 obtain ⟨D0, hv1, hD0⟩ := Dv.start h1
 have hLa := klast_any hv1 (j + 1) (by omega) (by omega)
 obtain ⟨m0, -, m2, -, -⟩ := hv1.dcells
 obtain ⟨qs, cs, s8, -, -, -, hcs⟩ := hv1.srow
 have hbo : w1.heap[w.heap.size]? = some (.cells #[.int .i64 15, Dd, .int .i64 A, B, str S, str T, .slice q l.length qc, L, .bool true] 67) := by rw [hw1]; exact block_new w _
 obtain ⟨o0, o1, o2, o3, o4, o5, o6, o7, o8⟩ := op_cells hbo
 have hsh := hshj hj
 have hGX : getX d zs[j].2 S = ([], false, R) := by
   obtain ⟨hr, hR⟩ := hI.shutR j hj hz hsh
   simp [getX, hr, hR]
 have hzat := hI.zat j hj hz
 have hmo := hI.mok zs[j] (List.getElem_mem hz)
 have hGe : ∀ w', Below w1.heap.size w1 w' -> _ := fun w' hw => (hv1.below hw).get j hz S (by omega) hmo.1
 rw [hGX, hzat] at hGe
 simp only at hGe
 have HB : Hid (Below w.heap.size w w1) := hB
 have HW : Hid (w1 = w.alloc (.cells #[.int .i64 15, Dd, .int .i64 A, B, str S, str T, .slice q l.length qc, L, .bool true] 67)) := hw1
 have hlen : ((k.ones.length : Int) <= 1) = (k.ones.length <= 1) := by simp; omega
 have hnl : (1 : Int) < (k.ones.length : Int) := by omega
 obtain ⟨gs, rfl, hcj⟩ := hcs j (by omega)
 have hle2 : (k.ones.length : Int) = (j : Int) + 2 := by omega
 have HV1 : Hid (Dv w1 C w1 D0 bk bx bd vy d zs k) := hv1
 rw [hw1] at m2
 clear h h1 hB hw1 hbo hv1 hlen
 go_enter Tryz.func64, Tryz.ntmps64
 go_wp2_with (go_at_call 101; rw [<- HW.out]; refine hLa.mono ?_; rintro e w2 ⟨rfl, n2, rfl⟩; clear hLa m2; have m2 : w1.cell? ⟨bk, 2, none⟩ = some (.pointer (some ⟨k.kb, 0, none⟩)) := HV1.out.dcells.2.2.1)
 go_quiet (fail)
 have HN : Hid (Below w1.heap.size w1 (w1.drewN (n2 + nq))) := (Sm.drewN _ _).belowB
 clear m2
 go_wp2
 have hwn : Below w1.heap.size w1 (w1.drewN (n2 + nq)).drew := HN.out.drew
 have hc : (w1.drewN (n2 + nq)).drew.cell? ⟨k.ones[j].b, 0, none⟩ = some (.pointer (some ⟨k.ones[j].z, 0, none⟩)) /\ (w1.drewN (n2 + nq)).drew.cell? ⟨w.heap.size, 4, none⟩ = some (str S) := ⟨((HV1.out.below hwn).cells j hj).1.2.1, o4⟩
 have hGe' := hGe _ hwn
 refine wp_region_E (S := fun w' => w'.cell? ⟨k.ones[j].b, 0, none⟩ = some (.pointer (some ⟨k.ones[j].z, 0, none⟩)) /\ w'.cell? ⟨w.heap.size, 4, none⟩ = some (str S)) mixedT ?_
 refine tp 0 11 k.ones[j].b 0 rfl rfl (fun w' hS => ?_) hc ?_
 . obtain ⟨hS1, hS2⟩ := hS
   go_simp
 refine tp 1 11 k.ones[j].b 0 rfl rfl (fun w' hS => ?_) hc ?_
 . obtain ⟨hS1, hS2⟩ := hS
   go_simp
 refine tp 2 11 k.ones[j].b 0 rfl rfl (fun w' hS => ?_) hc ?_
 . obtain ⟨hS1, hS2⟩ := hS
   go_simp
 refine tp 3 11 k.ones[j].z 0 rfl rfl (fun w' hS => ?_) hc ?_
 . obtain ⟨hS1, hS2⟩ := hS
   go_simp
 refine tp 4 11 w.heap.size 4 rfl rfl (fun w' hS => ?_) hc ?_
 . obtain ⟨hS1, hS2⟩ := hS
   go_simp
 refine tk 5 11 (str S) rfl rfl (fun w' hS => ?_) hc ?_
 . obtain ⟨hS1, hS2⟩ := hS
   go_simp
 refine wpAnyE_one (i := 6) (by kernel_rfl) rfl (by rfl) (fun K hK => ?_)
 go_simp
 refine hGe'.mono ?_
 clear hGe hGe'
 rintro e w3 ⟨rfl, hb3⟩
 have hB3 : Below w1.heap.size w1 w3 := hwn.trans (hb3.mono hwn.size)
 have hv3 := HV1.out.below hB3
 have s4 : w3.cell? ⟨w.heap.size, 4, none⟩ = some (str S) := cell_below hB3 o4
 clear hc
 have hc : w3.cell? ⟨k.ones[j].b, 0, none⟩ = some (.pointer (some ⟨k.ones[j].z, 0, none⟩)) /\ w3.cell? ⟨w.heap.size, 4, none⟩ = some (str S) := ⟨(hv3.cells j hj).1.2.1, s4⟩
 refine hK.out _ _ hc ?_
 clear hK
 refine wpAnyE_one (i := 7) (by kernel_rfl) rfl (by rfl) (fun K hK => ?_)
 go_simp
 refine hK.out _ _ hc ?_
 clear hK
 refine tk 8 11 (str []) rfl rfl (fun w' hS => ?_) hc ?_
 . obtain ⟨hS1, hS2⟩ := hS
   go_simp
 refine tk 9 12 (.bool false) rfl rfl (fun w' hS => ?_) hc ?_
 . obtain ⟨hS1, hS2⟩ := hS
   go_simp
 refine tk 10 13 (.int .i64 R) rfl rfl (fun w' hS => ?_) hc ?_
 . obtain ⟨hS1, hS2⟩ := hS
   go_simp
 refine wpAnyE_one (i := 11) (by kernel_rfl) rfl (by rfl) (fun K hK => ?_)
 go_simp
 refine hK.out _ _ hc ?_
 clear hK
 refine wpAnyE_one (i := 12) (by kernel_rfl) rfl (by rfl) (fun K hK => ?_)
 go_simp
 refine hK.out _ _ hc ?_
 clear hK
 refine wpAnyE_last (i := 13) (by kernel_rfl) rfl (by rfl) (by kernel_rfl) (by kernel_rfl) (fun K hK => ?_)
 go_simp
 refine hK.out _ _ ?_
 clear hK
 have hSh := shut_any hv3 j hj
 rw [hsh] at hSh
 go_wp2_with (go_at_call 103; refine hSh.mono ?_; rintro e w4 ⟨rfl, rfl⟩; clear hSh)
 go_ret
 exact (Out.behind HB.out ⟨by first | rfl | simp | exact ret_bool (by simp), D0, d, zs, k, hv3, hI, by omega, Nat.le_refl _, Nat.le_refl _, Nat.le_succ _⟩)
end
end Go.Proofs.YtfghgmojnffgnaaGreat
