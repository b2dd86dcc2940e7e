import Derived.Test.YtfghgmojnffgnaaGreatPkBQ
set_option maxHeartbeats 4000000
set_option maxRecDepth 20000
namespace Go.Proofs.YtfghgmojnffgnaaGreat
open Go.RowKit Go.Maps Go.Sort
section
variable {w : World} {C : Nat -> Prop} {bk bx bd : Nat} {vy : Value} {d : Dk} {zs : List (Nat × St)} {k : Kno}
theorem st_scanN_a (h : Dka w C bk bx bd vy d zs k) (hC : ∀ i, C i -> i < w.heap.size) (hI : KInv k d zs) (bW j : Nat) (hjl : j + 1 = k.ones.length) (hon : k.ones.length <= 4194000) (Dd B L : Value) (A : Int) (S T : Nm) (q : Option Addr) (qc : Nat) (l : List Ox) (hlim : A < 0) (hshj : ∀ (hj : j < k.ones.length), shutX k k.ones[j] = (0, false)) {Q : World -> Prop} (hLS : ∀ (hj : j < k.ones.length) w2 ql qc, Below w.heap.size w w2 -> Pairp w2 ql k.ones[j].l -> Calls Tryz.prog 105 #[.pointer (some ⟨bW, 0, none⟩), .pointer (some ⟨bk, 0, none⟩), .slice none 0 0, .int .i64 1, .slice ql k.ones[j].l.length qc, str S, str T, .int .i64 A] w2 fun e w' => e = .returned (.bool true) /\ Q w' /\ ∀ b, b < w2.heap.size -> (C b \/ b = w.heap.size) -> w'.heap[b]? = w2.heap[b]?) :
   Calls Tryz.prog 64 #[.pointer (some ⟨bW, 0, none⟩), .pointer (some ⟨bk, 0, none⟩), .agg #[.int .i64 16, Dd, .int .i64 A, B, str S, str T, .slice q l.length qc, L, .bool false]] w fun e w' => e = .returned (.bool true) /\ Q w' := by
 have _hu := hon
 have hj : j < k.ones.length := by omega
 have hz : j < zs.length := by rw [hI.zlen]; exact hj
 obtain ⟨w1, hw1⟩ : ∃ w1, w1 = w.alloc (.cells #[.int .i64 16, Dd, .int .i64 A, B, str S, str T, .slice q l.length qc, L, .bool false] 67) := ⟨_, rfl⟩
 have hB : Below w.heap.size w w1 := by rw [hw1]; exact (Below.refl _ w).alloc (Nat.le_refl _) _
 have hsz1 : w1.heap.size = w.heap.size + 1 := by rw [hw1]; simp
 have h1 := h.below hB
 have hC1 : ∀ i, C i -> i < w1.heap.size := fun i s => by have := hC i s; omega
 obtain ⟨D0, hv1, hD0⟩ := Dv.start h1
 have hLa := klast_any hv1 j (by omega) (by omega)
 obtain ⟨m0, -, m2, -, -⟩ := hv1.dcells
 obtain ⟨qs, cs, s8, -, -, -, hcs⟩ := hv1.srow
 have hbo : w1.heap[w.heap.size]? = some (.cells #[.int .i64 16, Dd, .int .i64 A, B, str S, str T, .slice q l.length qc, L, .bool false] 67) := by rw [hw1]; exact block_new w _
 obtain ⟨o0, o1, o2, o3, o4, o5, o6, o7, o8⟩ := op_cells hbo
 have hsh := hshj hj
 obtain ⟨hop, hkd⟩ := shut_open hsh
 have hal : d.dead = false := by rw [<- hI.dead]; exact hkd
 obtain ⟨q1, q2, q3, q4, q5⟩ := hI.open' j hj hz hop
 have hzat := hI.zat j hj hz
 have hrd : ready d.turn d.dead zs[j].2 = 0 := by unfold ready; rw [if_neg (by simp [q2]), hal]; rfl
 have hmo := hI.mok zs[j] (List.getElem_mem hz)
 have hSc : ∀ w', Below w1.heap.size w1 w' -> _ := fun w' hw => (hv1.below hw).scanNo j hz S T A 1 (by decide) (.inr ⟨hrd, hlim, rfl⟩)
 rw [hzat] at hSc
 clear hop hkd q1 q2 q3 q4 q5 hrd hal hmo
 have HB : Hid (Below w.heap.size w w1) := hB
 have HW : Hid (w1 = w.alloc (.cells #[.int .i64 16, Dd, .int .i64 A, B, str S, str T, .slice q l.length qc, L, .bool false] 67)) := hw1
 have hlen : ((k.ones.length : Int) <= 1) = (k.ones.length <= 1) := by simp; omega
 have hnl : True := trivial
 clear hcs
 have HV1 : Hid (Dv w1 C w1 D0 bk bx bd vy d zs k) := hv1
 rw [hw1] at m2
 clear h h1 hB hw1 hbo hv1 hlen
 go_enter Tryz.func64, Tryz.ntmps64
 go_wp2_with (first
   | (go_at_call 101; rw [<- HW.out]; refine hLa.mono ?_; rintro e w2 ⟨rfl, n2, rfl⟩; clear hLa m2; have m2 : w1.cell? ⟨bk, 2, none⟩ = some (.pointer (some ⟨k.kb, 0, none⟩)) := HV1.out.dcells.2.2.1; have HN : Hid (Below w1.heap.size w1 (w1.drewN n2)) := (Sm.drewN _ _).belowB)
   | fail)
 have hwn : Below w1.heap.size w1 (w1.drewN n2).drew := HN.out.drew
 have hc : (w1.drewN n2).drew.cell? ⟨k.ones[j].b, 0, none⟩ = some (.pointer (some ⟨k.ones[j].z, 0, none⟩)) /\ (w1.drewN n2).drew.cell? ⟨w.heap.size, 4, none⟩ = some (str S) /\ (w1.drewN n2).drew.cell? ⟨w.heap.size, 5, none⟩ = some (str T) /\ (w1.drewN n2).drew.cell? ⟨w.heap.size, 2, none⟩ = some (.int .i64 A) := ⟨((HV1.out.below hwn).cells j hj).1.2.1, o4, o5, o2⟩
 have hSc' := hSc _ hwn
 refine wp_region_E (S := fun w' => w'.cell? ⟨k.ones[j].b, 0, none⟩ = some (.pointer (some ⟨k.ones[j].z, 0, none⟩)) /\ w'.cell? ⟨w.heap.size, 4, none⟩ = some (str S) /\ w'.cell? ⟨w.heap.size, 5, none⟩ = some (str T) /\ w'.cell? ⟨w.heap.size, 2, none⟩ = some (.int .i64 A)) mixedT ?_
 refine tp 0 14 k.ones[j].b 0 rfl rfl (fun w' hS => ?_) hc ?_
 . obtain ⟨hS1, hS2, hS3, hS4⟩ := hS
   go_simp
 refine tp 1 14 k.ones[j].b 0 rfl rfl (fun w' hS => ?_) hc ?_
 . obtain ⟨hS1, hS2, hS3, hS4⟩ := hS
   go_simp
 refine tp 2 14 k.ones[j].b 0 rfl rfl (fun w' hS => ?_) hc ?_
 . obtain ⟨hS1, hS2, hS3, hS4⟩ := hS
   go_simp
 refine tp 3 14 k.ones[j].z 0 rfl rfl (fun w' hS => ?_) hc ?_
 . obtain ⟨hS1, hS2, hS3, hS4⟩ := hS
   go_simp
 refine tp 4 14 w.heap.size 4 rfl rfl (fun w' hS => ?_) hc ?_
 . obtain ⟨hS1, hS2, hS3, hS4⟩ := hS
   go_simp
 refine tk 5 14 (str S) rfl rfl (fun w' hS => ?_) hc ?_
 . obtain ⟨hS1, hS2, hS3, hS4⟩ := hS
   go_simp
 refine tp 6 14 w.heap.size 5 rfl rfl (fun w' hS => ?_) hc ?_
 . obtain ⟨hS1, hS2, hS3, hS4⟩ := hS
   go_simp
 refine tk 7 14 (str T) rfl rfl (fun w' hS => ?_) hc ?_
 . obtain ⟨hS1, hS2, hS3, hS4⟩ := hS
   go_simp
 refine tp 8 14 w.heap.size 2 rfl rfl (fun w' hS => ?_) hc ?_
 . obtain ⟨hS1, hS2, hS3, hS4⟩ := hS
   go_simp
 refine tk 9 14 (.int .i64 A) rfl rfl (fun w' hS => ?_) hc ?_
 . obtain ⟨hS1, hS2, hS3, hS4⟩ := hS
   go_simp
 refine wpAnyE_one (i := 10) (by kernel_rfl) rfl (by rfl) (fun K hK => ?_)
 go_simp
 refine hSc'.mono ?_
 clear hSc hSc'
 rintro e w3 ⟨rfl, hb3⟩
 have hB3 : Below w1.heap.size w1 w3 := hwn.trans (hb3.mono hwn.size)
 have hv3 := HV1.out.below hB3
 clear hc
 have s4 : w3.cell? ⟨w.heap.size, 4, none⟩ = some (str S) := cell_below hB3 o4
 have s5 : w3.cell? ⟨w.heap.size, 5, none⟩ = some (str T) := cell_below hB3 o5
 have s2 : w3.cell? ⟨w.heap.size, 2, none⟩ = some (.int .i64 A) := cell_below hB3 o2
 have hc : w3.cell? ⟨k.ones[j].b, 0, none⟩ = some (.pointer (some ⟨k.ones[j].z, 0, none⟩)) /\ w3.cell? ⟨w.heap.size, 4, none⟩ = some (str S) /\ w3.cell? ⟨w.heap.size, 5, none⟩ = some (str T) /\ w3.cell? ⟨w.heap.size, 2, none⟩ = some (.int .i64 A) := ⟨(hv3.cells j hj).1.2.1, s4, s5, s2⟩
 refine hK.out _ _ hc ?_
 clear hK
 refine wpAnyE_one (i := 11) (by kernel_rfl) rfl (by rfl) (fun K hK => ?_)
 go_simp
 refine hK.out _ _ hc ?_
 clear hK
 refine tk 12 14 (.slice none 0 0) rfl rfl (fun w' hS => ?_) hc ?_
 . obtain ⟨hS1, hS2, hS3, hS4⟩ := hS
   go_simp
 refine tk 13 15 (.int .i64 1) rfl rfl (fun w' hS => ?_) hc ?_
 . obtain ⟨hS1, hS2, hS3, hS4⟩ := hS
   go_simp
 refine wpAnyE_one (i := 14) (by kernel_rfl) rfl (by rfl) (fun K hK => ?_)
 go_simp
 refine hK.out _ _ hc ?_
 clear hK
 refine wpAnyE_last (i := 15) (by kernel_rfl) rfl (by rfl) (by kernel_rfl) (by kernel_rfl) (fun K hK => ?_)
 go_simp
 refine hK.out _ _ ?_
 clear hK
 have hSh := shut_any hv3 j hj
 rw [hsh] at hSh
 go_wp2_with (go_at_call 103; refine hSh.mono ?_; rintro e w4 ⟨rfl, rfl⟩; clear hSh)
 have hv3d := hv3.drew
 obtain ⟨-, -, ⟨ql, cl, l2, hpl⟩, -, -, hDb, -⟩ := hv3d.cells j hj
 have hB3d : Below w.heap.size w w3.drew := HB.out.trans ((hB3.mono (by omega)).drew)
 have hLs := hLS hj w3.drew ql cl hB3d hpl
 clear hc
 have hc : w3.drew.cell? ⟨k.ones[j].b, 2, none⟩ = some (.slice ql k.ones[j].l.length cl) /\ w3.drew.cell? ⟨w.heap.size, 4, none⟩ = some (str S) /\ w3.drew.cell? ⟨w.heap.size, 5, none⟩ = some (str T) /\ w3.drew.cell? ⟨w.heap.size, 2, none⟩ = some (.int .i64 A) := ⟨l2, s4, s5, s2⟩
 refine wp_region_E (S := fun w' => w'.cell? ⟨k.ones[j].b, 2, none⟩ = some (.slice ql k.ones[j].l.length cl) /\ w'.cell? ⟨w.heap.size, 4, none⟩ = some (str S) /\ w'.cell? ⟨w.heap.size, 5, none⟩ = some (str T) /\ w'.cell? ⟨w.heap.size, 2, none⟩ = some (.int .i64 A)) mixedT ?_
 refine tp 0 15 bW 0 rfl rfl (fun w' hS => ?_) hc ?_
 . obtain ⟨hS1, hS2, hS3, hS4⟩ := hS
   go_simp
 refine tp 1 15 bk 0 rfl rfl (fun w' hS => ?_) hc ?_
 . obtain ⟨hS1, hS2, hS3, hS4⟩ := hS
   go_simp
 refine tk 2 15 (.slice none 0 0) rfl rfl (fun w' hS => ?_) hc ?_
 . obtain ⟨hS1, hS2, hS3, hS4⟩ := hS
   go_simp
 refine tk 3 15 (.int .i64 1) rfl rfl (fun w' hS => ?_) hc ?_
 . obtain ⟨hS1, hS2, hS3, hS4⟩ := hS
   go_simp
 refine tp 4 15 k.ones[j].b 0 rfl rfl (fun w' hS => ?_) hc ?_
 . obtain ⟨hS1, hS2, hS3, hS4⟩ := hS
   go_simp
 refine tp 5 15 k.ones[j].b 0 rfl rfl (fun w' hS => ?_) hc ?_
 . obtain ⟨hS1, hS2, hS3, hS4⟩ := hS
   go_simp
 refine tp 6 15 k.ones[j].b 2 rfl rfl (fun w' hS => ?_) hc ?_
 . obtain ⟨hS1, hS2, hS3, hS4⟩ := hS
   go_simp
 refine tk 7 15 (.slice ql k.ones[j].l.length cl) rfl rfl (fun w' hS => ?_) hc ?_
 . obtain ⟨hS1, hS2, hS3, hS4⟩ := hS
   go_simp
 refine tp 8 15 w.heap.size 4 rfl rfl (fun w' hS => ?_) hc ?_
 . obtain ⟨hS1, hS2, hS3, hS4⟩ := hS
   go_simp
 refine tk 9 15 (str S) rfl rfl (fun w' hS => ?_) hc ?_
 . obtain ⟨hS1, hS2, hS3, hS4⟩ := hS
   go_simp
 refine tp 10 15 w.heap.size 5 rfl rfl (fun w' hS => ?_) hc ?_
 . obtain ⟨hS1, hS2, hS3, hS4⟩ := hS
   go_simp
 refine tk 11 15 (str T) rfl rfl (fun w' hS => ?_) hc ?_
 . obtain ⟨hS1, hS2, hS3, hS4⟩ := hS
   go_simp
 refine tp 12 15 w.heap.size 2 rfl rfl (fun w' hS => ?_) hc ?_
 . obtain ⟨hS1, hS2, hS3, hS4⟩ := hS
   go_simp
 refine tk 13 15 (.int .i64 A) rfl rfl (fun w' hS => ?_) hc ?_
 . obtain ⟨hS1, hS2, hS3, hS4⟩ := hS
   go_simp
 refine wpAnyE_one (i := 14) (by kernel_rfl) rfl (by rfl) (fun K hK => ?_)
 go_simp
 refine hLs.mono ?_
 clear hLs
 rintro e w5 ⟨rfl, hQ5, hk5⟩
 have hkeep : ∀ b c v, (D0 b \/ b = w.heap.size) -> w3.drew.cell? ⟨b, c, none⟩ = some v -> w5.cell? ⟨b, c, none⟩ = some v := fun b c v hb hv => by
   have hlt := World.block_lt_of_cell? w3.drew ⟨b, c, none⟩ hv
   rw [World.cell?_of_block (hk5 b hlt (hb.imp (fun s => hD0 _ s) id))]
   exact hv
 refine hK.out _ _ ⟨hkeep _ _ _ (.inl hDb) hc.1, hkeep _ _ _ (.inr rfl) hc.2.1, hkeep _ _ _ (.inr rfl) hc.2.2.1, hkeep _ _ _ (.inr rfl) hc.2.2.2⟩ ?_
 clear hK
 refine wpAnyE_last (i := 15) (by kernel_rfl) rfl (by rfl) (by kernel_rfl) (by kernel_rfl) (fun K hK => ?_)
 go_simp
 refine hK.out _ _ ?_
 clear hK
 go_wp2
 go_ret
 exact ⟨rfl, hQ5⟩
theorem st_scanN_b (h : Dka w C bk bx bd vy d zs k) (hC : ∀ i, C i -> i < w.heap.size) (hI : KInv k d zs) (bW j : Nat) (hjl : j + 1 = k.ones.length) (hj1 : k.ones.length <= 1) (hon : k.ones.length <= 4194000) (Dd B L : Value) (A : Int) (S T : Nm) (q : Option Addr) (qc : Nat) (l : List Ox) (hlim : A < 0) (hshj : ∀ (hj : j < k.ones.length), shutX k k.ones[j] = (0, false)) {Q : World -> Prop} (hLS : ∀ (hj : j < k.ones.length) w2 ql qc, Below w.heap.size w w2 -> Pairp w2 ql k.ones[j].l -> Calls Tryz.prog 105 #[.pointer (some ⟨bW, 0, none⟩), .pointer (some ⟨bk, 0, none⟩), .slice none 0 0, .int .i64 1, .slice ql k.ones[j].l.length qc, str S, str T, .int .i64 A] w2 fun e w' => e = .returned (.bool true) /\ Q w' /\ ∀ b, b < w2.heap.size -> (C b \/ b = w.heap.size) -> w'.heap[b]? = w2.heap[b]?) :
   Calls Tryz.prog 64 #[.pointer (some ⟨bW, 0, none⟩), .pointer (some ⟨bk, 0, none⟩), .agg #[.int .i64 16, Dd, .int .i64 A, B, str S, str T, .slice q l.length qc, L, .bool true]] w fun e w' => e = .returned (.bool true) /\ Q w' := by
 have _hu := hon
 have hj : j < k.ones.length := by omega
 have hz : j < zs.length := by rw [hI.zlen]; exact hj
 obtain ⟨w1, hw1⟩ : ∃ w1, w1 = w.alloc (.cells #[.int .i64 16, Dd, .int .i64 A, B, str S, str T, .slice q l.length qc, L, .bool true] 67) := ⟨_, rfl⟩
 have hB : Below w.heap.size w w1 := by rw [hw1]; exact (Below.refl _ w).alloc (Nat.le_refl _) _
 have hsz1 : w1.heap.size = w.heap.size + 1 := by rw [hw1]; simp
 have h1 := h.below hB
 have hC1 : ∀ i, C i -> i < w1.heap.size := fun i s => by have := hC i s; omega
 obtain ⟨D0, hv1, hD0⟩ := Dv.start h1
 have hLa := klast_any hv1 j (by omega) (by omega)
 obtain ⟨m0, -, m2, -, -⟩ := hv1.dcells
 obtain ⟨qs, cs, s8, -, -, -, hcs⟩ := hv1.srow
 have hbo : w1.heap[w.heap.size]? = some (.cells #[.int .i64 16, Dd, .int .i64 A, B, str S, str T, .slice q l.length qc, L, .bool true] 67) := by rw [hw1]; exact block_new w _
 obtain ⟨o0, o1, o2, o3, o4, o5, o6, o7, o8⟩ := op_cells hbo
 have hsh := hshj hj
 obtain ⟨hop, hkd⟩ := shut_open hsh
 have hal : d.dead = false := by rw [<- hI.dead]; exact hkd
 obtain ⟨q1, q2, q3, q4, q5⟩ := hI.open' j hj hz hop
 have hzat := hI.zat j hj hz
 have hrd : ready d.turn d.dead zs[j].2 = 0 := by unfold ready; rw [if_neg (by simp [q2]), hal]; rfl
 have hmo := hI.mok zs[j] (List.getElem_mem hz)
 have hSc : ∀ w', Below w1.heap.size w1 w' -> _ := fun w' hw => (hv1.below hw).scanNo j hz S T A 1 (by decide) (.inr ⟨hrd, hlim, rfl⟩)
 rw [hzat] at hSc
 clear hop hkd q1 q2 q3 q4 q5 hrd hal hmo
 have HB : Hid (Below w.heap.size w w1) := hB
 have HW : Hid (w1 = w.alloc (.cells #[.int .i64 16, Dd, .int .i64 A, B, str S, str T, .slice q l.length qc, L, .bool true] 67)) := hw1
 have hlen : ((k.ones.length : Int) <= 1) = (k.ones.length <= 1) := by simp; omega
 have hnl : ¬ (1 : Int) < (k.ones.length : Int) := by omega
 clear hcs
 have HV1 : Hid (Dv w1 C w1 D0 bk bx bd vy d zs k) := hv1
 rw [hw1] at m2
 clear h h1 hB hw1 hbo hv1 hlen
 go_enter Tryz.func64, Tryz.ntmps64
 go_wp2_with (first
   | (go_at_call 101; rw [<- HW.out]; refine hLa.mono ?_; rintro e w2 ⟨rfl, n2, rfl⟩; clear hLa m2; have m2 : w1.cell? ⟨bk, 2, none⟩ = some (.pointer (some ⟨k.kb, 0, none⟩)) := HV1.out.dcells.2.2.1; have HN : Hid (Below w1.heap.size w1 (w1.drewN n2)) := (Sm.drewN _ _).belowB)
   | fail)
 have hwn : Below w1.heap.size w1 (w1.drewN n2).drew := HN.out.drew
 have hc : (w1.drewN n2).drew.cell? ⟨k.ones[j].b, 0, none⟩ = some (.pointer (some ⟨k.ones[j].z, 0, none⟩)) /\ (w1.drewN n2).drew.cell? ⟨w.heap.size, 4, none⟩ = some (str S) /\ (w1.drewN n2).drew.cell? ⟨w.heap.size, 5, none⟩ = some (str T) /\ (w1.drewN n2).drew.cell? ⟨w.heap.size, 2, none⟩ = some (.int .i64 A) := ⟨((HV1.out.below hwn).cells j hj).1.2.1, o4, o5, o2⟩
 have hSc' := hSc _ hwn
 refine wp_region_E (S := fun w' => w'.cell? ⟨k.ones[j].b, 0, none⟩ = some (.pointer (some ⟨k.ones[j].z, 0, none⟩)) /\ w'.cell? ⟨w.heap.size, 4, none⟩ = some (str S) /\ w'.cell? ⟨w.heap.size, 5, none⟩ = some (str T) /\ w'.cell? ⟨w.heap.size, 2, none⟩ = some (.int .i64 A)) mixedT ?_
 refine tp 0 14 k.ones[j].b 0 rfl rfl (fun w' hS => ?_) hc ?_
 . obtain ⟨hS1, hS2, hS3, hS4⟩ := hS
   go_simp
 refine tp 1 14 k.ones[j].b 0 rfl rfl (fun w' hS => ?_) hc ?_
 . obtain ⟨hS1, hS2, hS3, hS4⟩ := hS
   go_simp
 refine tp 2 14 k.ones[j].b 0 rfl rfl (fun w' hS => ?_) hc ?_
 . obtain ⟨hS1, hS2, hS3, hS4⟩ := hS
   go_simp
 refine tp 3 14 k.ones[j].z 0 rfl rfl (fun w' hS => ?_) hc ?_
 . obtain ⟨hS1, hS2, hS3, hS4⟩ := hS
   go_simp
 refine tp 4 14 w.heap.size 4 rfl rfl (fun w' hS => ?_) hc ?_
 . obtain ⟨hS1, hS2, hS3, hS4⟩ := hS
   go_simp
 refine tk 5 14 (str S) rfl rfl (fun w' hS => ?_) hc ?_
 . obtain ⟨hS1, hS2, hS3, hS4⟩ := hS
   go_simp
 refine tp 6 14 w.heap.size 5 rfl rfl (fun w' hS => ?_) hc ?_
 . obtain ⟨hS1, hS2, hS3, hS4⟩ := hS
   go_simp
 refine tk 7 14 (str T) rfl rfl (fun w' hS => ?_) hc ?_
 . obtain ⟨hS1, hS2, hS3, hS4⟩ := hS
   go_simp
 refine tp 8 14 w.heap.size 2 rfl rfl (fun w' hS => ?_) hc ?_
 . obtain ⟨hS1, hS2, hS3, hS4⟩ := hS
   go_simp
 refine tk 9 14 (.int .i64 A) rfl rfl (fun w' hS => ?_) hc ?_
 . obtain ⟨hS1, hS2, hS3, hS4⟩ := hS
   go_simp
 refine wpAnyE_one (i := 10) (by kernel_rfl) rfl (by rfl) (fun K hK => ?_)
 go_simp
 refine hSc'.mono ?_
 clear hSc hSc'
 rintro e w3 ⟨rfl, hb3⟩
 have hB3 : Below w1.heap.size w1 w3 := hwn.trans (hb3.mono hwn.size)
 have hv3 := HV1.out.below hB3
 clear hc
 have s4 : w3.cell? ⟨w.heap.size, 4, none⟩ = some (str S) := cell_below hB3 o4
 have s5 : w3.cell? ⟨w.heap.size, 5, none⟩ = some (str T) := cell_below hB3 o5
 have s2 : w3.cell? ⟨w.heap.size, 2, none⟩ = some (.int .i64 A) := cell_below hB3 o2
 have hc : w3.cell? ⟨k.ones[j].b, 0, none⟩ = some (.pointer (some ⟨k.ones[j].z, 0, none⟩)) /\ w3.cell? ⟨w.heap.size, 4, none⟩ = some (str S) /\ w3.cell? ⟨w.heap.size, 5, none⟩ = some (str T) /\ w3.cell? ⟨w.heap.size, 2, none⟩ = some (.int .i64 A) := ⟨(hv3.cells j hj).1.2.1, s4, s5, s2⟩
 refine hK.out _ _ hc ?_
 clear hK
 refine wpAnyE_one (i := 11) (by kernel_rfl) rfl (by rfl) (fun K hK => ?_)
 go_simp
 refine hK.out _ _ hc ?_
 clear hK
 refine tk 12 14 (.slice none 0 0) rfl rfl (fun w' hS => ?_) hc ?_
 . obtain ⟨hS1, hS2, hS3, hS4⟩ := hS
   go_simp
 refine tk 13 15 (.int .i64 1) rfl rfl (fun w' hS => ?_) hc ?_
 . obtain ⟨hS1, hS2, hS3, hS4⟩ := hS
   go_simp
 refine wpAnyE_one (i := 14) (by kernel_rfl) rfl (by rfl) (fun K hK => ?_)
 go_simp
 refine hK.out _ _ hc ?_
 clear hK
 refine wpAnyE_last (i := 15) (by kernel_rfl) rfl (by rfl) (by kernel_rfl) (by kernel_rfl) (fun K hK => ?_)
 go_simp
 refine hK.out _ _ ?_
 clear hK
 have hSh := shut_any hv3 j hj
 rw [hsh] at hSh
 go_wp2_with (go_at_call 103; refine hSh.mono ?_; rintro e w4 ⟨rfl, rfl⟩; clear hSh)
 have hv3d := hv3.drew
 obtain ⟨-, -, ⟨ql, cl, l2, hpl⟩, -, -, hDb, -⟩ := hv3d.cells j hj
 have hB3d : Below w.heap.size w w3.drew := HB.out.trans ((hB3.mono (by omega)).drew)
 have hLs := hLS hj w3.drew ql cl hB3d hpl
 clear hc
 have hc : w3.drew.cell? ⟨k.ones[j].b, 2, none⟩ = some (.slice ql k.ones[j].l.length cl) /\ w3.drew.cell? ⟨w.heap.size, 4, none⟩ = some (str S) /\ w3.drew.cell? ⟨w.heap.size, 5, none⟩ = some (str T) /\ w3.drew.cell? ⟨w.heap.size, 2, none⟩ = some (.int .i64 A) := ⟨l2, s4, s5, s2⟩
 refine wp_region_E (S := fun w' => w'.cell? ⟨k.ones[j].b, 2, none⟩ = some (.slice ql k.ones[j].l.length cl) /\ w'.cell? ⟨w.heap.size, 4, none⟩ = some (str S) /\ w'.cell? ⟨w.heap.size, 5, none⟩ = some (str T) /\ w'.cell? ⟨w.heap.size, 2, none⟩ = some (.int .i64 A)) mixedT ?_
 refine tp 0 15 bW 0 rfl rfl (fun w' hS => ?_) hc ?_
 . obtain ⟨hS1, hS2, hS3, hS4⟩ := hS
   go_simp
 refine tp 1 15 bk 0 rfl rfl (fun w' hS => ?_) hc ?_
 . obtain ⟨hS1, hS2, hS3, hS4⟩ := hS
   go_simp
 refine tk 2 15 (.slice none 0 0) rfl rfl (fun w' hS => ?_) hc ?_
 . obtain ⟨hS1, hS2, hS3, hS4⟩ := hS
   go_simp
 refine tk 3 15 (.int .i64 1) rfl rfl (fun w' hS => ?_) hc ?_
 . obtain ⟨hS1, hS2, hS3, hS4⟩ := hS
   go_simp
 refine tp 4 15 k.ones[j].b 0 rfl rfl (fun w' hS => ?_) hc ?_
 . obtain ⟨hS1, hS2, hS3, hS4⟩ := hS
   go_simp
 refine tp 5 15 k.ones[j].b 0 rfl rfl (fun w' hS => ?_) hc ?_
 . obtain ⟨hS1, hS2, hS3, hS4⟩ := hS
   go_simp
 refine tp 6 15 k.ones[j].b 2 rfl rfl (fun w' hS => ?_) hc ?_
 . obtain ⟨hS1, hS2, hS3, hS4⟩ := hS
   go_simp
 refine tk 7 15 (.slice ql k.ones[j].l.length cl) rfl rfl (fun w' hS => ?_) hc ?_
 . obtain ⟨hS1, hS2, hS3, hS4⟩ := hS
   go_simp
 refine tp 8 15 w.heap.size 4 rfl rfl (fun w' hS => ?_) hc ?_
 . obtain ⟨hS1, hS2, hS3, hS4⟩ := hS
   go_simp
 refine tk 9 15 (str S) rfl rfl (fun w' hS => ?_) hc ?_
 . obtain ⟨hS1, hS2, hS3, hS4⟩ := hS
   go_simp
 refine tp 10 15 w.heap.size 5 rfl rfl (fun w' hS => ?_) hc ?_
 . obtain ⟨hS1, hS2, hS3, hS4⟩ := hS
   go_simp
 refine tk 11 15 (str T) rfl rfl (fun w' hS => ?_) hc ?_
 . obtain ⟨hS1, hS2, hS3, hS4⟩ := hS
   go_simp
 refine tp 12 15 w.heap.size 2 rfl rfl (fun w' hS => ?_) hc ?_
 . obtain ⟨hS1, hS2, hS3, hS4⟩ := hS
   go_simp
 refine tk 13 15 (.int .i64 A) rfl rfl (fun w' hS => ?_) hc ?_
 . obtain ⟨hS1, hS2, hS3, hS4⟩ := hS
   go_simp
 refine wpAnyE_one (i := 14) (by kernel_rfl) rfl (by rfl) (fun K hK => ?_)
 go_simp
 refine hLs.mono ?_
 clear hLs
 rintro e w5 ⟨rfl, hQ5, hk5⟩
 have hkeep : ∀ b c v, (D0 b \/ b = w.heap.size) -> w3.drew.cell? ⟨b, c, none⟩ = some v -> w5.cell? ⟨b, c, none⟩ = some v := fun b c v hb hv => by
   have hlt := World.block_lt_of_cell? w3.drew ⟨b, c, none⟩ hv
   rw [World.cell?_of_block (hk5 b hlt (hb.imp (fun s => hD0 _ s) id))]
   exact hv
 refine hK.out _ _ ⟨hkeep _ _ _ (.inl hDb) hc.1, hkeep _ _ _ (.inr rfl) hc.2.1, hkeep _ _ _ (.inr rfl) hc.2.2.1, hkeep _ _ _ (.inr rfl) hc.2.2.2⟩ ?_
 clear hK
 refine wpAnyE_last (i := 15) (by kernel_rfl) rfl (by rfl) (by kernel_rfl) (by kernel_rfl) (fun K hK => ?_)
 go_simp
 refine hK.out _ _ ?_
 clear hK
 go_wp2
 go_ret
 exact ⟨rfl, hQ5⟩
theorem st_scanN_c (h : Dka w C bk bx bd vy d zs k) (hC : ∀ i, C i -> i < w.heap.size) (hI : KInv k d zs) (bW j : Nat) (hjl : j + 2 = k.ones.length) (hon : k.ones.length <= 4194000) (Dd B L : Value) (A : Int) (S T : Nm) (q : Option Addr) (qc : Nat) (l : List Ox) (hlim : A < 0) (hshj : ∀ (hj : j < k.ones.length), shutX k k.ones[j] = (0, false)) {Q : World -> Prop} (hLS : ∀ (hj : j < k.ones.length) w2 ql qc, Below w.heap.size w w2 -> Pairp w2 ql k.ones[j].l -> Calls Tryz.prog 105 #[.pointer (some ⟨bW, 0, none⟩), .pointer (some ⟨bk, 0, none⟩), .slice none 0 0, .int .i64 1, .slice ql k.ones[j].l.length qc, str S, str T, .int .i64 A] w2 fun e w' => e = .returned (.bool true) /\ Q w' /\ ∀ b, b < w2.heap.size -> (C b \/ b = w.heap.size) -> w'.heap[b]? = w2.heap[b]?) :
   Calls Tryz.prog 64 #[.pointer (some ⟨bW, 0, none⟩), .pointer (some ⟨bk, 0, none⟩), .agg #[.int .i64 16, Dd, .int .i64 A, B, str S, str T, .slice q l.length qc, L, .bool true]] w fun e w' => e = .returned (.bool true) /\ Q w' := by
 have _hu := hon
 have hj : j < k.ones.length := by omega
 have hz : j < zs.length := by rw [hI.zlen]; exact hj
 obtain ⟨w1, hw1⟩ : ∃ w1, w1 = w.alloc (.cells #[.int .i64 16, Dd, .int .i64 A, B, str S, str T, .slice q l.length qc, L, .bool true] 67) := ⟨_, rfl⟩
 have hB : Below w.heap.size w w1 := by rw [hw1]; exact (Below.refl _ w).alloc (Nat.le_refl _) _
 have hsz1 : w1.heap.size = w.heap.size + 1 := by rw [hw1]; simp
 have h1 := h.below hB
 have hC1 : ∀ i, C i -> i < w1.heap.size := fun i s => by have := hC i s; omega
 obtain ⟨D0, hv1, hD0⟩ := Dv.start h1
 have hLa := klast_any hv1 (j + 1) (by omega) (by omega)
 obtain ⟨m0, -, m2, -, -⟩ := hv1.dcells
 obtain ⟨qs, cs, s8, -, -, -, hcs⟩ := hv1.srow
 have hbo : w1.heap[w.heap.size]? = some (.cells #[.int .i64 16, Dd, .int .i64 A, B, str S, str T, .slice q l.length qc, L, .bool true] 67) := by rw [hw1]; exact block_new w _
 obtain ⟨o0, o1, o2, o3, o4, o5, o6, o7, o8⟩ := op_cells hbo
 have hsh := hshj hj
 obtain ⟨hop, hkd⟩ := shut_open hsh
 have hal : d.dead = false := by rw [<- hI.dead]; exact hkd
 obtain ⟨q1, q2, q3, q4, q5⟩ := hI.open' j hj hz hop
 have hzat := hI.zat j hj hz
 have hrd : ready d.turn d.dead zs[j].2 = 0 := by unfold ready; rw [if_neg (by simp [q2]), hal]; rfl
 have hmo := hI.mok zs[j] (List.getElem_mem hz)
 have hSc : ∀ w', Below w1.heap.size w1 w' -> _ := fun w' hw => (hv1.below hw).scanNo j hz S T A 1 (by decide) (.inr ⟨hrd, hlim, rfl⟩)
 rw [hzat] at hSc
 clear hop hkd q1 q2 q3 q4 q5 hrd hal hmo
 have HB : Hid (Below w.heap.size w w1) := hB
 have HW : Hid (w1 = w.alloc (.cells #[.int .i64 16, Dd, .int .i64 A, B, str S, str T, .slice q l.length qc, L, .bool true] 67)) := hw1
 have hlen : ((k.ones.length : Int) <= 1) = (k.ones.length <= 1) := by simp; omega
 have hnl : (1 : Int) < (k.ones.length : Int) := by omega
 obtain ⟨gs, rfl, hcj⟩ := hcs j (by omega)
 have hle2 : (k.ones.length : Int) = (j : Int) + 2 := by omega
 have HV1 : Hid (Dv w1 C w1 D0 bk bx bd vy d zs k) := hv1
 rw [hw1] at m2
 clear h h1 hB hw1 hbo hv1 hlen
 go_enter Tryz.func64, Tryz.ntmps64
 go_wp2_with (go_at_call 101; rw [<- HW.out]; refine hLa.mono ?_; rintro e w2 ⟨rfl, n2, rfl⟩; clear hLa m2; have m2 : w1.cell? ⟨bk, 2, none⟩ = some (.pointer (some ⟨k.kb, 0, none⟩)) := HV1.out.dcells.2.2.1)
 go_quiet (fail)
 have HN : Hid (Below w1.heap.size w1 (w1.drewN (n2 + nq))) := (Sm.drewN _ _).belowB
 clear m2
 go_wp2
 have hwn : Below w1.heap.size w1 (w1.drewN (n2 + nq)).drew := HN.out.drew
 have hc : (w1.drewN (n2 + nq)).drew.cell? ⟨k.ones[j].b, 0, none⟩ = some (.pointer (some ⟨k.ones[j].z, 0, none⟩)) /\ (w1.drewN (n2 + nq)).drew.cell? ⟨w.heap.size, 4, none⟩ = some (str S) /\ (w1.drewN (n2 + nq)).drew.cell? ⟨w.heap.size, 5, none⟩ = some (str T) /\ (w1.drewN (n2 + nq)).drew.cell? ⟨w.heap.size, 2, none⟩ = some (.int .i64 A) := ⟨((HV1.out.below hwn).cells j hj).1.2.1, o4, o5, o2⟩
 have hSc' := hSc _ hwn
 refine wp_region_E (S := fun w' => w'.cell? ⟨k.ones[j].b, 0, none⟩ = some (.pointer (some ⟨k.ones[j].z, 0, none⟩)) /\ w'.cell? ⟨w.heap.size, 4, none⟩ = some (str S) /\ w'.cell? ⟨w.heap.size, 5, none⟩ = some (str T) /\ w'.cell? ⟨w.heap.size, 2, none⟩ = some (.int .i64 A)) mixedT ?_
 refine tp 0 14 k.ones[j].b 0 rfl rfl (fun w' hS => ?_) hc ?_
 . obtain ⟨hS1, hS2, hS3, hS4⟩ := hS
   go_simp
 refine tp 1 14 k.ones[j].b 0 rfl rfl (fun w' hS => ?_) hc ?_
 . obtain ⟨hS1, hS2, hS3, hS4⟩ := hS
   go_simp
 refine tp 2 14 k.ones[j].b 0 rfl rfl (fun w' hS => ?_) hc ?_
 . obtain ⟨hS1, hS2, hS3, hS4⟩ := hS
   go_simp
 refine tp 3 14 k.ones[j].z 0 rfl rfl (fun w' hS => ?_) hc ?_
 . obtain ⟨hS1, hS2, hS3, hS4⟩ := hS
   go_simp
 refine tp 4 14 w.heap.size 4 rfl rfl (fun w' hS => ?_) hc ?_
 . obtain ⟨hS1, hS2, hS3, hS4⟩ := hS
   go_simp
 refine tk 5 14 (str S) rfl rfl (fun w' hS => ?_) hc ?_
 . obtain ⟨hS1, hS2, hS3, hS4⟩ := hS
   go_simp
 refine tp 6 14 w.heap.size 5 rfl rfl (fun w' hS => ?_) hc ?_
 . obtain ⟨hS1, hS2, hS3, hS4⟩ := hS
   go_simp
 refine tk 7 14 (str T) rfl rfl (fun w' hS => ?_) hc ?_
 . obtain ⟨hS1, hS2, hS3, hS4⟩ := hS
   go_simp
 refine tp 8 14 w.heap.size 2 rfl rfl (fun w' hS => ?_) hc ?_
 . obtain ⟨hS1, hS2, hS3, hS4⟩ := hS
   go_simp
 refine tk 9 14 (.int .i64 A) rfl rfl (fun w' hS => ?_) hc ?_
 . obtain ⟨hS1, hS2, hS3, hS4⟩ := hS
   go_simp
 refine wpAnyE_one (i := 10) (by kernel_rfl) rfl (by rfl) (fun K hK => ?_)
 go_simp
 refine hSc'.mono ?_
 clear hSc hSc'
 rintro e w3 ⟨rfl, hb3⟩
 have hB3 : Below w1.heap.size w1 w3 := hwn.trans (hb3.mono hwn.size)
 have hv3 := HV1.out.below hB3
 clear hc
 have s4 : w3.cell? ⟨w.heap.size, 4, none⟩ = some (str S) := cell_below hB3 o4
 have s5 : w3.cell? ⟨w.heap.size, 5, none⟩ = some (str T) := cell_below hB3 o5
 have s2 : w3.cell? ⟨w.heap.size, 2, none⟩ = some (.int .i64 A) := cell_below hB3 o2
 have hc : w3.cell? ⟨k.ones[j].b, 0, none⟩ = some (.pointer (some ⟨k.ones[j].z, 0, none⟩)) /\ w3.cell? ⟨w.heap.size, 4, none⟩ = some (str S) /\ w3.cell? ⟨w.heap.size, 5, none⟩ = some (str T) /\ w3.cell? ⟨w.heap.size, 2, none⟩ = some (.int .i64 A) := ⟨(hv3.cells j hj).1.2.1, s4, s5, s2⟩
 refine hK.out _ _ hc ?_
 clear hK
 refine wpAnyE_one (i := 11) (by kernel_rfl) rfl (by rfl) (fun K hK => ?_)
 go_simp
 refine hK.out _ _ hc ?_
 clear hK
 refine tk 12 14 (.slice none 0 0) rfl rfl (fun w' hS => ?_) hc ?_
 . obtain ⟨hS1, hS2, hS3, hS4⟩ := hS
   go_simp
 refine tk 13 15 (.int .i64 1) rfl rfl (fun w' hS => ?_) hc ?_
 . obtain ⟨hS1, hS2, hS3, hS4⟩ := hS
   go_simp
 refine wpAnyE_one (i := 14) (by kernel_rfl) rfl (by rfl) (fun K hK => ?_)
 go_simp
 refine hK.out _ _ hc ?_
 clear hK
 refine wpAnyE_last (i := 15) (by kernel_rfl) rfl (by rfl) (by kernel_rfl) (by kernel_rfl) (fun K hK => ?_)
 go_simp
 refine hK.out _ _ ?_
 clear hK
 have hSh := shut_any hv3 j hj
 rw [hsh] at hSh
 go_wp2_with (go_at_call 103; refine hSh.mono ?_; rintro e w4 ⟨rfl, rfl⟩; clear hSh)
 have hv3d := hv3.drew
 obtain ⟨-, -, ⟨ql, cl, l2, hpl⟩, -, -, hDb, -⟩ := hv3d.cells j hj
 have hB3d : Below w.heap.size w w3.drew := HB.out.trans ((hB3.mono (by omega)).drew)
 have hLs := hLS hj w3.drew ql cl hB3d hpl
 clear hc
 have hc : w3.drew.cell? ⟨k.ones[j].b, 2, none⟩ = some (.slice ql k.ones[j].l.length cl) /\ w3.drew.cell? ⟨w.heap.size, 4, none⟩ = some (str S) /\ w3.drew.cell? ⟨w.heap.size, 5, none⟩ = some (str T) /\ w3.drew.cell? ⟨w.heap.size, 2, none⟩ = some (.int .i64 A) := ⟨l2, s4, s5, s2⟩
 refine wp_region_E (S := fun w' => w'.cell? ⟨k.ones[j].b, 2, none⟩ = some (.slice ql k.ones[j].l.length cl) /\ w'.cell? ⟨w.heap.size, 4, none⟩ = some (str S) /\ w'.cell? ⟨w.heap.size, 5, none⟩ = some (str T) /\ w'.cell? ⟨w.heap.size, 2, none⟩ = some (.int .i64 A)) mixedT ?_
 refine tp 0 15 bW 0 rfl rfl (fun w' hS => ?_) hc ?_
 . obtain ⟨hS1, hS2, hS3, hS4⟩ := hS
   go_simp
 refine tp 1 15 bk 0 rfl rfl (fun w' hS => ?_) hc ?_
 . obtain ⟨hS1, hS2, hS3, hS4⟩ := hS
   go_simp
 refine tk 2 15 (.slice none 0 0) rfl rfl (fun w' hS => ?_) hc ?_
 . obtain ⟨hS1, hS2, hS3, hS4⟩ := hS
   go_simp
 refine tk 3 15 (.int .i64 1) rfl rfl (fun w' hS => ?_) hc ?_
 . obtain ⟨hS1, hS2, hS3, hS4⟩ := hS
   go_simp
 refine tp 4 15 k.ones[j].b 0 rfl rfl (fun w' hS => ?_) hc ?_
 . obtain ⟨hS1, hS2, hS3, hS4⟩ := hS
   go_simp
 refine tp 5 15 k.ones[j].b 0 rfl rfl (fun w' hS => ?_) hc ?_
 . obtain ⟨hS1, hS2, hS3, hS4⟩ := hS
   go_simp
 refine tp 6 15 k.ones[j].b 2 rfl rfl (fun w' hS => ?_) hc ?_
 . obtain ⟨hS1, hS2, hS3, hS4⟩ := hS
   go_simp
 refine tk 7 15 (.slice ql k.ones[j].l.length cl) rfl rfl (fun w' hS => ?_) hc ?_
 . obtain ⟨hS1, hS2, hS3, hS4⟩ := hS
   go_simp
 refine tp 8 15 w.heap.size 4 rfl rfl (fun w' hS => ?_) hc ?_
 . obtain ⟨hS1, hS2, hS3, hS4⟩ := hS
   go_simp
 refine tk 9 15 (str S) rfl rfl (fun w' hS => ?_) hc ?_
 . obtain ⟨hS1, hS2, hS3, hS4⟩ := hS
   go_simp
 refine tp 10 15 w.heap.size 5 rfl rfl (fun w' hS => ?_) hc ?_
 . obtain ⟨hS1, hS2, hS3, hS4⟩ := hS
   go_simp
 refine tk 11 15 (str T) rfl rfl (fun w' hS => ?_) hc ?_
 . obtain ⟨hS1, hS2, hS3, hS4⟩ := hS
   go_simp
 refine tp 12 15 w.heap.size 2 rfl rfl (fun w' hS => ?_) hc ?_
 . obtain ⟨hS1, hS2, hS3, hS4⟩ := hS
   go_simp
 refine tk 13 15 (.int .i64 A) rfl rfl (fun w' hS => ?_) hc ?_
 . obtain ⟨hS1, hS2, hS3, hS4⟩ := hS
   go_simp
 refine wpAnyE_one (i := 14) (by kernel_rfl) rfl (by rfl) (fun K hK => ?_)
 go_simp
 refine hLs.mono ?_
 clear hLs
 rintro e w5 ⟨rfl, hQ5, hk5⟩
 have hkeep : ∀ b c v, (D0 b \/ b = w.heap.size) -> w3.drew.cell? ⟨b, c, none⟩ = some v -> w5.cell? ⟨b, c, none⟩ = some v := fun b c v hb hv => by
   have hlt := World.block_lt_of_cell? w3.drew ⟨b, c, none⟩ hv
   rw [World.cell?_of_block (hk5 b hlt (hb.imp (fun s => hD0 _ s) id))]
   exact hv
 refine hK.out _ _ ⟨hkeep _ _ _ (.inl hDb) hc.1, hkeep _ _ _ (.inr rfl) hc.2.1, hkeep _ _ _ (.inr rfl) hc.2.2.1, hkeep _ _ _ (.inr rfl) hc.2.2.2⟩ ?_
 clear hK
 refine wpAnyE_last (i := 15) (by kernel_rfl) rfl (by rfl) (by kernel_rfl) (by kernel_rfl) (fun K hK => ?_)
 go_simp
 refine hK.out _ _ ?_
 clear hK
 go_wp2
 go_ret
 exact ⟨rfl, hQ5⟩
end
end Go.Proofs.YtfghgmojnffgnaaGreat
