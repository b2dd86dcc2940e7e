import Derived.Test.YtfghgmojnffgnaaGreatPkBQ
set_option maxHeartbeats 4000000
set_option maxRecDepth 20000
namespace Go.Proofs.YtfghgmojnffgnaaGreat
open Go.RowKit Go.Maps Go.Sort
section
variable {w : World} {C : Nat -> Prop} {bk bx bd : Nat} {vy : Value} {d : Dk} {zs : List (Nat × St)} {k : Kno}
theorem st_put_a (h : Dka w C bk bx bd vy d zs k) (hC : ∀ i, C i -> i < w.heap.size) (hI : KInv k d zs) (bW j : Nat) (hjl : j + 1 = k.ones.length) (hon : k.ones.length <= 4194000) (Dd B L : Value) (A : Int) (S T : Nm) (q : Option Addr) (qc : Nat) (l : List Ox) (hl0 : l.length <= 4194304) (hp : Opp w q l) (hq0 : q = none -> l = [] /\ qc = 0) (hS : S.length <= 1048576) (hT : T.length <= 1048576) (hb : k.bytes <= 2097152) (ho : k.ops <= 1048576) :
   Calls Tryz.prog 64 #[.pointer (some ⟨bW, 0, none⟩), .pointer (some ⟨bk, 0, none⟩), .agg #[.int .i64 12, Dd, .int .i64 A, B, str S, str T, .slice q l.length qc, L, .bool false]] w (Out w C bk bx bd vy d k 1 (S.length + T.length)) := by
 have _hu := hon
 have hj : j < k.ones.length := by omega
 have hz : j < zs.length := by rw [hI.zlen]; exact hj
 obtain ⟨w1, hw1⟩ : ∃ w1, w1 = w.alloc (.cells #[.int .i64 12, Dd, .int .i64 A, B, str S, str T, .slice q l.length qc, L, .bool false] 67) := ⟨_, rfl⟩
 have hB : Below w.heap.size w w1 := by rw [hw1]; exact (Below.refl _ w).alloc (Nat.le_refl _) _
 have hsz1 : w1.heap.size = w.heap.size + 1 := by rw [hw1]; simp
 have h1 := h.below hB
 have hC1 : ∀ i, C i -> i < w1.heap.size := fun i s => by have := hC i s; omega
 obtain ⟨D0, hv1, hD0⟩ := Dv.start h1
 have hLa := klast_any hv1 j (by omega) (by omega)
 obtain ⟨m0, -, m2, -, -⟩ := hv1.dcells
 obtain ⟨qs, cs, s8, -, -, -, hcs⟩ := hv1.srow
 have hbo : w1.heap[w.heap.size]? = some (.cells #[.int .i64 12, Dd, .int .i64 A, B, str S, str T, .slice q l.length qc, L, .bool false] 67) := by rw [hw1]; exact block_new w _
 obtain ⟨o0, o1, o2, o3, o4, o5, o6, o7, o8⟩ := op_cells hbo
 have hBa : ∀ w', Below w1.heap.size w1 w' -> _ := fun w' hw => lbatch_put (h1.below hw) (fun i s => Nat.lt_of_lt_of_le (hC1 i s) hw.size) hI j hj hz Dd (.int .i64 A) B L (.bool false) S T q qc l hl0 ((hp.below hB).below hw) hq0 hS hT hb ho
 have HB : Hid (Below w.heap.size w w1) := hB
 have HW : Hid (w1 = w.alloc (.cells #[.int .i64 12, Dd, .int .i64 A, B, str S, str T, .slice q l.length qc, L, .bool false] 67)) := hw1
 have hlen : ((k.ones.length : Int) <= 1) = (k.ones.length <= 1) := by simp; omega
 have hnl : True := trivial
 clear hcs
 have HV1 : Hid (Dv w1 C w1 D0 bk bx bd vy d zs k) := hv1
 rw [hw1] at m2
 clear h h1 hB hw1 hbo hv1 hlen
 go_enter Tryz.func64, Tryz.ntmps64
 go_wp2_with (first
   | (go_at_call 101; rw [<- HW.out]; refine hLa.mono ?_; rintro e w2 ⟨rfl, n2, rfl⟩; clear hLa m2; have m2 : w1.cell? ⟨bk, 2, none⟩ = some (.pointer (some ⟨k.kb, 0, none⟩)) := HV1.out.dcells.2.2.1; have HN : Hid (Below w1.heap.size w1 (w1.drewN n2)) := (Sm.drewN _ _).belowB)
   | (go_at_call 102; refine (hBa _ HN.out).mono ?_; rintro e w3 ⟨rfl, hO⟩; clear hBa))
 go_ret
 exact (Out.behind (HB.out.trans (HN.out.mono (by omega))) ⟨rfl, hO⟩)
theorem st_del_a (h : Dka w C bk bx bd vy d zs k) (hC : ∀ i, C i -> i < w.heap.size) (hI : KInv k d zs) (bW j : Nat) (hjl : j + 1 = k.ones.length) (hon : k.ones.length <= 4194000) (Dd B L : Value) (A : Int) (S T : Nm) (q : Option Addr) (qc : Nat) (l : List Ox) (hl0 : l.length <= 4194304) (hp : Opp w q l) (hq0 : q = none -> l = [] /\ qc = 0) (hS : S.length <= 1048576) (hb : k.bytes <= 2097152) (ho : k.ops <= 1048576) :
   Calls Tryz.prog 64 #[.pointer (some ⟨bW, 0, none⟩), .pointer (some ⟨bk, 0, none⟩), .agg #[.int .i64 13, Dd, .int .i64 A, B, str S, str T, .slice q l.length qc, L, .bool false]] w (Out w C bk bx bd vy d k 1 (S.length + T.length)) := by
 have _hu := hon
 have hj : j < k.ones.length := by omega
 have hz : j < zs.length := by rw [hI.zlen]; exact hj
 obtain ⟨w1, hw1⟩ : ∃ w1, w1 = w.alloc (.cells #[.int .i64 13, Dd, .int .i64 A, B, str S, str T, .slice q l.length qc, L, .bool false] 67) := ⟨_, rfl⟩
 have hB : Below w.heap.size w w1 := by rw [hw1]; exact (Below.refl _ w).alloc (Nat.le_refl _) _
 have hsz1 : w1.heap.size = w.heap.size + 1 := by rw [hw1]; simp
 have h1 := h.below hB
 have hC1 : ∀ i, C i -> i < w1.heap.size := fun i s => by have := hC i s; omega
 obtain ⟨D0, hv1, hD0⟩ := Dv.start h1
 have hLa := klast_any hv1 j (by omega) (by omega)
 obtain ⟨m0, -, m2, -, -⟩ := hv1.dcells
 obtain ⟨qs, cs, s8, -, -, -, hcs⟩ := hv1.srow
 have hbo : w1.heap[w.heap.size]? = some (.cells #[.int .i64 13, Dd, .int .i64 A, B, str S, str T, .slice q l.length qc, L, .bool false] 67) := by rw [hw1]; exact block_new w _
 obtain ⟨o0, o1, o2, o3, o4, o5, o6, o7, o8⟩ := op_cells hbo
 have hBa : ∀ w', Below w1.heap.size w1 w' -> _ := fun w' hw => lbatch_del (h1.below hw) (fun i s => Nat.lt_of_lt_of_le (hC1 i s) hw.size) hI j hj hz Dd (.int .i64 A) B L (.bool false) S T q qc l hl0 ((hp.below hB).below hw) hq0 hS hb ho
 have HB : Hid (Below w.heap.size w w1) := hB
 have HW : Hid (w1 = w.alloc (.cells #[.int .i64 13, Dd, .int .i64 A, B, str S, str T, .slice q l.length qc, L, .bool false] 67)) := hw1
 have hlen : ((k.ones.length : Int) <= 1) = (k.ones.length <= 1) := by simp; omega
 have hnl : True := trivial
 clear hcs
 have HV1 : Hid (Dv w1 C w1 D0 bk bx bd vy d zs k) := hv1
 rw [hw1] at m2
 clear h h1 hB hw1 hbo hv1 hlen
 go_enter Tryz.func64, Tryz.ntmps64
 go_wp2_with (first
   | (go_at_call 101; rw [<- HW.out]; refine hLa.mono ?_; rintro e w2 ⟨rfl, n2, rfl⟩; clear hLa m2; have m2 : w1.cell? ⟨bk, 2, none⟩ = some (.pointer (some ⟨k.kb, 0, none⟩)) := HV1.out.dcells.2.2.1; have HN : Hid (Below w1.heap.size w1 (w1.drewN n2)) := (Sm.drewN _ _).belowB)
   | (go_at_call 102; refine (hBa _ HN.out).mono ?_; rintro e w3 ⟨rfl, hO⟩; clear hBa))
 go_ret
 exact (Out.behind (HB.out.trans (HN.out.mono (by omega))) ⟨rfl, hO⟩)
theorem st_put_b (h : Dka w C bk bx bd vy d zs k) (hC : ∀ i, C i -> i < w.heap.size) (hI : KInv k d zs) (bW j : Nat) (hjl : j + 1 = k.ones.length) (hj1 : k.ones.length <= 1) (hon : k.ones.length <= 4194000) (Dd B L : Value) (A : Int) (S T : Nm) (q : Option Addr) (qc : Nat) (l : List Ox) (hl0 : l.length <= 4194304) (hp : Opp w q l) (hq0 : q = none -> l = [] /\ qc = 0) (hS : S.length <= 1048576) (hT : T.length <= 1048576) (hb : k.bytes <= 2097152) (ho : k.ops <= 1048576) :
   Calls Tryz.prog 64 #[.pointer (some ⟨bW, 0, none⟩), .pointer (some ⟨bk, 0, none⟩), .agg #[.int .i64 12, Dd, .int .i64 A, B, str S, str T, .slice q l.length qc, L, .bool true]] w (Out w C bk bx bd vy d k 1 (S.length + T.length)) := by
 have _hu := hon
 have hj : j < k.ones.length := by omega
 have hz : j < zs.length := by rw [hI.zlen]; exact hj
 obtain ⟨w1, hw1⟩ : ∃ w1, w1 = w.alloc (.cells #[.int .i64 12, Dd, .int .i64 A, B, str S, str T, .slice q l.length qc, L, .bool true] 67) := ⟨_, rfl⟩
 have hB : Below w.heap.size w w1 := by rw [hw1]; exact (Below.refl _ w).alloc (Nat.le_refl _) _
 have hsz1 : w1.heap.size = w.heap.size + 1 := by rw [hw1]; simp
 have h1 := h.below hB
 have hC1 : ∀ i, C i -> i < w1.heap.size := fun i s => by have := hC i s; omega
 obtain ⟨D0, hv1, hD0⟩ := Dv.start h1
 have hLa := klast_any hv1 j (by omega) (by omega)
 obtain ⟨m0, -, m2, -, -⟩ := hv1.dcells
 obtain ⟨qs, cs, s8, -, -, -, hcs⟩ := hv1.srow
 have hbo : w1.heap[w.heap.size]? = some (.cells #[.int .i64 12, Dd, .int .i64 A, B, str S, str T, .slice q l.length qc, L, .bool true] 67) := by rw [hw1]; exact block_new w _
 obtain ⟨o0, o1, o2, o3, o4, o5, o6, o7, o8⟩ := op_cells hbo
 have hBa : ∀ w', Below w1.heap.size w1 w' -> _ := fun w' hw => lbatch_put (h1.below hw) (fun i s => Nat.lt_of_lt_of_le (hC1 i s) hw.size) hI j hj hz Dd (.int .i64 A) B L (.bool true) S T q qc l hl0 ((hp.below hB).below hw) hq0 hS hT hb ho
 have HB : Hid (Below w.heap.size w w1) := hB
 have HW : Hid (w1 = w.alloc (.cells #[.int .i64 12, Dd, .int .i64 A, B, str S, str T, .slice q l.length qc, L, .bool true] 67)) := hw1
 have hlen : ((k.ones.length : Int) <= 1) = (k.ones.length <= 1) := by simp; omega
 have hnl : ¬ (1 : Int) < (k.ones.length : Int) := by omega
 clear hcs
 have HV1 : Hid (Dv w1 C w1 D0 bk bx bd vy d zs k) := hv1
 rw [hw1] at m2
 clear h h1 hB hw1 hbo hv1 hlen
 go_enter Tryz.func64, Tryz.ntmps64
 go_wp2_with (first
   | (go_at_call 101; rw [<- HW.out]; refine hLa.mono ?_; rintro e w2 ⟨rfl, n2, rfl⟩; clear hLa m2; have m2 : w1.cell? ⟨bk, 2, none⟩ = some (.pointer (some ⟨k.kb, 0, none⟩)) := HV1.out.dcells.2.2.1; have HN : Hid (Below w1.heap.size w1 (w1.drewN n2)) := (Sm.drewN _ _).belowB)
   | (go_at_call 102; refine (hBa _ HN.out).mono ?_; rintro e w3 ⟨rfl, hO⟩; clear hBa))
 go_ret
 exact (Out.behind (HB.out.trans (HN.out.mono (by omega))) ⟨rfl, hO⟩)
theorem st_del_b (h : Dka w C bk bx bd vy d zs k) (hC : ∀ i, C i -> i < w.heap.size) (hI : KInv k d zs) (bW j : Nat) (hjl : j + 1 = k.ones.length) (hj1 : k.ones.length <= 1) (hon : k.ones.length <= 4194000) (Dd B L : Value) (A : Int) (S T : Nm) (q : Option Addr) (qc : Nat) (l : List Ox) (hl0 : l.length <= 4194304) (hp : Opp w q l) (hq0 : q = none -> l = [] /\ qc = 0) (hS : S.length <= 1048576) (hb : k.bytes <= 2097152) (ho : k.ops <= 1048576) :
   Calls Tryz.prog 64 #[.pointer (some ⟨bW, 0, none⟩), .pointer (some ⟨bk, 0, none⟩), .agg #[.int .i64 13, Dd, .int .i64 A, B, str S, str T, .slice q l.length qc, L, .bool true]] w (Out w C bk bx bd vy d k 1 (S.length + T.length)) := by
 have _hu := hon
 have hj : j < k.ones.length := by omega
 have hz : j < zs.length := by rw [hI.zlen]; exact hj
 obtain ⟨w1, hw1⟩ : ∃ w1, w1 = w.alloc (.cells #[.int .i64 13, Dd, .int .i64 A, B, str S, str T, .slice q l.length qc, L, .bool true] 67) := ⟨_, rfl⟩
 have hB : Below w.heap.size w w1 := by rw [hw1]; exact (Below.refl _ w).alloc (Nat.le_refl _) _
 have hsz1 : w1.heap.size = w.heap.size + 1 := by rw [hw1]; simp
 have h1 := h.below hB
 have hC1 : ∀ i, C i -> i < w1.heap.size := fun i s => by have := hC i s; omega
 obtain ⟨D0, hv1, hD0⟩ := Dv.start h1
 have hLa := klast_any hv1 j (by omega) (by omega)
 obtain ⟨m0, -, m2, -, -⟩ := hv1.dcells
 obtain ⟨qs, cs, s8, -, -, -, hcs⟩ := hv1.srow
 have hbo : w1.heap[w.heap.size]? = some (.cells #[.int .i64 13, Dd, .int .i64 A, B, str S, str T, .slice q l.length qc, L, .bool true] 67) := by rw [hw1]; exact block_new w _
 obtain ⟨o0, o1, o2, o3, o4, o5, o6, o7, o8⟩ := op_cells hbo
 have hBa : ∀ w', Below w1.heap.size w1 w' -> _ := fun w' hw => lbatch_del (h1.below hw) (fun i s => Nat.lt_of_lt_of_le (hC1 i s) hw.size) hI j hj hz Dd (.int .i64 A) B L (.bool true) S T q qc l hl0 ((hp.below hB).below hw) hq0 hS hb ho
 have HB : Hid (Below w.heap.size w w1) := hB
 have HW : Hid (w1 = w.alloc (.cells #[.int .i64 13, Dd, .int .i64 A, B, str S, str T, .slice q l.length qc, L, .bool true] 67)) := hw1
 have hlen : ((k.ones.length : Int) <= 1) = (k.ones.length <= 1) := by simp; omega
 have hnl : ¬ (1 : Int) < (k.ones.length : Int) := by omega
 clear hcs
 have HV1 : Hid (Dv w1 C w1 D0 bk bx bd vy d zs k) := hv1
 rw [hw1] at m2
 clear h h1 hB hw1 hbo hv1 hlen
 go_enter Tryz.func64, Tryz.ntmps64
 go_wp2_with (first
   | (go_at_call 101; rw [<- HW.out]; refine hLa.mono ?_; rintro e w2 ⟨rfl, n2, rfl⟩; clear hLa m2; have m2 : w1.cell? ⟨bk, 2, none⟩ = some (.pointer (some ⟨k.kb, 0, none⟩)) := HV1.out.dcells.2.2.1; have HN : Hid (Below w1.heap.size w1 (w1.drewN n2)) := (Sm.drewN _ _).belowB)
   | (go_at_call 102; refine (hBa _ HN.out).mono ?_; rintro e w3 ⟨rfl, hO⟩; clear hBa))
 go_ret
 exact (Out.behind (HB.out.trans (HN.out.mono (by omega))) ⟨rfl, hO⟩)
theorem st_put_c (h : Dka w C bk bx bd vy d zs k) (hC : ∀ i, C i -> i < w.heap.size) (hI : KInv k d zs) (bW j : Nat) (hjl : j + 2 = k.ones.length) (hon : k.ones.length <= 4194000) (Dd B L : Value) (A : Int) (S T : Nm) (q : Option Addr) (qc : Nat) (l : List Ox) (hl0 : l.length <= 4194304) (hp : Opp w q l) (hq0 : q = none -> l = [] /\ qc = 0) (hS : S.length <= 1048576) (hT : T.length <= 1048576) (hb : k.bytes <= 2097152) (ho : k.ops <= 1048576) :
   Calls Tryz.prog 64 #[.pointer (some ⟨bW, 0, none⟩), .pointer (some ⟨bk, 0, none⟩), .agg #[.int .i64 12, Dd, .int .i64 A, B, str S, str T, .slice q l.length qc, L, .bool true]] w (Out w C bk bx bd vy d k 1 (S.length + T.length)) := by
 have _hu := hon
 have hj : j < k.ones.length := by omega
 have hz : j < zs.length := by rw [hI.zlen]; exact hj
 obtain ⟨w1, hw1⟩ : ∃ w1, w1 = w.alloc (.cells #[.int .i64 12, Dd, .int .i64 A, B, str S, str T, .slice q l.length qc, L, .bool true] 67) := ⟨_, rfl⟩
 have hB : Below w.heap.size w w1 := by rw [hw1]; exact (Below.refl _ w).alloc (Nat.le_refl _) _
 have hsz1 : w1.heap.size = w.heap.size + 1 := by rw [hw1]; simp
 have h1 := h.below hB
 have hC1 : ∀ i, C i -> i < w1.heap.size := fun i s => by have := hC i s; omega
 obtain ⟨D0, hv1, hD0⟩ := Dv.start h1
 have hLa := klast_any hv1 (j + 1) (by omega) (by omega)
 obtain ⟨m0, -, m2, -, -⟩ := hv1.dcells
 obtain ⟨qs, cs, s8, -, -, -, hcs⟩ := hv1.srow
 have hbo : w1.heap[w.heap.size]? = some (.cells #[.int .i64 12, Dd, .int .i64 A, B, str S, str T, .slice q l.length qc, L, .bool true] 67) := by rw [hw1]; exact block_new w _
 obtain ⟨o0, o1, o2, o3, o4, o5, o6, o7, o8⟩ := op_cells hbo
 have hBa : ∀ w', Below w1.heap.size w1 w' -> _ := fun w' hw => lbatch_put (h1.below hw) (fun i s => Nat.lt_of_lt_of_le (hC1 i s) hw.size) hI j hj hz Dd (.int .i64 A) B L (.bool true) S T q qc l hl0 ((hp.below hB).below hw) hq0 hS hT hb ho
 have HB : Hid (Below w.heap.size w w1) := hB
 have HW : Hid (w1 = w.alloc (.cells #[.int .i64 12, Dd, .int .i64 A, B, str S, str T, .slice q l.length qc, L, .bool true] 67)) := hw1
 have hlen : ((k.ones.length : Int) <= 1) = (k.ones.length <= 1) := by simp; omega
 have hnl : (1 : Int) < (k.ones.length : Int) := by omega
 obtain ⟨gs, rfl, hcj⟩ := hcs j (by omega)
 have hle2 : (k.ones.length : Int) = (j : Int) + 2 := by omega
 have HV1 : Hid (Dv w1 C w1 D0 bk bx bd vy d zs k) := hv1
 rw [hw1] at m2
 clear h h1 hB hw1 hbo hv1 hlen
 go_enter Tryz.func64, Tryz.ntmps64
 go_wp2_with (go_at_call 101; rw [<- HW.out]; refine hLa.mono ?_; rintro e w2 ⟨rfl, n2, rfl⟩; clear hLa m2; have m2 : w1.cell? ⟨bk, 2, none⟩ = some (.pointer (some ⟨k.kb, 0, none⟩)) := HV1.out.dcells.2.2.1)
 go_quiet (fail)
 have HN : Hid (Below w1.heap.size w1 (w1.drewN (n2 + nq))) := (Sm.drewN _ _).belowB
 clear m2
 go_wp2_with (first
   | (go_at_call 102; refine (hBa _ HN.out).mono ?_; rintro e w3 ⟨rfl, hO⟩; clear hBa))
 go_ret
 exact (Out.behind (HB.out.trans (HN.out.mono (by omega))) ⟨rfl, hO⟩)
theorem st_del_c (h : Dka w C bk bx bd vy d zs k) (hC : ∀ i, C i -> i < w.heap.size) (hI : KInv k d zs) (bW j : Nat) (hjl : j + 2 = k.ones.length) (hon : k.ones.length <= 4194000) (Dd B L : Value) (A : Int) (S T : Nm) (q : Option Addr) (qc : Nat) (l : List Ox) (hl0 : l.length <= 4194304) (hp : Opp w q l) (hq0 : q = none -> l = [] /\ qc = 0) (hS : S.length <= 1048576) (hb : k.bytes <= 2097152) (ho : k.ops <= 1048576) :
   Calls Tryz.prog 64 #[.pointer (some ⟨bW, 0, none⟩), .pointer (some ⟨bk, 0, none⟩), .agg #[.int .i64 13, Dd, .int .i64 A, B, str S, str T, .slice q l.length qc, L, .bool true]] w (Out w C bk bx bd vy d k 1 (S.length + T.length)) := by
 have _hu := hon
 have hj : j < k.ones.length := by omega
 have hz : j < zs.length := by rw [hI.zlen]; exact hj
 obtain ⟨w1, hw1⟩ : ∃ w1, w1 = w.alloc (.cells #[.int .i64 13, Dd, .int .i64 A, B, str S, str T, .slice q l.length qc, L, .bool true] 67) := ⟨_, rfl⟩
 have hB : Below w.heap.size w w1 := by rw [hw1]; exact (Below.refl _ w).alloc (Nat.le_refl _) _
 have hsz1 : w1.heap.size = w.heap.size + 1 := by rw [hw1]; simp
 have h1 := h.below hB
 have hC1 : ∀ i, C i -> i < w1.heap.size := fun i s => by have := hC i s; omega
 obtain ⟨D0, hv1, hD0⟩ := Dv.start h1
 have hLa := klast_any hv1 (j + 1) (by omega) (by omega)
 obtain ⟨m0, -, m2, -, -⟩ := hv1.dcells
 obtain ⟨qs, cs, s8, -, -, -, hcs⟩ := hv1.srow
 have hbo : w1.heap[w.heap.size]? = some (.cells #[.int .i64 13, Dd, .int .i64 A, B, str S, str T, .slice q l.length qc, L, .bool true] 67) := by rw [hw1]; exact block_new w _
 obtain ⟨o0, o1, o2, o3, o4, o5, o6, o7, o8⟩ := op_cells hbo
 have hBa : ∀ w', Below w1.heap.size w1 w' -> _ := fun w' hw => lbatch_del (h1.below hw) (fun i s => Nat.lt_of_lt_of_le (hC1 i s) hw.size) hI j hj hz Dd (.int .i64 A) B L (.bool true) S T q qc l hl0 ((hp.below hB).below hw) hq0 hS hb ho
 have HB : Hid (Below w.heap.size w w1) := hB
 have HW : Hid (w1 = w.alloc (.cells #[.int .i64 13, Dd, .int .i64 A, B, str S, str T, .slice q l.length qc, L, .bool true] 67)) := hw1
 have hlen : ((k.ones.length : Int) <= 1) = (k.ones.length <= 1) := by simp; omega
 have hnl : (1 : Int) < (k.ones.length : Int) := by omega
 obtain ⟨gs, rfl, hcj⟩ := hcs j (by omega)
 have hle2 : (k.ones.length : Int) = (j : Int) + 2 := by omega
 have HV1 : Hid (Dv w1 C w1 D0 bk bx bd vy d zs k) := hv1
 rw [hw1] at m2
 clear h h1 hB hw1 hbo hv1 hlen
 go_enter Tryz.func64, Tryz.ntmps64
 go_wp2_with (go_at_call 101; rw [<- HW.out]; refine hLa.mono ?_; rintro e w2 ⟨rfl, n2, rfl⟩; clear hLa m2; have m2 : w1.cell? ⟨bk, 2, none⟩ = some (.pointer (some ⟨k.kb, 0, none⟩)) := HV1.out.dcells.2.2.1)
 go_quiet (fail)
 have HN : Hid (Below w1.heap.size w1 (w1.drewN (n2 + nq))) := (Sm.drewN _ _).belowB
 clear m2
 go_wp2_with (first
   | (go_at_call 102; refine (hBa _ HN.out).mono ?_; rintro e w3 ⟨rfl, hO⟩; clear hBa))
 go_ret
 exact (Out.behind (HB.out.trans (HN.out.mono (by omega))) ⟨rfl, hO⟩)
end
section
variable {w : World} {C : Nat -> Prop} {bk bx bd : Nat} {vy : Value} {d : Dk} {zs : List (Nat × St)} {k : Kno}
theorem st_bat_a (h : Dka w C bk bx bd vy d zs k) (hC : ∀ i, C i -> i < w.heap.size) (hI : KInv k d zs) (bW j : Nat) (hjl : j + 1 = k.ones.length) (hon : k.ones.length <= 4194000) (Dd B L : Value) (A : Int) (S T : Nm) (q : Option Addr) (qc : Nat) (l : List Ox) (hl : l.length <= 1048576) (hll : lens l <= 1048576) (hox : OxLen l) (hp : Opp w q l) (hq0 : q = none -> l = [] /\ qc = 0) (hq : ∀ a, q = some a -> 0 < l.length -> ¬ C a.block /\ a.block < w.heap.size) (hb : k.bytes <= 2097152) (ho : k.ops <= 1048576) :
   Calls Tryz.prog 64 #[.pointer (some ⟨bW, 0, none⟩), .pointer (some ⟨bk, 0, none⟩), .agg #[.int .i64 14, Dd, .int .i64 A, B, str S, str T, .slice q l.length qc, L, .bool false]] w (Out w C bk bx bd vy d k l.length (lens l)) := by
 have _hu := hon
 have hj : j < k.ones.length := by omega
 have hz : j < zs.length := by rw [hI.zlen]; exact hj
 obtain ⟨w1, hw1⟩ : ∃ w1, w1 = w.alloc (.cells #[.int .i64 14, Dd, .int .i64 A, B, str S, str T, .slice q l.length qc, L, .bool false] 67) := ⟨_, rfl⟩
 have hB : Below w.heap.size w w1 := by rw [hw1]; exact (Below.refl _ w).alloc (Nat.le_refl _) _
 have hsz1 : w1.heap.size = w.heap.size + 1 := by rw [hw1]; simp
 have h1 := h.below hB
 have hC1 : ∀ i, C i -> i < w1.heap.size := fun i s => by have := hC i s; omega
 obtain ⟨D0, hv1, hD0⟩ := Dv.start h1
 have hLa := klast_any hv1 j (by omega) (by omega)
 obtain ⟨m0, -, m2, -, -⟩ := hv1.dcells
 obtain ⟨qs, cs, s8, -, -, -, hcs⟩ := hv1.srow
 have hbo : w1.heap[w.heap.size]? = some (.cells #[.int .i64 14, Dd, .int .i64 A, B, str S, str T, .slice q l.length qc, L, .bool false] 67) := by rw [hw1]; exact block_new w _
 obtain ⟨o0, o1, o2, o3, o4, o5, o6, o7, o8⟩ := op_cells hbo
 have hBa : ∀ w', Below w1.heap.size w1 w' -> _ := fun w' hw => lbatch_bat (h1.below hw) (fun i s => Nat.lt_of_lt_of_le (hC1 i s) hw.size) hI j hj hz Dd (.int .i64 A) B L (.bool false) S T q qc l hl hll hox ((hp.below hB).below hw) hq0 (fun a ha h0 => ⟨(hq a ha h0).1, by have := (hq a ha h0).2; have := hw.size; omega⟩) hb ho
 have HB : Hid (Below w.heap.size w w1) := hB
 have HW : Hid (w1 = w.alloc (.cells #[.int .i64 14, Dd, .int .i64 A, B, str S, str T, .slice q l.length qc, L, .bool false] 67)) := hw1
 have hlen : ((k.ones.length : Int) <= 1) = (k.ones.length <= 1) := by simp; omega
 have hnl : True := trivial
 clear hcs
 have HV1 : Hid (Dv w1 C w1 D0 bk bx bd vy d zs k) := hv1
 rw [hw1] at m2
 clear h h1 hB hw1 hbo hv1 hlen
 go_enter Tryz.func64, Tryz.ntmps64
 go_wp2_with (first
   | (go_at_call 101; rw [<- HW.out]; refine hLa.mono ?_; rintro e w2 ⟨rfl, n2, rfl⟩; clear hLa m2; have m2 : w1.cell? ⟨bk, 2, none⟩ = some (.pointer (some ⟨k.kb, 0, none⟩)) := HV1.out.dcells.2.2.1; have HN : Hid (Below w1.heap.size w1 (w1.drewN n2)) := (Sm.drewN _ _).belowB)
   | (go_at_call 102; refine (hBa _ HN.out).mono ?_; rintro e w3 ⟨rfl, hO⟩; clear hBa))
 go_ret
 exact (Out.behind (HB.out.trans (HN.out.mono (by omega))) ⟨rfl, hO⟩)
theorem st_syn_a (h : Dka w C bk bx bd vy d zs k) (hC : ∀ i, C i -> i < w.heap.size) (hI : KInv k d zs) (bW j : Nat) (hjl : j + 1 = k.ones.length) (hon : k.ones.length <= 4194000) (Dd B L : Value) (A : Int) (S T : Nm) (q : Option Addr) (qc : Nat) (l : List Ox) (hb : k.bytes <= 2097152) (ho : k.ops <= 1048576) :
   Calls Tryz.prog 64 #[.pointer (some ⟨bW, 0, none⟩), .pointer (some ⟨bk, 0, none⟩), .agg #[.int .i64 17, Dd, .int .i64 A, B, str S, str T, .slice q l.length qc, L, .bool false]] w (Out w C bk bx bd vy d k 0 0) := by
 have _hu := hon
 have hj : j < k.ones.length := by omega
 have hz : j < zs.length := by rw [hI.zlen]; exact hj
 obtain ⟨w1, hw1⟩ : ∃ w1, w1 = w.alloc (.cells #[.int .i64 17, Dd, .int .i64 A, B, str S, str T, .slice q l.length qc, L, .bool false] 67) := ⟨_, rfl⟩
 have hB : Below w.heap.size w w1 := by rw [hw1]; exact (Below.refl _ w).alloc (Nat.le_refl _) _
 have hsz1 : w1.heap.size = w.heap.size + 1 := by rw [hw1]; simp
 have h1 := h.below hB
 have hC1 : ∀ i, C i -> i < w1.heap.size := fun i s => by have := hC i s; omega
 obtain ⟨D0, hv1, hD0⟩ := Dv.start h1
 have hLa := klast_any hv1 j (by omega) (by omega)
 obtain ⟨m0, -, m2, -, -⟩ := hv1.dcells
 obtain ⟨qs, cs, s8, -, -, -, hcs⟩ := hv1.srow
 have hbo : w1.heap[w.heap.size]? = some (.cells #[.int .i64 17, Dd, .int .i64 A, B, str S, str T, .slice q l.length qc, L, .bool false] 67) := by rw [hw1]; exact block_new w _
 obtain ⟨o0, o1, o2, o3, o4, o5, o6, o7, o8⟩ := op_cells hbo
 have hBa : ∀ w', Below w1.heap.size w1 w' -> _ := fun w' hw => works_any (h1.below hw) (fun i s => Nat.lt_of_lt_of_le (hC1 i s) hw.size) hI j hj hz Dd (.int .i64 A) B (str S) (str T) (.slice q l.length qc) L (.bool false) (by omega) (by omega)
 have HB : Hid (Below w.heap.size w w1) := hB
 have HW : Hid (w1 = w.alloc (.cells #[.int .i64 17, Dd, .int .i64 A, B, str S, str T, .slice q l.length qc, L, .bool false] 67)) := hw1
 have hlen : ((k.ones.length : Int) <= 1) = (k.ones.length <= 1) := by simp; omega
 have hnl : True := trivial
 clear hcs
 have HV1 : Hid (Dv w1 C w1 D0 bk bx bd vy d zs k) := hv1
 rw [hw1] at m2
 clear h h1 hB hw1 hbo hv1 hlen
 go_enter Tryz.func64, Tryz.ntmps64
 go_wp2_with (first
   | (go_at_call 101; rw [<- HW.out]; refine hLa.mono ?_; rintro e w2 ⟨rfl, n2, rfl⟩; clear hLa m2; have m2 : w1.cell? ⟨bk, 2, none⟩ = some (.pointer (some ⟨k.kb, 0, none⟩)) := HV1.out.dcells.2.2.1; have HN : Hid (Below w1.heap.size w1 (w1.drewN n2)) := (Sm.drewN _ _).belowB)
   | (go_at_call 108; refine (hBa _ HN.out).mono ?_; rintro e w3 ⟨rfl, hO⟩; clear hBa))
 go_ret
 exact (Out.behind (HB.out.trans (HN.out.mono (by omega))) ⟨rfl, hO⟩)
theorem st_bat_b (h : Dka w C bk bx bd vy d zs k) (hC : ∀ i, C i -> i < w.heap.size) (hI : KInv k d zs) (bW j : Nat) (hjl : j + 1 = k.ones.length) (hj1 : k.ones.length <= 1) (hon : k.ones.length <= 4194000) (Dd B L : Value) (A : Int) (S T : Nm) (q : Option Addr) (qc : Nat) (l : List Ox) (hl : l.length <= 1048576) (hll : lens l <= 1048576) (hox : OxLen l) (hp : Opp w q l) (hq0 : q = none -> l = [] /\ qc = 0) (hq : ∀ a, q = some a -> 0 < l.length -> ¬ C a.block /\ a.block < w.heap.size) (hb : k.bytes <= 2097152) (ho : k.ops <= 1048576) :
   Calls Tryz.prog 64 #[.pointer (some ⟨bW, 0, none⟩), .pointer (some ⟨bk, 0, none⟩), .agg #[.int .i64 14, Dd, .int .i64 A, B, str S, str T, .slice q l.length qc, L, .bool true]] w (Out w C bk bx bd vy d k l.length (lens l)) := by
 have _hu := hon
 have hj : j < k.ones.length := by omega
 have hz : j < zs.length := by rw [hI.zlen]; exact hj
 obtain ⟨w1, hw1⟩ : ∃ w1, w1 = w.alloc (.cells #[.int .i64 14, Dd, .int .i64 A, B, str S, str T, .slice q l.length qc, L, .bool true] 67) := ⟨_, rfl⟩
 have hB : Below w.heap.size w w1 := by rw [hw1]; exact (Below.refl _ w).alloc (Nat.le_refl _) _
 have hsz1 : w1.heap.size = w.heap.size + 1 := by rw [hw1]; simp
 have h1 := h.below hB
 have hC1 : ∀ i, C i -> i < w1.heap.size := fun i s => by have := hC i s; omega
 obtain ⟨D0, hv1, hD0⟩ := Dv.start h1
 have hLa := klast_any hv1 j (by omega) (by omega)
 obtain ⟨m0, -, m2, -, -⟩ := hv1.dcells
 obtain ⟨qs, cs, s8, -, -, -, hcs⟩ := hv1.srow
 have hbo : w1.heap[w.heap.size]? = some (.cells #[.int .i64 14, Dd, .int .i64 A, B, str S, str T, .slice q l.length qc, L, .bool true] 67) := by rw [hw1]; exact block_new w _
 obtain ⟨o0, o1, o2, o3, o4, o5, o6, o7, o8⟩ := op_cells hbo
 have hBa : ∀ w', Below w1.heap.size w1 w' -> _ := fun w' hw => lbatch_bat (h1.below hw) (fun i s => Nat.lt_of_lt_of_le (hC1 i s) hw.size) hI j hj hz Dd (.int .i64 A) B L (.bool true) S T q qc l hl hll hox ((hp.below hB).below hw) hq0 (fun a ha h0 => ⟨(hq a ha h0).1, by have := (hq a ha h0).2; have := hw.size; omega⟩) hb ho
 have HB : Hid (Below w.heap.size w w1) := hB
 have HW : Hid (w1 = w.alloc (.cells #[.int .i64 14, Dd, .int .i64 A, B, str S, str T, .slice q l.length qc, L, .bool true] 67)) := hw1
 have hlen : ((k.ones.length : Int) <= 1) = (k.ones.length <= 1) := by simp; omega
 have hnl : ¬ (1 : Int) < (k.ones.length : Int) := by omega
 clear hcs
 have HV1 : Hid (Dv w1 C w1 D0 bk bx bd vy d zs k) := hv1
 rw [hw1] at m2
 clear h h1 hB hw1 hbo hv1 hlen
 go_enter Tryz.func64, Tryz.ntmps64
 go_wp2_with (first
   | (go_at_call 101; rw [<- HW.out]; refine hLa.mono ?_; rintro e w2 ⟨rfl, n2, rfl⟩; clear hLa m2; have m2 : w1.cell? ⟨bk, 2, none⟩ = some (.pointer (some ⟨k.kb, 0, none⟩)) := HV1.out.dcells.2.2.1; have HN : Hid (Below w1.heap.size w1 (w1.drewN n2)) := (Sm.drewN _ _).belowB)
   | (go_at_call 102; refine (hBa _ HN.out).mono ?_; rintro e w3 ⟨rfl, hO⟩; clear hBa))
 go_ret
 exact (Out.behind (HB.out.trans (HN.out.mono (by omega))) ⟨rfl, hO⟩)
theorem st_syn_b (h : Dka w C bk bx bd vy d zs k) (hC : ∀ i, C i -> i < w.heap.size) (hI : KInv k d zs) (bW j : Nat) (hjl : j + 1 = k.ones.length) (hj1 : k.ones.length <= 1) (hon : k.ones.length <= 4194000) (Dd B L : Value) (A : Int) (S T : Nm) (q : Option Addr) (qc : Nat) (l : List Ox) (hb : k.bytes <= 2097152) (ho : k.ops <= 1048576) :
   Calls Tryz.prog 64 #[.pointer (some ⟨bW, 0, none⟩), .pointer (some ⟨bk, 0, none⟩), .agg #[.int .i64 17, Dd, .int .i64 A, B, str S, str T, .slice q l.length qc, L, .bool true]] w (Out w C bk bx bd vy d k 0 0) := by
 have _hu := hon
 have hj : j < k.ones.length := by omega
 have hz : j < zs.length := by rw [hI.zlen]; exact hj
 obtain ⟨w1, hw1⟩ : ∃ w1, w1 = w.alloc (.cells #[.int .i64 17, Dd, .int .i64 A, B, str S, str T, .slice q l.length qc, L, .bool true] 67) := ⟨_, rfl⟩
 have hB : Below w.heap.size w w1 := by rw [hw1]; exact (Below.refl _ w).alloc (Nat.le_refl _) _
 have hsz1 : w1.heap.size = w.heap.size + 1 := by rw [hw1]; simp
 have h1 := h.below hB
 have hC1 : ∀ i, C i -> i < w1.heap.size := fun i s => by have := hC i s; omega
 obtain ⟨D0, hv1, hD0⟩ := Dv.start h1
 have hLa := klast_any hv1 j (by omega) (by omega)
 obtain ⟨m0, -, m2, -, -⟩ := hv1.dcells
 obtain ⟨qs, cs, s8, -, -, -, hcs⟩ := hv1.srow
 have hbo : w1.heap[w.heap.size]? = some (.cells #[.int .i64 17, Dd, .int .i64 A, B, str S, str T, .slice q l.length qc, L, .bool true] 67) := by rw [hw1]; exact block_new w _
 obtain ⟨o0, o1, o2, o3, o4, o5, o6, o7, o8⟩ := op_cells hbo
 have hBa : ∀ w', Below w1.heap.size w1 w' -> _ := fun w' hw => works_any (h1.below hw) (fun i s => Nat.lt_of_lt_of_le (hC1 i s) hw.size) hI j hj hz Dd (.int .i64 A) B (str S) (str T) (.slice q l.length qc) L (.bool true) (by omega) (by omega)
 have HB : Hid (Below w.heap.size w w1) := hB
 have HW : Hid (w1 = w.alloc (.cells #[.int .i64 17, Dd, .int .i64 A, B, str S, str T, .slice q l.length qc, L, .bool true] 67)) := hw1
 have hlen : ((k.ones.length : Int) <= 1) = (k.ones.length <= 1) := by simp; omega
 have hnl : ¬ (1 : Int) < (k.ones.length : Int) := by omega
 clear hcs
 have HV1 : Hid (Dv w1 C w1 D0 bk bx bd vy d zs k) := hv1
 rw [hw1] at m2
 clear h h1 hB hw1 hbo hv1 hlen
 go_enter Tryz.func64, Tryz.ntmps64
 go_wp2_with (first
   | (go_at_call 101; rw [<- HW.out]; refine hLa.mono ?_; rintro e w2 ⟨rfl, n2, rfl⟩; clear hLa m2; have m2 : w1.cell? ⟨bk, 2, none⟩ = some (.pointer (some ⟨k.kb, 0, none⟩)) := HV1.out.dcells.2.2.1; have HN : Hid (Below w1.heap.size w1 (w1.drewN n2)) := (Sm.drewN _ _).belowB)
   | (go_at_call 108; refine (hBa _ HN.out).mono ?_; rintro e w3 ⟨rfl, hO⟩; clear hBa))
 go_ret
 exact (Out.behind (HB.out.trans (HN.out.mono (by omega))) ⟨rfl, hO⟩)
theorem st_bat_c (h : Dka w C bk bx bd vy d zs k) (hC : ∀ i, C i -> i < w.heap.size) (hI : KInv k d zs) (bW j : Nat) (hjl : j + 2 = k.ones.length) (hon : k.ones.length <= 4194000) (Dd B L : Value) (A : Int) (S T : Nm) (q : Option Addr) (qc : Nat) (l : List Ox) (hl : l.length <= 1048576) (hll : lens l <= 1048576) (hox : OxLen l) (hp : Opp w q l) (hq0 : q = none -> l = [] /\ qc = 0) (hq : ∀ a, q = some a -> 0 < l.length -> ¬ C a.block /\ a.block < w.heap.size) (hb : k.bytes <= 2097152) (ho : k.ops <= 1048576) :
   Calls Tryz.prog 64 #[.pointer (some ⟨bW, 0, none⟩), .pointer (some ⟨bk, 0, none⟩), .agg #[.int .i64 14, Dd, .int .i64 A, B, str S, str T, .slice q l.length qc, L, .bool true]] w (Out w C bk bx bd vy d k l.length (lens l)) := by
 have _hu := hon
 have hj : j < k.ones.length := by omega
 have hz : j < zs.length := by rw [hI.zlen]; exact hj
 obtain ⟨w1, hw1⟩ : ∃ w1, w1 = w.alloc (.cells #[.int .i64 14, Dd, .int .i64 A, B, str S, str T, .slice q l.length qc, L, .bool true] 67) := ⟨_, rfl⟩
 have hB : Below w.heap.size w w1 := by rw [hw1]; exact (Below.refl _ w).alloc (Nat.le_refl _) _
 have hsz1 : w1.heap.size = w.heap.size + 1 := by rw [hw1]; simp
 have h1 := h.below hB
 have hC1 : ∀ i, C i -> i < w1.heap.size := fun i s => by have := hC i s; omega
 obtain ⟨D0, hv1, hD0⟩ := Dv.start h1
 have hLa := klast_any hv1 (j + 1) (by omega) (by omega)
 obtain ⟨m0, -, m2, -, -⟩ := hv1.dcells
 obtain ⟨qs, cs, s8, -, -, -, hcs⟩ := hv1.srow
 have hbo : w1.heap[w.heap.size]? = some (.cells #[.int .i64 14, Dd, .int .i64 A, B, str S, str T, .slice q l.length qc, L, .bool true] 67) := by rw [hw1]; exact block_new w _
 obtain ⟨o0, o1, o2, o3, o4, o5, o6, o7, o8⟩ := op_cells hbo
 have hBa : ∀ w', Below w1.heap.size w1 w' -> _ := fun w' hw => lbatch_bat (h1.below hw) (fun i s => Nat.lt_of_lt_of_le (hC1 i s) hw.size) hI j hj hz Dd (.int .i64 A) B L (.bool true) S T q qc l hl hll hox ((hp.below hB).below hw) hq0 (fun a ha h0 => ⟨(hq a ha h0).1, by have := (hq a ha h0).2; have := hw.size; omega⟩) hb ho
 have HB : Hid (Below w.heap.size w w1) := hB
 have HW : Hid (w1 = w.alloc (.cells #[.int .i64 14, Dd, .int .i64 A, B, str S, str T, .slice q l.length qc, L, .bool true] 67)) := hw1
 have hlen : ((k.ones.length : Int) <= 1) = (k.ones.length <= 1) := by simp; omega
 have hnl : (1 : Int) < (k.ones.length : Int) := by omega
 obtain ⟨gs, rfl, hcj⟩ := hcs j (by omega)
 have hle2 : (k.ones.length : Int) = (j : Int) + 2 := by omega
 have HV1 : Hid (Dv w1 C w1 D0 bk bx bd vy d zs k) := hv1
 rw [hw1] at m2
 clear h h1 hB hw1 hbo hv1 hlen
 go_enter Tryz.func64, Tryz.ntmps64
 go_wp2_with (go_at_call 101; rw [<- HW.out]; refine hLa.mono ?_; rintro e w2 ⟨rfl, n2, rfl⟩; clear hLa m2; have m2 : w1.cell? ⟨bk, 2, none⟩ = some (.pointer (some ⟨k.kb, 0, none⟩)) := HV1.out.dcells.2.2.1)
 go_quiet (fail)
 have HN : Hid (Below w1.heap.size w1 (w1.drewN (n2 + nq))) := (Sm.drewN _ _).belowB
 clear m2
 go_wp2_with (first
   | (go_at_call 102; refine (hBa _ HN.out).mono ?_; rintro e w3 ⟨rfl, hO⟩; clear hBa))
 go_ret
 exact (Out.behind (HB.out.trans (HN.out.mono (by omega))) ⟨rfl, hO⟩)
theorem st_syn_c (h : Dka w C bk bx bd vy d zs k) (hC : ∀ i, C i -> i < w.heap.size) (hI : KInv k d zs) (bW j : Nat) (hjl : j + 2 = k.ones.length) (hon : k.ones.length <= 4194000) (Dd B L : Value) (A : Int) (S T : Nm) (q : Option Addr) (qc : Nat) (l : List Ox) (hb : k.bytes <= 2097152) (ho : k.ops <= 1048576) :
   Calls Tryz.prog 64 #[.pointer (some ⟨bW, 0, none⟩), .pointer (some ⟨bk, 0, none⟩), .agg #[.int .i64 17, Dd, .int .i64 A, B, str S, str T, .slice q l.length qc, L, .bool true]] w (Out w C bk bx bd vy d k 0 0) := by
 have _hu := hon
 have hj : j < k.ones.length := by omega
 have hz : j < zs.length := by rw [hI.zlen]; exact hj
 obtain ⟨w1, hw1⟩ : ∃ w1, w1 = w.alloc (.cells #[.int .i64 17, Dd, .int .i64 A, B, str S, str T, .slice q l.length qc, L, .bool true] 67) := ⟨_, rfl⟩
 have hB : Below w.heap.size w w1 := by rw [hw1]; exact (Below.refl _ w).alloc (Nat.le_refl _) _
 have hsz1 : w1.heap.size = w.heap.size + 1 := by rw [hw1]; simp
 have h1 := h.below hB
 have hC1 : ∀ i, C i -> i < w1.heap.size := fun i s => by have := hC i s; omega
 obtain ⟨D0, hv1, hD0⟩ := Dv.start h1
 have hLa := klast_any hv1 (j + 1) (by omega) (by omega)
 obtain ⟨m0, -, m2, -, -⟩ := hv1.dcells
 obtain ⟨qs, cs, s8, -, -, -, hcs⟩ := hv1.srow
 have hbo : w1.heap[w.heap.size]? = some (.cells #[.int .i64 17, Dd, .int .i64 A, B, str S, str T, .slice q l.length qc, L, .bool true] 67) := by rw [hw1]; exact block_new w _
 obtain ⟨o0, o1, o2, o3, o4, o5, o6, o7, o8⟩ := op_cells hbo
 have hBa : ∀ w', Below w1.heap.size w1 w' -> _ := fun w' hw => works_any (h1.below hw) (fun i s => Nat.lt_of_lt_of_le (hC1 i s) hw.size) hI j hj hz Dd (.int .i64 A) B (str S) (str T) (.slice q l.length qc) L (.bool true) (by omega) (by omega)
 have HB : Hid (Below w.heap.size w w1) := hB
 have HW : Hid (w1 = w.alloc (.cells #[.int .i64 17, Dd, .int .i64 A, B, str S, str T, .slice q l.length qc, L, .bool true] 67)) := hw1
 have hlen : ((k.ones.length : Int) <= 1) = (k.ones.length <= 1) := by simp; omega
 have hnl : (1 : Int) < (k.ones.length : Int) := by omega
 obtain ⟨gs, rfl, hcj⟩ := hcs j (by omega)
 have hle2 : (k.ones.length : Int) = (j : Int) + 2 := by omega
 have HV1 : Hid (Dv w1 C w1 D0 bk bx bd vy d zs k) := hv1
 rw [hw1] at m2
 clear h h1 hB hw1 hbo hv1 hlen
 go_enter Tryz.func64, Tryz.ntmps64
 go_wp2_with (go_at_call 101; rw [<- HW.out]; refine hLa.mono ?_; rintro e w2 ⟨rfl, n2, rfl⟩; clear hLa m2; have m2 : w1.cell? ⟨bk, 2, none⟩ = some (.pointer (some ⟨k.kb, 0, none⟩)) := HV1.out.dcells.2.2.1)
 go_quiet (fail)
 have HN : Hid (Below w1.heap.size w1 (w1.drewN (n2 + nq))) := (Sm.drewN _ _).belowB
 clear m2
 go_wp2_with (first
   | (go_at_call 108; refine (hBa _ HN.out).mono ?_; rintro e w3 ⟨rfl, hO⟩; clear hBa))
 go_ret
 exact (Out.behind (HB.out.trans (HN.out.mono (by omega))) ⟨rfl, hO⟩)
end
end Go.Proofs.YtfghgmojnffgnaaGreat
