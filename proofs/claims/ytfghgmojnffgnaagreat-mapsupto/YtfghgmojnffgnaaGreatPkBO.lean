import Derived.Test.YtfghgmojnffgnaaGreatPkBN
import Derived.Test.YtfghgmojnffgnaaGreatPkBM
set_option maxHeartbeats 4000000
set_option maxRecDepth 20000
namespace Go.Proofs.YtfghgmojnffgnaaGreat
open Go.RowKit Go.Maps Go.Sort
section
variable {w : World} {C C4 C5 : Nat -> Prop} {bk bx bY : Nat} {d : Dk}
theorem open_fullP (hbk : w.heap[bk]? = some (.cells #[ptrB bx, ptrB bY, .pointer none] 100)) (hX : XAt w C4 bx d) (hY : RefAt w C5 bY d) (hf : 0 < d.files.length) (Dd Bv S T ops L old : Value) (A : Int)  :
   Calls Tryz.prog 63 #[.pointer (some ⟨bk, 0, none⟩), .agg #[.int .i64 11, Dd, .int .i64 A, Bv, S, T, ops, L, old]] w fun e w' => e = .returned (.bool true) /\ Below w.heap.size w w' := by
 obtain ⟨v, hy, hyr, hys, -⟩ := hY
 obtain ⟨va, vc, rfl⟩ := slice_len hyr
 obtain ⟨w1, hw1⟩ : ∃ w1, w1 = w.alloc (.cells #[.int .i64 11, Dd, .int .i64 A, Bv, S, T, ops, L, old] 67) := ⟨_, rfl⟩
 have hB : Below w.heap.size w w1 := by rw [hw1]; exact (Below.refl _ w).alloc (Nat.le_refl _) _
 have hsz1 : w1.heap.size = w.heap.size + 1 := by rw [hw1]; simp
 obtain ⟨bd, hR0⟩ := room_new hX
 obtain ⟨zs, hzs⟩ : ∃ zs : List (Nat × St), zs = [] := ⟨_, rfl⟩
 have hR1 : Room w1.drew C4 bx bd (fun _ => 0) d zs := by rw [hzs]; exact hR0.kept (V := fun _ => False) (Kp.of_below hB.drew) (fun _ _ f => f)
 have hbk1 := block_at2 hbk hB
 have hy1 := block_at2 hy hB
 obtain ⟨m0, m1, m2, -⟩ := cells3 hbk1
 obtain ⟨y0, y1, y2, y3⟩ : w1.cell? ⟨bY, 0, none⟩ = some (.int .i64 d.quota) /\ w1.cell? ⟨bY, 1, none⟩ = some (.slice va d.files.length vc) /\ w1.cell? ⟨bY, 2, none⟩ = some (.int .i64 d.left) /\ w1.cell? ⟨bY, 3, none⟩ = some (.bool d.dead) := ⟨cell_block hy1, cell_block hy1, cell_block hy1, cell_block hy1⟩
 unfold ptrB at m0 m1
 have HBO : Hid (w1.drew.heap[w.heap.size]? = some (.cells #[.int .i64 11, Dd, .int .i64 A, Bv, S, T, ops, L, old] 67)) := by rw [hw1]; exact block_new w _
 have o2 : w1.drew.cell? ⟨w.heap.size, 2, none⟩ = some (.int .i64 A) := cell_block HBO.out
 have HW : Hid (w1 = w.alloc (.cells #[.int .i64 11, Dd, .int .i64 A, Bv, S, T, ops, L, old] 67)) := hw1
 have HB1 : Hid (Below w.heap.size w w1) := hB
 have HBK1 : Hid (w1.heap[bk]? = some (.cells #[ptrB bx, ptrB bY, .pointer none] 100)) := hbk1
 have HY1 : Hid (w1.heap[bY]? = some (.cells #[.int .i64 d.quota, .slice va d.files.length vc, .int .i64 d.left, .bool d.dead] 141)) := hy1
 have hltk := lt_of_block hbk
 have HM0 : Hid (w1.cell? ⟨bk, 0, none⟩ = some (.pointer (some ⟨bx, 0, none⟩))) := m0
 have HM2 : Hid (w1.cell? ⟨bk, 2, none⟩ = some (.pointer none)) := m2
 rw [hw1] at m0 m1 m2 y1
 have hfi : ¬ (d.files.length : Int) <= 0 := by omega
 have hfj : (0 : Int) < (d.files.length : Int) := by omega
 clear hR0 hR1 hbk1 hy1 hB hw1 hbk hy hyr hX
 go_enter Tryz.func63, Tryz.ntmps63
 go_wp2
 go_ret
 refine ⟨rfl, ?_⟩
 rw [<- HW.out]
 exact HB1.out
theorem open_argP (hbk : w.heap[bk]? = some (.cells #[ptrB bx, ptrB bY, .pointer none] 100)) (hX : XAt w C4 bx d) (hY : RefAt w C5 bY d) (hf : d.files = []) (Dd Bv S T ops L old : Value) (A : Int) (hA : A < 0 \/ 2 < A) :
   Calls Tryz.prog 63 #[.pointer (some ⟨bk, 0, none⟩), .agg #[.int .i64 11, Dd, .int .i64 A, Bv, S, T, ops, L, old]] w fun e w' => e = .returned (.bool true) /\ Below w.heap.size w w' := by
 obtain ⟨v, hy, hyr, hys, -⟩ := hY
 rw [hf] at hyr
 obtain ⟨va, vc, rfl⟩ := slice_zero hyr
 obtain ⟨w1, hw1⟩ : ∃ w1, w1 = w.alloc (.cells #[.int .i64 11, Dd, .int .i64 A, Bv, S, T, ops, L, old] 67) := ⟨_, rfl⟩
 have hB : Below w.heap.size w w1 := by rw [hw1]; exact (Below.refl _ w).alloc (Nat.le_refl _) _
 have hsz1 : w1.heap.size = w.heap.size + 1 := by rw [hw1]; simp
 obtain ⟨bd, hR0⟩ := room_new hX
 obtain ⟨zs, hzs⟩ : ∃ zs : List (Nat × St), zs = [] := ⟨_, rfl⟩
 have hR1 : Room w1.drew C4 bx bd (fun _ => 0) d zs := by rw [hzs]; exact hR0.kept (V := fun _ => False) (Kp.of_below hB.drew) (fun _ _ f => f)
 have hbk1 := block_at2 hbk hB
 have hy1 := block_at2 hy hB
 obtain ⟨m0, m1, m2, -⟩ := cells3 hbk1
 obtain ⟨y0, y1, y2, y3⟩ : w1.cell? ⟨bY, 0, none⟩ = some (.int .i64 d.quota) /\ w1.cell? ⟨bY, 1, none⟩ = some (.slice va 0 vc) /\ w1.cell? ⟨bY, 2, none⟩ = some (.int .i64 d.left) /\ w1.cell? ⟨bY, 3, none⟩ = some (.bool d.dead) := ⟨cell_block hy1, cell_block hy1, cell_block hy1, cell_block hy1⟩
 unfold ptrB at m0 m1
 have HBO : Hid (w1.drew.heap[w.heap.size]? = some (.cells #[.int .i64 11, Dd, .int .i64 A, Bv, S, T, ops, L, old] 67)) := by rw [hw1]; exact block_new w _
 have o2 : w1.drew.cell? ⟨w.heap.size, 2, none⟩ = some (.int .i64 A) := cell_block HBO.out
 have HW : Hid (w1 = w.alloc (.cells #[.int .i64 11, Dd, .int .i64 A, Bv, S, T, ops, L, old] 67)) := hw1
 have HB1 : Hid (Below w.heap.size w w1) := hB
 have HBK1 : Hid (w1.heap[bk]? = some (.cells #[ptrB bx, ptrB bY, .pointer none] 100)) := hbk1
 have HY1 : Hid (w1.heap[bY]? = some (.cells #[.int .i64 d.quota, .slice va 0 vc, .int .i64 d.left, .bool d.dead] 141)) := hy1
 have hltk := lt_of_block hbk
 have HM0 : Hid (w1.cell? ⟨bk, 0, none⟩ = some (.pointer (some ⟨bx, 0, none⟩))) := m0
 have HM2 : Hid (w1.cell? ⟨bk, 2, none⟩ = some (.pointer none)) := m2
 rw [hw1] at m0 m1 m2 y1
 have hOp := hR1.openArg A hA
 clear hR0 hR1 hbk1 hy1 hB hw1 hbk hy hyr hX
 go_enter Tryz.func63, Tryz.ntmps63
 go_wp2
 rw [HW.out.symm]
 clear m0 m1 m2 y1
 have hc : w1.drew.cell? ⟨bk, 0, none⟩ = some (.pointer (some ⟨bx, 0, none⟩)) /\ w1.drew.cell? ⟨w.heap.size, 2, none⟩ = some (.int .i64 A) := ⟨HM0.out, o2⟩
 refine wp_region_E (S := fun w' => w'.cell? ⟨bk, 0, none⟩ = some (.pointer (some ⟨bx, 0, none⟩)) /\ w'.cell? ⟨w.heap.size, 2, none⟩ = some (.int .i64 A)) mixedT ?_
 refine tp 0 10 bk 0 rfl rfl (fun w' hS => ?_) hc ?_
 . obtain ⟨hS1, hS2⟩ := hS
   go_simp
 refine tp 1 10 bk 0 rfl rfl (fun w' hS => ?_) hc ?_
 . obtain ⟨hS1, hS2⟩ := hS
   go_simp
 refine tp 2 10 bk 0 rfl rfl (fun w' hS => ?_) hc ?_
 . obtain ⟨hS1, hS2⟩ := hS
   go_simp
 refine tp 3 10 bx 0 rfl rfl (fun w' hS => ?_) hc ?_
 . obtain ⟨hS1, hS2⟩ := hS
   go_simp
 refine tp 4 10 w.heap.size 2 rfl rfl (fun w' hS => ?_) hc ?_
 . obtain ⟨hS1, hS2⟩ := hS
   go_simp
 refine tk 5 10 (.int .i64 A) rfl rfl (fun w' hS => ?_) hc ?_
 . obtain ⟨hS1, hS2⟩ := hS
   go_simp
 refine wpAnyE_one (i := 6) (by kernel_rfl) rfl (by rfl) (fun K hK => ?_)
 go_simp
 refine hOp.mono ?_
 clear hOp
 rintro e w2 ⟨rfl, rfl⟩
 refine hK.out _ _ hc ?_
 clear hK
 refine wpAnyE_one (i := 7) (by kernel_rfl) rfl (by rfl) (fun K hK => ?_)
 go_simp
 refine hK.out _ _ hc ?_
 clear hK
 refine tk 8 10 (.pointer none) rfl rfl (fun w' hS => ?_) hc ?_
 . obtain ⟨hS1, hS2⟩ := hS
   go_simp
 refine tk 9 11 (.int .i64 1) rfl rfl (fun w' hS => ?_) hc ?_
 . obtain ⟨hS1, hS2⟩ := hS
   go_simp
 refine wpAnyE_one (i := 10) (by kernel_rfl) rfl (by rfl) (fun K hK => ?_)
 go_simp
 refine hK.out _ _ hc ?_
 clear hK
 refine wpAnyE_last (i := 11) (by kernel_rfl) rfl (by rfl) (by kernel_rfl) (by kernel_rfl) (fun K hK => ?_)
 go_simp
 refine hK.out _ _ ?_
 clear hK
 have o2' : w1.cell? ⟨w.heap.size, 2, none⟩ = some (.int .i64 A) := o2
 clear hc
 by_cases hA0 : A < 0
 . go_wp2
   go_ret
   exact ⟨by first | rfl | simp, HB1.out.trans (Below.refl _ _).drew⟩
 . have hA2 : 2 < A := hA.resolve_left hA0
   go_wp2
   go_ret
   exact ⟨by first | rfl | simp, HB1.out.trans (Below.refl _ _).drew⟩
end
section
variable {w : World} {C C4 C5 : Nat -> Prop} {bk bx bY : Nat} {d : Dk}
theorem open_noP (hbk : w.heap[bk]? = some (.cells #[ptrB bx, ptrB bY, .pointer none] 100)) (hcb : C bk) (h4 : ∀ i, C4 i -> C i) (h45 : ∀ i, C4 i -> ¬ C5 i) (hn4 : ¬ C4 bk) (hX : XAt w C4 bx d) (hY : RefAt w C5 bY d) (hok : d.Ok) (ht0 : 0 <= d.turn) (ht : d.turn <= 4611686018427387904) (hC : ∀ i, C i -> i < w.heap.size) (hf : d.files = []) (Dd Bv S T ops L old : Value) (A : Int) (hA0 : 0 <= A) (hA2 : A <= 2) (hne : (openX d).1 ≠ 0) :
   Calls Tryz.prog 63 #[.pointer (some ⟨bk, 0, none⟩), .agg #[.int .i64 11, Dd, .int .i64 A, Bv, S, T, ops, L, old]] w (OutP w C bk bx (ptrB bY) d) := by
 obtain ⟨v, hy, hyr, hys, -⟩ := hY
 rw [hf] at hyr
 obtain ⟨va, vc, rfl⟩ := slice_zero hyr
 obtain ⟨w1, hw1⟩ : ∃ w1, w1 = w.alloc (.cells #[.int .i64 11, Dd, .int .i64 A, Bv, S, T, ops, L, old] 67) := ⟨_, rfl⟩
 have hB : Below w.heap.size w w1 := by rw [hw1]; exact (Below.refl _ w).alloc (Nat.le_refl _) _
 have hsz1 : w1.heap.size = w.heap.size + 1 := by rw [hw1]; simp
 obtain ⟨bd, hR0⟩ := room_new hX
 obtain ⟨zs, hzs⟩ : ∃ zs : List (Nat × St), zs = [] := ⟨_, rfl⟩
 have hR1 : Room w1.drew C4 bx bd (fun _ => 0) d zs := by rw [hzs]; exact hR0.kept (V := fun _ => False) (Kp.of_below hB.drew) (fun _ _ f => f)
 have hbk1 := block_at2 hbk hB
 have hy1 := block_at2 hy hB
 obtain ⟨m0, m1, m2, -⟩ := cells3 hbk1
 obtain ⟨y0, y1, y2, y3⟩ : w1.cell? ⟨bY, 0, none⟩ = some (.int .i64 d.quota) /\ w1.cell? ⟨bY, 1, none⟩ = some (.slice va 0 vc) /\ w1.cell? ⟨bY, 2, none⟩ = some (.int .i64 d.left) /\ w1.cell? ⟨bY, 3, none⟩ = some (.bool d.dead) := ⟨cell_block hy1, cell_block hy1, cell_block hy1, cell_block hy1⟩
 unfold ptrB at m0 m1
 have HBO : Hid (w1.drew.heap[w.heap.size]? = some (.cells #[.int .i64 11, Dd, .int .i64 A, Bv, S, T, ops, L, old] 67)) := by rw [hw1]; exact block_new w _
 have o2 : w1.drew.cell? ⟨w.heap.size, 2, none⟩ = some (.int .i64 A) := cell_block HBO.out
 have HW : Hid (w1 = w.alloc (.cells #[.int .i64 11, Dd, .int .i64 A, Bv, S, T, ops, L, old] 67)) := hw1
 have HB1 : Hid (Below w.heap.size w w1) := hB
 have HBK1 : Hid (w1.heap[bk]? = some (.cells #[ptrB bx, ptrB bY, .pointer none] 100)) := hbk1
 have HY1 : Hid (w1.heap[bY]? = some (.cells #[.int .i64 d.quota, .slice va 0 vc, .int .i64 d.left, .bool d.dead] 141)) := hy1
 have hltk := lt_of_block hbk
 have HM0 : Hid (w1.cell? ⟨bk, 0, none⟩ = some (.pointer (some ⟨bx, 0, none⟩))) := m0
 have HM2 : Hid (w1.cell? ⟨bk, 2, none⟩ = some (.pointer none)) := m2
 rw [hw1] at m0 m1 m2 y1
 have hOp : Calls Tryz.prog 21 #[.pointer (some ⟨bx, 0, none⟩), .int .i64 A] w1.drew fun e w' => e = .returned (.tuple #[.pointer none, .int .i64 (openX d).1]) /\ Kp C4 w1.drew w' /\ ∃ part', Room w' (Nw C4 w1.drew) bx bd part' (openX d).2.1 zs := (hR1.open A hok (by rw [hf]; simp) ht0 ht hA0 hA2).mono (by
   rintro e w' ⟨kp, (⟨h0, _⟩ | ⟨_, rfl, part', hR⟩)⟩
   . exact absurd h0 hne
   . exact ⟨rfl, kp, part', hR⟩)
 clear hR0 hbk1 hy1 hB hw1 hbk hy hyr hX hR1
 go_enter Tryz.func63, Tryz.ntmps63
 go_wp2
 rw [HW.out.symm]
 clear m0 m1 m2 y1 HW
 have hc : w1.drew.cell? ⟨bk, 0, none⟩ = some (.pointer (some ⟨bx, 0, none⟩)) /\ w1.drew.cell? ⟨w.heap.size, 2, none⟩ = some (.int .i64 A) := ⟨HM0.out, o2⟩
 refine wp_region_E (S := fun w' => w'.cell? ⟨bk, 0, none⟩ = some (.pointer (some ⟨bx, 0, none⟩)) /\ w'.cell? ⟨w.heap.size, 2, none⟩ = some (.int .i64 A)) mixedT ?_
 refine tp 0 10 bk 0 rfl rfl (fun w' hS => ?_) hc ?_
 . obtain ⟨hS1, hS2⟩ := hS
   go_simp
 refine tp 1 10 bk 0 rfl rfl (fun w' hS => ?_) hc ?_
 . obtain ⟨hS1, hS2⟩ := hS
   go_simp
 refine tp 2 10 bk 0 rfl rfl (fun w' hS => ?_) hc ?_
 . obtain ⟨hS1, hS2⟩ := hS
   go_simp
 refine tp 3 10 bx 0 rfl rfl (fun w' hS => ?_) hc ?_
 . obtain ⟨hS1, hS2⟩ := hS
   go_simp
 refine tp 4 10 w.heap.size 2 rfl rfl (fun w' hS => ?_) hc ?_
 . obtain ⟨hS1, hS2⟩ := hS
   go_simp
 refine tk 5 10 (.int .i64 A) rfl rfl (fun w' hS => ?_) hc ?_
 . obtain ⟨hS1, hS2⟩ := hS
   go_simp
 refine wpAnyE_one (i := 6) (by kernel_rfl) rfl (by rfl) (fun K hK => ?_)
 go_simp
 refine hOp.mono ?_
 clear hOp
 intro e wa hpost
 obtain ⟨rfl, kpa, part, hRa⟩ := hpost
 have hboa := kpa.at HBO.out (fun s => by have := hC _ (h4 _ s); omega)
 have hsza := kpa.size
 replace hsza : w1.heap.size <= wa.heap.size := hsza
 have HBKa : Hid (wa.heap[bk]? = some (.cells #[ptrB bx, ptrB bY, .pointer none] 100)) := kpa.at (show w1.drew.heap[bk]? = _ from HBK1.out) hn4
 have hya : wa.heap[bY]? = some (.cells #[.int .i64 d.quota, .slice va 0 vc, .int .i64 d.left, .bool d.dead] 141) := kpa.at (show w1.drew.heap[bY]? = _ from HY1.out) (fun s => h45 _ s hys)
 obtain ⟨m0, m1, m2, -⟩ := cells3 HBKa.out
 unfold ptrB at m0 m1
 have o2a : wa.cell? ⟨w.heap.size, 2, none⟩ = some (.int .i64 A) := cell_block hboa
 clear hc
 have hc : wa.cell? ⟨bk, 0, none⟩ = some (.pointer (some ⟨bx, 0, none⟩)) /\ wa.cell? ⟨w.heap.size, 2, none⟩ = some (.int .i64 A) := ⟨m0, o2a⟩
 refine hK.out _ _ hc ?_
 clear hK
 refine wpAnyE_one (i := 7) (by kernel_rfl) rfl (by rfl) (fun K hK => ?_)
 go_simp
 refine hK.out _ _ hc ?_
 clear hK
 refine tk 8 10 (.pointer none) rfl rfl (fun w' hS => ?_) hc ?_
 . obtain ⟨hS1, hS2⟩ := hS
   go_simp
 refine tk 9 11 (.int .i64 (openX d).1) rfl rfl (fun w' hS => ?_) hc ?_
 . obtain ⟨hS1, hS2⟩ := hS
   go_simp
 refine wpAnyE_one (i := 10) (by kernel_rfl) rfl (by rfl) (fun K hK => ?_)
 go_simp
 refine hK.out _ _ hc ?_
 clear hK
 refine wpAnyE_last (i := 11) (by kernel_rfl) rfl (by rfl) (by kernel_rfl) (by kernel_rfl) (fun K hK => ?_)
 go_simp
 refine hK.out _ _ ?_
 clear hK
 clear hc
 go_wp2
 have hc7 : wa.drew.cell? ⟨bk, 1, none⟩ = some (.pointer (some ⟨bY, 0, none⟩)) /\ wa.drew.cell? ⟨bY, 0, none⟩ = some (.int .i64 d.quota) /\ wa.drew.cell? ⟨bY, 3, none⟩ = some (.bool d.dead) /\ wa.drew.cell? ⟨bY, 2, none⟩ = some (.int .i64 d.left) := ⟨m1, cell_block hya, cell_block hya, cell_block hya⟩
 refine wp_region_E (S := fun w' => w'.cell? ⟨bk, 1, none⟩ = some (.pointer (some ⟨bY, 0, none⟩)) /\ w'.cell? ⟨bY, 0, none⟩ = some (.int .i64 d.quota) /\ w'.cell? ⟨bY, 3, none⟩ = some (.bool d.dead) /\ w'.cell? ⟨bY, 2, none⟩ = some (.int .i64 d.left)) mixedT ?_
 refine tp 0 27 bk 0 rfl rfl (fun w' hS => ?_) hc7 ?_
 . obtain ⟨hS1, hS2, hS3, hS4⟩ := hS
   go_simp
 refine tp 1 27 bk 0 rfl rfl (fun w' hS => ?_) hc7 ?_
 . obtain ⟨hS1, hS2, hS3, hS4⟩ := hS
   go_simp
 refine tp 2 27 bk 0 rfl rfl (fun w' hS => ?_) hc7 ?_
 . obtain ⟨hS1, hS2, hS3, hS4⟩ := hS
   go_simp
 refine tp 3 27 bk 1 rfl rfl (fun w' hS => ?_) hc7 ?_
 . obtain ⟨hS1, hS2, hS3, hS4⟩ := hS
   go_simp
 refine tp 4 27 bY 0 rfl rfl (fun w' hS => ?_) hc7 ?_
 . obtain ⟨hS1, hS2, hS3, hS4⟩ := hS
   go_simp
 refine tp 5 27 bY 0 rfl rfl (fun w' hS => ?_) hc7 ?_
 . obtain ⟨hS1, hS2, hS3, hS4⟩ := hS
   go_simp
 refine tp 6 27 bY 0 rfl rfl (fun w' hS => ?_) hc7 ?_
 . obtain ⟨hS1, hS2, hS3, hS4⟩ := hS
   go_simp
 refine tk 7 27 (.int .i64 d.quota) rfl rfl (fun w' hS => ?_) hc7 ?_
 . obtain ⟨hS1, hS2, hS3, hS4⟩ := hS
   go_simp
 refine tp 8 27 bk 0 rfl rfl (fun w' hS => ?_) hc7 ?_
 . obtain ⟨hS1, hS2, hS3, hS4⟩ := hS
   go_simp
 refine tp 9 27 bk 0 rfl rfl (fun w' hS => ?_) hc7 ?_
 . obtain ⟨hS1, hS2, hS3, hS4⟩ := hS
   go_simp
 refine tp 10 27 bk 1 rfl rfl (fun w' hS => ?_) hc7 ?_
 . obtain ⟨hS1, hS2, hS3, hS4⟩ := hS
   go_simp
 refine tp 11 27 bY 0 rfl rfl (fun w' hS => ?_) hc7 ?_
 . obtain ⟨hS1, hS2, hS3, hS4⟩ := hS
   go_simp
 refine tp 12 27 bY 0 rfl rfl (fun w' hS => ?_) hc7 ?_
 . obtain ⟨hS1, hS2, hS3, hS4⟩ := hS
   go_simp
 refine tp 13 27 bY 3 rfl rfl (fun w' hS => ?_) hc7 ?_
 . obtain ⟨hS1, hS2, hS3, hS4⟩ := hS
   go_simp
 refine tk 14 27 (.bool d.dead) rfl rfl (fun w' hS => ?_) hc7 ?_
 . obtain ⟨hS1, hS2, hS3, hS4⟩ := hS
   go_simp
 refine tp 15 27 bk 0 rfl rfl (fun w' hS => ?_) hc7 ?_
 . obtain ⟨hS1, hS2, hS3, hS4⟩ := hS
   go_simp
 refine tp 16 27 bk 0 rfl rfl (fun w' hS => ?_) hc7 ?_
 . obtain ⟨hS1, hS2, hS3, hS4⟩ := hS
   go_simp
 refine tp 17 27 bk 1 rfl rfl (fun w' hS => ?_) hc7 ?_
 . obtain ⟨hS1, hS2, hS3, hS4⟩ := hS
   go_simp
 refine tp 18 27 bY 0 rfl rfl (fun w' hS => ?_) hc7 ?_
 . obtain ⟨hS1, hS2, hS3, hS4⟩ := hS
   go_simp
 refine tp 19 27 bY 0 rfl rfl (fun w' hS => ?_) hc7 ?_
 . obtain ⟨hS1, hS2, hS3, hS4⟩ := hS
   go_simp
 refine tp 20 27 bY 2 rfl rfl (fun w' hS => ?_) hc7 ?_
 . obtain ⟨hS1, hS2, hS3, hS4⟩ := hS
   go_simp
 refine tk 21 27 (.int .i64 d.left) rfl rfl (fun w' hS => ?_) hc7 ?_
 . obtain ⟨hS1, hS2, hS3, hS4⟩ := hS
   go_simp
 refine tk 22 27 (.bool (decide (0 <= d.left))) rfl rfl (fun w' hS => ?_) hc7 ?_
 . obtain ⟨hS1, hS2, hS3, hS4⟩ := hS
   go_simp
 refine tk 23 27 (.agg #[.int .i64 d.quota, .slice none 0 0, .int .i64 0, .bool false, .int .i64 0, .int .i64 0, .bool d.dead, .bool (decide (0 <= d.left)), .slice none 0 0]) rfl rfl (fun w' hS => ?_) hc7 ?_
 . obtain ⟨hS1, hS2, hS3, hS4⟩ := hS
   go_simp
 refine wpAnyE_one (i := 24) (by kernel_rfl) rfl (by rfl) (fun K hK => ?_)
 go_simp
 have hAl : Below wa.heap.size wa (wa.alloc (.cells #[.int .i64 d.quota, .slice none 0 0, .int .i64 0, .bool false, .int .i64 0, .int .i64 0, .bool d.dead, .bool (decide (0 <= d.left)), .slice none 0 0] 113)) := (Below.refl _ _).alloc (Nat.le_refl _) _
 have hbkb : (wa.alloc (.cells #[.int .i64 d.quota, .slice none 0 0, .int .i64 0, .bool false, .int .i64 0, .int .i64 0, .bool d.dead, .bool (decide (0 <= d.left)), .slice none 0 0] 113)).heap[bk]? = some (.cells #[ptrB bx, ptrB bY, .pointer none] 100) := block_alloc HBKa.out
 have hyb := block_alloc (p := (.cells #[.int .i64 d.quota, .slice none 0 0, .int .i64 0, .bool false, .int .i64 0, .int .i64 0, .bool d.dead, .bool (decide (0 <= d.left)), .slice none 0 0] 113)) hya
 have hc8 : (wa.alloc (.cells #[.int .i64 d.quota, .slice none 0 0, .int .i64 0, .bool false, .int .i64 0, .int .i64 0, .bool d.dead, .bool (decide (0 <= d.left)), .slice none 0 0] 113)).drew.cell? ⟨bk, 1, none⟩ = some (.pointer (some ⟨bY, 0, none⟩)) /\ (wa.alloc (.cells #[.int .i64 d.quota, .slice none 0 0, .int .i64 0, .bool false, .int .i64 0, .int .i64 0, .bool d.dead, .bool (decide (0 <= d.left)), .slice none 0 0] 113)).drew.cell? ⟨bY, 0, none⟩ = some (.int .i64 d.quota) /\ (wa.alloc (.cells #[.int .i64 d.quota, .slice none 0 0, .int .i64 0, .bool false, .int .i64 0, .int .i64 0, .bool d.dead, .bool (decide (0 <= d.left)), .slice none 0 0] 113)).drew.cell? ⟨bY, 3, none⟩ = some (.bool d.dead) /\ (wa.alloc (.cells #[.int .i64 d.quota, .slice none 0 0, .int .i64 0, .bool false, .int .i64 0, .int .i64 0, .bool d.dead, .bool (decide (0 <= d.left)), .slice none 0 0] 113)).drew.cell? ⟨bY, 2, none⟩ = some (.int .i64 d.left) := ⟨cell_block hbkb, cell_block hyb, cell_block hyb, cell_block hyb⟩
 have m2b : (wa.alloc (.cells #[.int .i64 d.quota, .slice none 0 0, .int .i64 0, .bool false, .int .i64 0, .int .i64 0, .bool d.dead, .bool (decide (0 <= d.left)), .slice none 0 0] 113)).cell? ⟨bk, 2, none⟩ = some (.pointer none) := cell_block hbkb
 have z2b : (wa.alloc (.cells #[.int .i64 d.quota, .slice none 0 0, .int .i64 0, .bool false, .int .i64 0, .int .i64 0, .bool d.dead, .bool (decide (0 <= d.left)), .slice none 0 0] 113)).frozen? ⟨bk, 2, none⟩ = false := frozen_block hbkb
 refine hK.out _ _ hc8 ?_
 clear hK hc7
 refine wpAnyE_one (i := 25) (by kernel_rfl) rfl (by rfl) (fun K hK => ?_)
 go_simp
 refine hK.out _ _ hc8 ?_
 clear hK
 refine wpAnyE_one (i := 26) (by kernel_rfl) rfl (by rfl) (fun K hK => ?_)
 go_simp
 refine hK.out _ _ hc8 ?_
 clear hK
 refine wpAnyE_last (i := 27) (by kernel_rfl) rfl (by rfl) (by kernel_rfl) (by kernel_rfl) (fun K hK => ?_)
 go_simp
 refine hK.out _ _ ?_
 clear hK
 obtain ⟨D2, hD2, hv2⟩ := Dv.first (d := d) (vy := ptrB bY) HB1.out.drew h4 hn4 hcb hltk HBKa.out kpa hRa
 replace hv2 : Dv w C (((wa.alloc (.cells #[.int .i64 d.quota, .slice none 0 0, .int .i64 0, .bool false, .int .i64 0, .int .i64 0, .bool d.dead, .bool (decide (0 <= d.left)), .slice none 0 0] 113)).setCell ⟨bk, 2, none⟩ (.pointer (some ⟨wa.heap.size, 0, none⟩))).drew) D2 bk bx bd (ptrB bY) (openX d).2.1 zs (newK wa.heap.size d) := hv2.drew
 obtain ⟨k, hkdef⟩ : ∃ k, k = newK wa.heap.size d := ⟨_, rfl⟩
 rw [<- hkdef] at hv2
 have hI : KInv k d zs := by rw [hkdef, hzs]; exact KInv.new _ hok hf ht0
 have hbo2 : (((wa.alloc (.cells #[.int .i64 d.quota, .slice none 0 0, .int .i64 0, .bool false, .int .i64 0, .int .i64 0, .bool d.dead, .bool (decide (0 <= d.left)), .slice none 0 0] 113)).setCell ⟨bk, 2, none⟩ (.pointer (some ⟨wa.heap.size, 0, none⟩))).drew).heap[w.heap.size]? = some (.cells #[.int .i64 11, Dd, .int .i64 A, Bv, S, T, ops, L, old] 67) := block_set_ne (block_alloc hboa) (by omega) _
 have hsz2 : w1.heap.size <= (((wa.alloc (.cells #[.int .i64 d.quota, .slice none 0 0, .int .i64 0, .bool false, .int .i64 0, .int .i64 0, .bool d.dead, .bool (decide (0 <= d.left)), .slice none 0 0] 113)).setCell ⟨bk, 2, none⟩ (.pointer (some ⟨wa.heap.size, 0, none⟩))).drew).heap.size := by
   have e : (((wa.alloc (.cells #[.int .i64 d.quota, .slice none 0 0, .int .i64 0, .bool false, .int .i64 0, .int .i64 0, .bool d.dead, .bool (decide (0 <= d.left)), .slice none 0 0] 113)).setCell ⟨bk, 2, none⟩ (.pointer (some ⟨wa.heap.size, 0, none⟩))).drew).heap.size = wa.heap.size + 1 := by simp [World.setCell, World.drew]
   omega
 clear hc8 m2b z2b hbkb hyb hAl m0 m1 m2 o2a hboa HBKa hya
 generalize ((wa.alloc (.cells #[.int .i64 d.quota, .slice none 0 0, .int .i64 0, .bool false, .int .i64 0, .int .i64 0, .bool d.dead, .bool (decide (0 <= d.left)), .slice none 0 0] 113)).setCell ⟨bk, 2, none⟩ (.pointer (some ⟨wa.heap.size, 0, none⟩))).drew = w2 at hv2 hbo2 hsz2 ⊢
 have hn2 : ∀ i, D2 i -> i ≠ w.heap.size := fun i s e => by
   subst e
   rcases hD2 _ s with s | s | s
   . omega
   . omega
   . rcases s.1 with s | s
     . have := hC _ (h4 _ s); omega
     . replace s : w1.heap.size <= w.heap.size := s
       omega
 obtain ⟨m0, -, m2, -, -⟩ := hv2.dcells
 have o2 : w2.cell? ⟨w.heap.size, 2, none⟩ = some (.int .i64 A) := cell_block hbo2
 have hn : k.ones.length <= 4194000 := by rw [hkdef]; simp [newK]
 have hb : k.bytes <= 2097152 := by rw [hkdef]; simp [newK]
 have ho : k.ops <= 1048576 := by rw [hkdef]; simp [newK]
 have htn := openX_turn hok
 have HK0 : Hid (k.bytes = 0 /\ k.ops = 0 /\ k.ones = []) := by rw [hkdef]; exact ⟨rfl, rfl, rfl⟩
 have hcr : k.crashed = false := by rw [hkdef]; rfl
 clear hkdef hD2 hRa
 obtain ⟨hen, hF⟩ := hI.openNo hne
 have hokF := hF.ok
 have HF : Hid (KInv (diedK (closeK k) (openX d).2.1) (openX d).2.1 zs) := hF
 have HEN : Hid (endsB (closeK k) (openX d).2.1 (openX d).1 0 true = true) := hen
 have HOKF : Hid ((openX d).2.1.Ok /\ (openX d).2.1.files.length <= 2) := hokF
 clear hF hen hokF
 have hCl := hv2.close (by omega)
 generalize hE : (openX d).1 = E at *
 have hE1 : (E == 0) = false := by simpa using hne
 have hE2 : (E != 0) = true := by simpa using hne
 have hE3 : decide (E = 0) = false := by simpa using hne
 go_wp2_with (first
   | (go_at_call 97; refine hCl.mono ?_; rintro e w3 ⟨rfl, D3, hg3, hv3, kp3⟩; clear hCl; have hbo3 := kp3.at hbo2 (fun s => hn2 _ s rfl); have o2' : w3.cell? ⟨w.heap.size, 2, none⟩ = some (.int .i64 A) := cell_block hbo3; have hEd := ends_any hv3 HOKF.out.1 (by have := HOKF.out.2; omega) (by show k.bytes <= _; omega) (by show k.ops <= _; omega) E 0 true; rw [HEN.out] at hEd; clear o2 m0 m2)
   | (go_at_call 98; refine hEd.mono ?_; rintro e w4 ⟨rfl, D4, hg4, hv4, kp4⟩; clear hEd))
 go_ret
 refine ⟨bd, k, ?_, HK0.out⟩
 exact ⟨rfl, D4, (openX d).2.1, zs, diedK (closeK k) (openX d).2.1, hv4, HF.out, by omega, by rw [(diedK_same _ _).2.1]; exact Nat.le_refl _, by rw [(diedK_same _ _).2.2.1]; exact Nat.le_refl _, by rw [(diedK_ones _ _).1]; simp [closeK]⟩
end
end Go.Proofs.YtfghgmojnffgnaaGreat
