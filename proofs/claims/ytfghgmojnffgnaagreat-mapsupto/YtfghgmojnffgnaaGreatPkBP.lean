import Derived.Test.YtfghgmojnffgnaaGreatPkBN
import Derived.Test.YtfghgmojnffgnaaGreatPkBM
set_option maxHeartbeats 4000000
set_option maxRecDepth 20000
namespace Go.Proofs.YtfghgmojnffgnaaGreat
open Go.RowKit Go.Maps Go.Sort
section
variable {w : World} {C C4 C5 : Nat -> Prop} {bk bx bY : Nat} {d : Dk}
theorem open_okP (hbk : w.heap[bk]? = some (.cells #[ptrB bx, ptrB bY, .pointer none] 100)) (hcb : C bk) (h4 : ∀ i, C4 i -> C i) (h45 : ∀ i, C4 i -> ¬ C5 i) (hn4 : ¬ C4 bk) (hX : XAt w C4 bx d) (hY : RefAt w C5 bY d) (hok : d.Ok) (ht0 : 0 <= d.turn) (ht : d.turn <= 4611686018427387904) (hC : ∀ i, C i -> i < w.heap.size) (hf : d.files = []) (Dd Bv S T ops L old : Value) (A : Int) (hA0 : 0 <= A) (hA2 : A <= 2) (h0 : (openX d).1 = 0) :
   Calls Tryz.prog 63 #[.pointer (some ⟨bk, 0, none⟩), .agg #[.int .i64 11, Dd, .int .i64 A, Bv, S, T, ops, L, old]] w (OutP w C bk bx (ptrB bY) d) := by
 obtain ⟨v, hy, hyr, hys, -⟩ := hY
 rw [hf] at hyr
 obtain ⟨va, vc, rfl⟩ := slice_zero hyr
 obtain ⟨w1, hw1⟩ : ∃ w1, w1 = w.alloc (.cells #[.int .i64 11, Dd, .int .i64 A, Bv, S, T, ops, L, old] 67) := ⟨_, rfl⟩
 have hB : Below w.heap.size w w1 := by rw [hw1]; exact (Below.refl _ w).alloc (Nat.le_refl _) _
 have hsz1 : w1.heap.size = w.heap.size + 1 := by rw [hw1]; simp
 obtain ⟨bd, hR0⟩ := room_new hX
 obtain ⟨zs, hzs⟩ : ∃ zs : List (Nat × St), zs = [] := ⟨_, rfl⟩
 have hR1 : Room w1.drew C4 bx bd (fun _ => 0) d zs := by rw [hzs]; exact hR0.kept (V := fun _ => False) (Kp.of_below hB.drew) (fun _ _ f => f)
 have hbk1 := block_at2 hbk hB
 have hy1 := block_at2 hy hB
 obtain ⟨m0, m1, m2, -⟩ := cells3 hbk1
 obtain ⟨y0, y1, y2, y3⟩ : w1.cell? ⟨bY, 0, none⟩ = some (.int .i64 d.quota) /\ w1.cell? ⟨bY, 1, none⟩ = some (.slice va 0 vc) /\ w1.cell? ⟨bY, 2, none⟩ = some (.int .i64 d.left) /\ w1.cell? ⟨bY, 3, none⟩ = some (.bool d.dead) := ⟨cell_block hy1, cell_block hy1, cell_block hy1, cell_block hy1⟩
 unfold ptrB at m0 m1
 have HBO : Hid (w1.drew.heap[w.heap.size]? = some (.cells #[.int .i64 11, Dd, .int .i64 A, Bv, S, T, ops, L, old] 67)) := by rw [hw1]; exact block_new w _
 have o2 : w1.drew.cell? ⟨w.heap.size, 2, none⟩ = some (.int .i64 A) := cell_block HBO.out
 have HW : Hid (w1 = w.alloc (.cells #[.int .i64 11, Dd, .int .i64 A, Bv, S, T, ops, L, old] 67)) := hw1
 have HB1 : Hid (Below w.heap.size w w1) := hB
 have HBK1 : Hid (w1.heap[bk]? = some (.cells #[ptrB bx, ptrB bY, .pointer none] 100)) := hbk1
 have HY1 : Hid (w1.heap[bY]? = some (.cells #[.int .i64 d.quota, .slice va 0 vc, .int .i64 d.left, .bool d.dead] 141)) := hy1
 have hltk := lt_of_block hbk
 have HM0 : Hid (w1.cell? ⟨bk, 0, none⟩ = some (.pointer (some ⟨bx, 0, none⟩))) := m0
 have HM2 : Hid (w1.cell? ⟨bk, 2, none⟩ = some (.pointer none)) := m2
 rw [hw1] at m0 m1 m2 y1
 have hOp : Calls Tryz.prog 21 #[.pointer (some ⟨bx, 0, none⟩), .int .i64 A] w1.drew fun e w' => ∃ bz, e = .returned (.tuple #[.pointer (some ⟨bz, 0, none⟩), .int .i64 0]) /\ Kp C4 w1.drew w' /\ ∃ part', Room w' (Nw C4 w1.drew) bx bd part' (openX d).2.1 (zs ++ [(bz, (⟨d.turn + 1, (openX d).2.2, false, false⟩ : St))]) := (hR1.open A hok (by rw [hf]; simp) ht0 ht hA0 hA2).mono (by
   rintro e w' ⟨kp, (⟨_, bz, st2, part', rfl, hR, rfl⟩ | ⟨hne, _⟩)⟩
   . exact ⟨bz, rfl, kp, part', hR⟩
   . exact absurd h0 hne)
 clear hR0 hbk1 hy1 hB hw1 hbk hy hyr hX hR1
 go_enter Tryz.func63, Tryz.ntmps63
 go_wp2
 rw [HW.out.symm]
 clear m0 m1 m2 y1 HW
 have hc : w1.drew.cell? ⟨bk, 0, none⟩ = some (.pointer (some ⟨bx, 0, none⟩)) /\ w1.drew.cell? ⟨w.heap.size, 2, none⟩ = some (.int .i64 A) := ⟨HM0.out, o2⟩
 refine wp_region_E (S := fun w' => w'.cell? ⟨bk, 0, none⟩ = some (.pointer (some ⟨bx, 0, none⟩)) /\ w'.cell? ⟨w.heap.size, 2, none⟩ = some (.int .i64 A)) mixedT ?_
 refine tp 0 10 bk 0 rfl rfl (fun w' hS => ?_) hc ?_
 . obtain ⟨hS1, hS2⟩ := hS
   go_simp
 refine tp 1 10 bk 0 rfl rfl (fun w' hS => ?_) hc ?_
 . obtain ⟨hS1, hS2⟩ := hS
   go_simp
 refine tp 2 10 bk 0 rfl rfl (fun w' hS => ?_) hc ?_
 . obtain ⟨hS1, hS2⟩ := hS
   go_simp
 refine tp 3 10 bx 0 rfl rfl (fun w' hS => ?_) hc ?_
 . obtain ⟨hS1, hS2⟩ := hS
   go_simp
 refine tp 4 10 w.heap.size 2 rfl rfl (fun w' hS => ?_) hc ?_
 . obtain ⟨hS1, hS2⟩ := hS
   go_simp
 refine tk 5 10 (.int .i64 A) rfl rfl (fun w' hS => ?_) hc ?_
 . obtain ⟨hS1, hS2⟩ := hS
   go_simp
 refine wpAnyE_one (i := 6) (by kernel_rfl) rfl (by rfl) (fun K hK => ?_)
 go_simp
 refine hOp.mono ?_
 clear hOp
 intro e wa hpost
 obtain ⟨bz, rfl, kpa, part, hRa⟩ := hpost
 have hboa := kpa.at HBO.out (fun s => by have := hC _ (h4 _ s); omega)
 have hsza := kpa.size
 replace hsza : w1.heap.size <= wa.heap.size := hsza
 have HBKa : Hid (wa.heap[bk]? = some (.cells #[ptrB bx, ptrB bY, .pointer none] 100)) := kpa.at (show w1.drew.heap[bk]? = _ from HBK1.out) hn4
 have hya : wa.heap[bY]? = some (.cells #[.int .i64 d.quota, .slice va 0 vc, .int .i64 d.left, .bool d.dead] 141) := kpa.at (show w1.drew.heap[bY]? = _ from HY1.out) (fun s => h45 _ s hys)
 obtain ⟨m0, m1, m2, -⟩ := cells3 HBKa.out
 unfold ptrB at m0 m1
 have o2a : wa.cell? ⟨w.heap.size, 2, none⟩ = some (.int .i64 A) := cell_block hboa
 clear hc
 have hc : wa.cell? ⟨bk, 0, none⟩ = some (.pointer (some ⟨bx, 0, none⟩)) /\ wa.cell? ⟨w.heap.size, 2, none⟩ = some (.int .i64 A) := ⟨m0, o2a⟩
 refine hK.out _ _ hc ?_
 clear hK
 refine wpAnyE_one (i := 7) (by kernel_rfl) rfl (by rfl) (fun K hK => ?_)
 go_simp
 refine hK.out _ _ hc ?_
 clear hK
 refine tp 8 10 bz 0 rfl rfl (fun w' hS => ?_) hc ?_
 . obtain ⟨hS1, hS2⟩ := hS
   go_simp
 refine tk 9 11 (.int .i64 0) rfl rfl (fun w' hS => ?_) hc ?_
 . obtain ⟨hS1, hS2⟩ := hS
   go_simp
 refine wpAnyE_one (i := 10) (by kernel_rfl) rfl (by rfl) (fun K hK => ?_)
 go_simp
 refine hK.out _ _ hc ?_
 clear hK
 refine wpAnyE_last (i := 11) (by kernel_rfl) rfl (by rfl) (by kernel_rfl) (by kernel_rfl) (fun K hK => ?_)
 go_simp
 refine hK.out _ _ ?_
 clear hK
 clear hc
 go_wp2
 have hc7 : wa.drew.cell? ⟨bk, 1, none⟩ = some (.pointer (some ⟨bY, 0, none⟩)) /\ wa.drew.cell? ⟨bY, 0, none⟩ = some (.int .i64 d.quota) /\ wa.drew.cell? ⟨bY, 3, none⟩ = some (.bool d.dead) /\ wa.drew.cell? ⟨bY, 2, none⟩ = some (.int .i64 d.left) := ⟨m1, cell_block hya, cell_block hya, cell_block hya⟩
 refine wp_region_E (S := fun w' => w'.cell? ⟨bk, 1, none⟩ = some (.pointer (some ⟨bY, 0, none⟩)) /\ w'.cell? ⟨bY, 0, none⟩ = some (.int .i64 d.quota) /\ w'.cell? ⟨bY, 3, none⟩ = some (.bool d.dead) /\ w'.cell? ⟨bY, 2, none⟩ = some (.int .i64 d.left)) mixedT ?_
 refine tp 0 27 bk 0 rfl rfl (fun w' hS => ?_) hc7 ?_
 . obtain ⟨hS1, hS2, hS3, hS4⟩ := hS
   go_simp
 refine tp 1 27 bk 0 rfl rfl (fun w' hS => ?_) hc7 ?_
 . obtain ⟨hS1, hS2, hS3, hS4⟩ := hS
   go_simp
 refine tp 2 27 bk 0 rfl rfl (fun w' hS => ?_) hc7 ?_
 . obtain ⟨hS1, hS2, hS3, hS4⟩ := hS
   go_simp
 refine tp 3 27 bk 1 rfl rfl (fun w' hS => ?_) hc7 ?_
 . obtain ⟨hS1, hS2, hS3, hS4⟩ := hS
   go_simp
 refine tp 4 27 bY 0 rfl rfl (fun w' hS => ?_) hc7 ?_
 . obtain ⟨hS1, hS2, hS3, hS4⟩ := hS
   go_simp
 refine tp 5 27 bY 0 rfl rfl (fun w' hS => ?_) hc7 ?_
 . obtain ⟨hS1, hS2, hS3, hS4⟩ := hS
   go_simp
 refine tp 6 27 bY 0 rfl rfl (fun w' hS => ?_) hc7 ?_
 . obtain ⟨hS1, hS2, hS3, hS4⟩ := hS
   go_simp
 refine tk 7 27 (.int .i64 d.quota) rfl rfl (fun w' hS => ?_) hc7 ?_
 . obtain ⟨hS1, hS2, hS3, hS4⟩ := hS
   go_simp
 refine tp 8 27 bk 0 rfl rfl (fun w' hS => ?_) hc7 ?_
 . obtain ⟨hS1, hS2, hS3, hS4⟩ := hS
   go_simp
 refine tp 9 27 bk 0 rfl rfl (fun w' hS => ?_) hc7 ?_
 . obtain ⟨hS1, hS2, hS3, hS4⟩ := hS
   go_simp
 refine tp 10 27 bk 1 rfl rfl (fun w' hS => ?_) hc7 ?_
 . obtain ⟨hS1, hS2, hS3, hS4⟩ := hS
   go_simp
 refine tp 11 27 bY 0 rfl rfl (fun w' hS => ?_) hc7 ?_
 . obtain ⟨hS1, hS2, hS3, hS4⟩ := hS
   go_simp
 refine tp 12 27 bY 0 rfl rfl (fun w' hS => ?_) hc7 ?_
 . obtain ⟨hS1, hS2, hS3, hS4⟩ := hS
   go_simp
 refine tp 13 27 bY 3 rfl rfl (fun w' hS => ?_) hc7 ?_
 . obtain ⟨hS1, hS2, hS3, hS4⟩ := hS
   go_simp
 refine tk 14 27 (.bool d.dead) rfl rfl (fun w' hS => ?_) hc7 ?_
 . obtain ⟨hS1, hS2, hS3, hS4⟩ := hS
   go_simp
 refine tp 15 27 bk 0 rfl rfl (fun w' hS => ?_) hc7 ?_
 . obtain ⟨hS1, hS2, hS3, hS4⟩ := hS
   go_simp
 refine tp 16 27 bk 0 rfl rfl (fun w' hS => ?_) hc7 ?_
 . obtain ⟨hS1, hS2, hS3, hS4⟩ := hS
   go_simp
 refine tp 17 27 bk 1 rfl rfl (fun w' hS => ?_) hc7 ?_
 . obtain ⟨hS1, hS2, hS3, hS4⟩ := hS
   go_simp
 refine tp 18 27 bY 0 rfl rfl (fun w' hS => ?_) hc7 ?_
 . obtain ⟨hS1, hS2, hS3, hS4⟩ := hS
   go_simp
 refine tp 19 27 bY 0 rfl rfl (fun w' hS => ?_) hc7 ?_
 . obtain ⟨hS1, hS2, hS3, hS4⟩ := hS
   go_simp
 refine tp 20 27 bY 2 rfl rfl (fun w' hS => ?_) hc7 ?_
 . obtain ⟨hS1, hS2, hS3, hS4⟩ := hS
   go_simp
 refine tk 21 27 (.int .i64 d.left) rfl rfl (fun w' hS => ?_) hc7 ?_
 . obtain ⟨hS1, hS2, hS3, hS4⟩ := hS
   go_simp
 refine tk 22 27 (.bool (decide (0 <= d.left))) rfl rfl (fun w' hS => ?_) hc7 ?_
 . obtain ⟨hS1, hS2, hS3, hS4⟩ := hS
   go_simp
 refine tk 23 27 (.agg #[.int .i64 d.quota, .slice none 0 0, .int .i64 0, .bool false, .int .i64 0, .int .i64 0, .bool d.dead, .bool (decide (0 <= d.left)), .slice none 0 0]) rfl rfl (fun w' hS => ?_) hc7 ?_
 . obtain ⟨hS1, hS2, hS3, hS4⟩ := hS
   go_simp
 refine wpAnyE_one (i := 24) (by kernel_rfl) rfl (by rfl) (fun K hK => ?_)
 go_simp
 have hAl : Below wa.heap.size wa (wa.alloc (.cells #[.int .i64 d.quota, .slice none 0 0, .int .i64 0, .bool false, .int .i64 0, .int .i64 0, .bool d.dead, .bool (decide (0 <= d.left)), .slice none 0 0] 113)) := (Below.refl _ _).alloc (Nat.le_refl _) _
 have hbkb : (wa.alloc (.cells #[.int .i64 d.quota, .slice none 0 0, .int .i64 0, .bool false, .int .i64 0, .int .i64 0, .bool d.dead, .bool (decide (0 <= d.left)), .slice none 0 0] 113)).heap[bk]? = some (.cells #[ptrB bx, ptrB bY, .pointer none] 100) := block_alloc HBKa.out
 have hyb := block_alloc (p := (.cells #[.int .i64 d.quota, .slice none 0 0, .int .i64 0, .bool false, .int .i64 0, .int .i64 0, .bool d.dead, .bool (decide (0 <= d.left)), .slice none 0 0] 113)) hya
 have hc8 : (wa.alloc (.cells #[.int .i64 d.quota, .slice none 0 0, .int .i64 0, .bool false, .int .i64 0, .int .i64 0, .bool d.dead, .bool (decide (0 <= d.left)), .slice none 0 0] 113)).drew.cell? ⟨bk, 1, none⟩ = some (.pointer (some ⟨bY, 0, none⟩)) /\ (wa.alloc (.cells #[.int .i64 d.quota, .slice none 0 0, .int .i64 0, .bool false, .int .i64 0, .int .i64 0, .bool d.dead, .bool (decide (0 <= d.left)), .slice none 0 0] 113)).drew.cell? ⟨bY, 0, none⟩ = some (.int .i64 d.quota) /\ (wa.alloc (.cells #[.int .i64 d.quota, .slice none 0 0, .int .i64 0, .bool false, .int .i64 0, .int .i64 0, .bool d.dead, .bool (decide (0 <= d.left)), .slice none 0 0] 113)).drew.cell? ⟨bY, 3, none⟩ = some (.bool d.dead) /\ (wa.alloc (.cells #[.int .i64 d.quota, .slice none 0 0, .int .i64 0, .bool false, .int .i64 0, .int .i64 0, .bool d.dead, .bool (decide (0 <= d.left)), .slice none 0 0] 113)).drew.cell? ⟨bY, 2, none⟩ = some (.int .i64 d.left) := ⟨cell_block hbkb, cell_block hyb, cell_block hyb, cell_block hyb⟩
 have m2b : (wa.alloc (.cells #[.int .i64 d.quota, .slice none 0 0, .int .i64 0, .bool false, .int .i64 0, .int .i64 0, .bool d.dead, .bool (decide (0 <= d.left)), .slice none 0 0] 113)).cell? ⟨bk, 2, none⟩ = some (.pointer none) := cell_block hbkb
 have z2b : (wa.alloc (.cells #[.int .i64 d.quota, .slice none 0 0, .int .i64 0, .bool false, .int .i64 0, .int .i64 0, .bool d.dead, .bool (decide (0 <= d.left)), .slice none 0 0] 113)).frozen? ⟨bk, 2, none⟩ = false := frozen_block hbkb
 refine hK.out _ _ hc8 ?_
 clear hK hc7
 refine wpAnyE_one (i := 25) (by kernel_rfl) rfl (by rfl) (fun K hK => ?_)
 go_simp
 refine hK.out _ _ hc8 ?_
 clear hK
 refine wpAnyE_one (i := 26) (by kernel_rfl) rfl (by rfl) (fun K hK => ?_)
 go_simp
 refine hK.out _ _ hc8 ?_
 clear hK
 refine wpAnyE_last (i := 27) (by kernel_rfl) rfl (by rfl) (by kernel_rfl) (by kernel_rfl) (fun K hK => ?_)
 go_simp
 refine hK.out _ _ ?_
 clear hK
 obtain ⟨D2, hD2, hv2⟩ := Dv.first (d := d) (vy := ptrB bY) HB1.out.drew h4 hn4 hcb hltk HBKa.out kpa hRa
 replace hv2 : Dv w C (((wa.alloc (.cells #[.int .i64 d.quota, .slice none 0 0, .int .i64 0, .bool false, .int .i64 0, .int .i64 0, .bool d.dead, .bool (decide (0 <= d.left)), .slice none 0 0] 113)).setCell ⟨bk, 2, none⟩ (.pointer (some ⟨wa.heap.size, 0, none⟩))).drew) D2 bk bx bd (ptrB bY) (openX d).2.1 (zs ++ [(bz, (⟨d.turn + 1, (openX d).2.2, false, false⟩ : St))]) (newK wa.heap.size d) := hv2.drew
 obtain ⟨k, hkdef⟩ : ∃ k, k = newK wa.heap.size d := ⟨_, rfl⟩
 rw [<- hkdef] at hv2
 have hI : KInv k d zs := by rw [hkdef, hzs]; exact KInv.new _ hok hf ht0
 have hbo2 : (((wa.alloc (.cells #[.int .i64 d.quota, .slice none 0 0, .int .i64 0, .bool false, .int .i64 0, .int .i64 0, .bool d.dead, .bool (decide (0 <= d.left)), .slice none 0 0] 113)).setCell ⟨bk, 2, none⟩ (.pointer (some ⟨wa.heap.size, 0, none⟩))).drew).heap[w.heap.size]? = some (.cells #[.int .i64 11, Dd, .int .i64 A, Bv, S, T, ops, L, old] 67) := block_set_ne (block_alloc hboa) (by omega) _
 have hsz2 : w1.heap.size <= (((wa.alloc (.cells #[.int .i64 d.quota, .slice none 0 0, .int .i64 0, .bool false, .int .i64 0, .int .i64 0, .bool d.dead, .bool (decide (0 <= d.left)), .slice none 0 0] 113)).setCell ⟨bk, 2, none⟩ (.pointer (some ⟨wa.heap.size, 0, none⟩))).drew).heap.size := by
   have e : (((wa.alloc (.cells #[.int .i64 d.quota, .slice none 0 0, .int .i64 0, .bool false, .int .i64 0, .int .i64 0, .bool d.dead, .bool (decide (0 <= d.left)), .slice none 0 0] 113)).setCell ⟨bk, 2, none⟩ (.pointer (some ⟨wa.heap.size, 0, none⟩))).drew).heap.size = wa.heap.size + 1 := by simp [World.setCell, World.drew]
   omega
 clear hc8 m2b z2b hbkb hyb hAl m0 m1 m2 o2a hboa HBKa hya
 generalize ((wa.alloc (.cells #[.int .i64 d.quota, .slice none 0 0, .int .i64 0, .bool false, .int .i64 0, .int .i64 0, .bool d.dead, .bool (decide (0 <= d.left)), .slice none 0 0] 113)).setCell ⟨bk, 2, none⟩ (.pointer (some ⟨wa.heap.size, 0, none⟩))).drew = w2 at hv2 hbo2 hsz2 ⊢
 have hn2 : ∀ i, D2 i -> i ≠ w.heap.size := fun i s e => by
   subst e
   rcases hD2 _ s with s | s | s
   . omega
   . omega
   . rcases s.1 with s | s
     . have := hC _ (h4 _ s); omega
     . replace s : w1.heap.size <= w.heap.size := s
       omega
 obtain ⟨m0, -, m2, -, -⟩ := hv2.dcells
 have o2 : w2.cell? ⟨w.heap.size, 2, none⟩ = some (.int .i64 A) := cell_block hbo2
 have hn : k.ones.length <= 4194000 := by rw [hkdef]; simp [newK]
 have hb : k.bytes <= 2097152 := by rw [hkdef]; simp [newK]
 have ho : k.ops <= 1048576 := by rw [hkdef]; simp [newK]
 have htn := openX_turn hok
 have HK0 : Hid (k.bytes = 0 /\ k.ops = 0 /\ k.ones = []) := by rw [hkdef]; exact ⟨rfl, rfl, rfl⟩
 have hcr : k.crashed = false := by rw [hkdef]; rfl
 clear hkdef hD2 hRa
 obtain ⟨hen, hald, ⟨n0, hn0a, hn0b, hn0c, hn0d⟩, hmk, hwm, hFa⟩ := hI.openOk h0
 have hn0e := hn0d hcr
 have hokF := (hFa n0 hn0a hn0b hn0c ⟨0, 0, 0, (openX d).2.2, true, false⟩ rfl rfl rfl).ok
 have HEN : Hid (endsB (closeK k) (openX d).2.1 0 0 true = true) := hen
 have HOKF : Hid ((openX d).2.1.Ok /\ (openX d).2.1.files.length <= 2) := hokF
 have HFA : Hid (∀ n, k.safe <= n -> n <= k.h.length -> (openX d).2.2 = doAll [] (k.h.take n).flatten -> ∀ o : One, o.op = true -> o.stuck = false -> o.l = (openX d).2.2 -> KInv (openK (diedK (closeK k) (openX d).2.1) o n) (openX d).2.1 (zs ++ [(o.z, ⟨d.turn + 1, (openX d).2.2, false, false⟩)])) := hFa
 have HN : Hid ((openX d).2.2 = doAll [] (k.h.take n0).flatten) := hn0c
 have HGD : Hid ((∀ b ∈ k.h, batchOk b = true) /\ wtL k.h.flatten <= 33520000) := by
   have hw := hI.wt
   unfold cost at hw
   exact ⟨hI.good, by omega⟩
 have HMK : Hid (MOk (openX d).2.2 /\ List.length (openX d).2.2 <= 4194304) := by
   have h8 := wtM_len (openX d).2.2
   unfold cost at hwm
   exact ⟨hmk, by omega⟩
 clear hen hokF hFa hn0c hmk hwm
 have hCl := hv2.close (by omega)
 have hclen : (closeK k).ones.length <= 4194000 := by rw [closeK_len]; exact hn
 obtain ⟨i0, ih, i1, i2, i3⟩ := info_parts Tryz.info150
 have hk2 := diedK_eq (closeK k) (openX d).2.1
 generalize (diedK (closeK k) (openX d).2.1).dead = a2 at hk2
 generalize (diedK (closeK k) (openX d).2.1).armed = b2 at hk2
 have HK2 : Hid (diedK (closeK k) (openX d).2.1 = { closeK k with dead := a2, armed := b2 }) := hk2
 clear hk2
 go_wp2_with (first
   | (go_at_call 97; refine hCl.mono ?_; rintro e w3 ⟨rfl, D3, hg3, hv3, kp3⟩; clear hCl; have hbo3 := kp3.at hbo2 (fun s => hn2 _ s rfl); have hEd := ends_any hv3 HOKF.out.1 (by have := HOKF.out.2; omega) (by show k.bytes <= _; omega) (by show k.ops <= _; omega) 0 0 true; rw [HEN.out, HK2.out] at hEd; have hsz3 := kp3.size; clear o2 m0 m2)
   | (go_at_call 98; refine hEd.mono ?_; rintro e w4 ⟨rfl, D4, hg4, hv4, kp4⟩; clear hEd; replace hv4 : Dv w C w4 D4 bk bx bd (ptrB bY) (openX d).2.1 (zs ++ [(bz, ⟨d.turn + 1, (openX d).2.2, false, false⟩)]) { closeK k with dead := a2, armed := b2 } := hv4; have hn3 : ¬ D3 w.heap.size := (fun s => by rcases hg3 _ s with s | s; (exact hn2 _ s rfl); omega); have hbo4 := kp4.at hbo3 hn3; have o2' : w4.cell? ⟨w.heap.size, 2, none⟩ = some (.int .i64 A) := cell_block hbo4; have hsz4 := kp4.size; have hB5 : Below w4.heap.size w4 (w4.alloc (.cells #[.pointer (some ⟨bz, 0, none⟩), .int .i64 A, .slice none 0 0, .slice none 0 0, .slice none 0 0, .bool true, .bool false, .bool false, .bool true, .bool false, .bool false, .bool false, .bool false, .slice none 0 0, .slice none 0 0] 153)) := (Below.refl _ w4).alloc (Nat.le_refl _) _; have hB6 : Below (w4.alloc (.cells #[.pointer (some ⟨bz, 0, none⟩), .int .i64 A, .slice none 0 0, .slice none 0 0, .slice none 0 0, .bool true, .bool false, .bool false, .bool true, .bool false, .bool false, .bool false, .bool false, .slice none 0 0, .slice none 0 0] 153)).heap.size (w4.alloc (.cells #[.pointer (some ⟨bz, 0, none⟩), .int .i64 A, .slice none 0 0, .slice none 0 0, .slice none 0 0, .bool true, .bool false, .bool false, .bool true, .bool false, .bool false, .bool false, .bool false, .slice none 0 0, .slice none 0 0] 153)) ((w4.alloc (.cells #[.pointer (some ⟨bz, 0, none⟩), .int .i64 A, .slice none 0 0, .slice none 0 0, .slice none 0 0, .bool true, .bool false, .bool false, .bool true, .bool false, .bool false, .bool false, .bool false, .slice none 0 0, .slice none 0 0] 153)).alloc (.cells #[.pointer (some ⟨w4.heap.size, 0, none⟩)] 150)) := (Below.refl _ _).alloc (Nat.le_refl _) _; have hv6 := (hv4.below hB5).below hB6; obtain ⟨qs, cs, s8, sz8, hrow, hrne, -⟩ := (hv4.below hB5).srow; replace s8 : (w4.alloc (.cells #[.pointer (some ⟨bz, 0, none⟩), .int .i64 A, .slice none 0 0, .slice none 0 0, .slice none 0 0, .bool true, .bool false, .bool false, .bool true, .bool false, .bool false, .bool false, .bool false, .slice none 0 0, .slice none 0 0] 153)).cell? ⟨k.kb, 8, none⟩ = some (.slice qs (closeK k).ones.length cs) := s8; have hrow6 := hrow.alloc (.cells #[.pointer (some ⟨w4.heap.size, 0, none⟩)] 150); have s86 : ((w4.alloc (.cells #[.pointer (some ⟨bz, 0, none⟩), .int .i64 A, .slice none 0 0, .slice none 0 0, .slice none 0 0, .bool true, .bool false, .bool false, .bool true, .bool false, .bool false, .bool false, .bool false, .slice none 0 0, .slice none 0 0] 153)).alloc (.cells #[.pointer (some ⟨w4.heap.size, 0, none⟩)] 150)).cell? ⟨k.kb, 8, none⟩ = some (.slice qs (closeK k).ones.length cs) := cell_below hB6 s8; have hone6 : ((w4.alloc (.cells #[.pointer (some ⟨bz, 0, none⟩), .int .i64 A, .slice none 0 0, .slice none 0 0, .slice none 0 0, .bool true, .bool false, .bool false, .bool true, .bool false, .bool false, .bool false, .bool false, .slice none 0 0, .slice none 0 0] 153)).alloc (.cells #[.pointer (some ⟨w4.heap.size, 0, none⟩)] 150)).heap[w4.heap.size]? = some (.cells #[.pointer (some ⟨bz, 0, none⟩), .int .i64 A, .slice none 0 0, .slice none 0 0, .slice none 0 0, .bool true, .bool false, .bool false, .bool true, .bool false, .bool false, .bool false, .bool false, .slice none 0 0, .slice none 0 0] 153) := block_alloc (block_new _ _))
   | (at_builtin; refine wpList_app2 _ rfl (.tmp 113) (.tmp 115) 111 rfl 150 i0 _ 1 8 Tryz.underlying111 ih i1 i2 i3 rfl (by decide) (.slice qs (closeK k).ones.length cs) (closeK k).ones.length _ rfl (by exact hrow6) ⟨w4.heap.size + 1, 0, none⟩ 1 1 [.pointer (some ⟨w4.heap.size, 0, none⟩)] rfl rfl (by exact one_at' _ _ _ _ (by simp)) (by intro u hu; simp at hu; subst hu; rfl) (by unfold maxLen; omega) (by omega) ?_; intro v7 w7 A7; obtain ⟨a7, cap7, rfl, -, -, -, -⟩ := row1 A7.new; obtain ⟨t8, tz8⟩ := hv6.appCell s86 A7; replace t8 : w7.cell? ⟨k.kb, 8, none⟩ = some (.slice qs (closeK k).ones.length cs) := t8; replace tz8 : w7.frozen? ⟨k.kb, 8, none⟩ = false := tz8; have hv8 := hv6.store ⟨w4.heap.size, bz, A, [], true, false⟩ hone6 rfl ⟨fun s => by have := hv4.lt _ s; simp only at this; omega, by have := hv4.kp.size; simp only; omega⟩ s86 A7; obtain ⟨D8, hv8⟩ : ∃ D8, Dv w C (w7.setCell ⟨k.kb, 8, none⟩ (.slice a7 ((closeK k).ones.length + 1) cap7)) D8 bk bx bd (ptrB bY) (openX d).2.1 (zs ++ [(bz, (⟨d.turn + 1, (openX d).2.2, false, false⟩ : St))]) { closeK k with dead := a2, armed := b2, ones := (closeK k).ones ++ [(⟨w4.heap.size, bz, A, [], true, false⟩ : One)] } := ⟨_, hv8⟩; obtain ⟨qh, ch, t1, hpp8, t3⟩ := hv8.setCells rfl; replace t1 : w7.cell? ⟨k.kb, 1, none⟩ = some (.slice qh k.h.length ch) := t1; replace t3 : w7.cell? ⟨k.kb, 3, none⟩ = some (.bool k.crashed) := t3; rw [hcr] at t3; have hA8 := yAll_any qh ch k.h (w7.setCell ⟨k.kb, 8, none⟩ (.slice a7 ((closeK k).ones.length + 1) cap7)) hpp8 (fun b hb => by have := (batchOk_iff.1 (HGD.out.1 b hb)).1.1; omega) (by have := wtL_len k.h.flatten; have := HGD.out.2; omega) (by have := hs_len HGD.out.1; have := wtL_len k.h.flatten; have := HGD.out.2; omega); clear s8 s86 hrow hrow6 hone6 o2' hv6)
   | (go_at_call 99; refine hA8.mono ?_; rintro e w9 ⟨v9, rfl, hb9, ho9⟩; clear hA8; obtain ⟨q9, c9, rfl, -, -⟩ := OwnP.pairp ho9; have hv9 := hv8.below hb9; obtain ⟨lz, ⟨vl2, l2⟩, hDo, hne⟩ := hv9.lastCells rfl; replace l2 : w9.cell? ⟨w4.heap.size, 2, none⟩ = some vl2 := l2; have lz2 : w9.frozen? ⟨w4.heap.size, 2, none⟩ = false := lz 2; replace hne : ¬ w4.heap.size = k.kb := hne; have hne' : ¬ k.kb = w4.heap.size := fun e => hne e.symm; obtain ⟨qh9, ch9, y1, -, -, -, y2, yz, y3, -, -⟩ := hv9.hcells; replace y1 : w9.cell? ⟨k.kb, 1, none⟩ = some (.slice qh9 k.h.length ch9) := y1; replace y2 : w9.cell? ⟨k.kb, 2, none⟩ = some (.int .i64 k.safe) := y2; have yz2 : w9.frozen? ⟨k.kb, 2, none⟩ = false := yz 2; have yz3 : w9.frozen? ⟨k.kb, 3, none⟩ = false := yz 3; replace y3 : w9.cell? ⟨k.kb, 3, none⟩ = some (.bool k.crashed) := y3; clear lz yz t1 t3 t8 tz8 hpp8))
 go_ret
 refine ⟨bd, k, ?_, HK0.out⟩
 have hmE : (openX d).2.2 = doAll [] k.h.flatten := by
   rw [HN.out, hn0e, List.take_of_length_le (Nat.le_refl _)]
 have hvm := hv9.lastMap (os := (closeK k).ones) (o := ⟨w4.heap.size, bz, A, [], true, false⟩) rfl (ownsRow_base ho9 (Nat.zero_le _)) (fun g hg => ?_)
 . obtain ⟨D9, hvs⟩ : ∃ D9, Dv w C ((w9.setCell ⟨w4.heap.size, 2, none⟩ (.slice q9 (List.length (doAll [] k.h.flatten)) c9)).setCell ⟨k.kb, 2, none⟩ (.int .i64 k.h.length)) D9 bk bx bd (ptrB bY) (openX d).2.1 (zs ++ [(bz, (⟨d.turn + 1, (openX d).2.2, false, false⟩ : St))]) { closeK k with dead := a2, armed := b2, ones := (closeK k).ones ++ [(⟨w4.heap.size, bz, A, doAll [] k.h.flatten, true, false⟩ : One)], safe := k.h.length } := ⟨_, hvm.safeAt k.h.length⟩
   have hF := HFA.out k.h.length (by omega) (Nat.le_refl _) (by rw [hmE, List.take_of_length_le (Nat.le_refl _)]) ⟨w4.heap.size, bz, A, doAll [] k.h.flatten, true, false⟩ rfl rfl hmE.symm
   rw [HK2.out] at hF
   refine ⟨rfl, D9, _, _, _, hvs, ?_, by omega, Nat.le_refl _, Nat.le_refl _, by simp [closeK]⟩
   have hE : openK { closeK k with dead := a2, armed := b2 } ⟨w4.heap.size, bz, A, doAll [] k.h.flatten, true, false⟩ k.h.length = { closeK k with dead := a2, armed := b2, ones := (closeK k).ones ++ [⟨w4.heap.size, bz, A, doAll [] k.h.flatten, true, false⟩], safe := k.h.length } := by
     simp [openK, closeK, hcr]
   rw [hE] at hF
   exact hF
 . have h1 := (World.ownsRow.lt ho9 g hg).1
   refine ⟨fun s => ?_, ?_⟩
   . have := hv8.lt g s; omega
   . have := hv8.kp.size; omega
end
end Go.Proofs.YtfghgmojnffgnaaGreat
