import Derived.Test.YtfghgmojnffgnaaGreatPkBN
import Derived.Test.YtfghgmojnffgnaaGreatPkBO
import Derived.Test.YtfghgmojnffgnaaGreatPkBP
import Derived.Test.YtfghgmojnffgnaaGreatPkBB
import Derived.Test.YtfghgmojnffgnaaGreatPkBD
set_option maxHeartbeats 4000000
set_option maxRecDepth 20000
namespace Go.Proofs.YtfghgmojnffgnaaGreat
open Go.RowKit Go.Maps Go.Sort
section
variable {w : World} {C : Nat -> Prop} {bk bx bd : Nat} {vy : Value} {d : Dk} {zs : List (Nat × St)} {k : Kno}
theorem fuse_turn' (d : Dk) (n : Int) : (d.fuse n).turn = d.turn := by unfold Dk.fuse; split <;> rfl
theorem Dv.kcells6 {w0 : World} {D : Nat -> Prop} (h : Dv w0 C w D bk bx bd vy d zs k) : w.cell? ⟨k.kb, 6, none⟩ = some (.bool k.dead) /\ w.cell? ⟨k.kb, 7, none⟩ = some (.bool k.armed) /\ w.frozen? ⟨k.kb, 7, none⟩ = false := by
 obtain ⟨C3, C4, part, vh, vs, h1, h2, h3, h4, h5, h6, h7⟩ := h.dka.ex
 obtain ⟨⟨-, -, -, -, -, -, c6, c7, -⟩, kz⟩ := kcells h6.blk
 exact ⟨c6, c7, kz 7⟩
theorem power_fuse1 (h : Dka w C bk bx bd vy d zs k) (hC : ∀ i, C i -> i < w.heap.size) (hI : KInv k d zs) (Dd B S T ops L old : Value) (A : Int) (hA : A <= 9223372036854775807) (hkd : k.dead = true) :
   Calls Tryz.prog 62 #[.pointer (some ⟨bk, 0, none⟩), .agg #[.int .i64 9, Dd, .int .i64 A, B, S, T, ops, L, old]] w (Out w C bk bx bd vy d k 0 0) := by
 have hF := hI.fuse A hA
 obtain ⟨D0, hv0, hD0⟩ := Dv.start h
 have hDC : ∀ i, D0 i -> i < w.heap.size := fun i s => hC i (hD0 i s)
 obtain ⟨w1, hw1⟩ : ∃ w1, w1 = w.alloc (.cells #[.int .i64 9, Dd, .int .i64 A, B, S, T, ops, L, old] 67) := ⟨_, rfl⟩
 have hB : Below w.heap.size w w1 := by rw [hw1]; exact (Below.refl _ w).alloc (Nat.le_refl _) _
 have hsz1 : w1.heap.size = w.heap.size + 1 := by rw [hw1]; simp
 have hv1 := (hv0.below hB).drew
 have hFu := hv1.fuse A
 obtain ⟨m0, m1, m2, -, -⟩ := hv1.dcells
 replace m0 : w1.cell? ⟨bk, 0, none⟩ = some (.pointer (some ⟨bx, 0, none⟩)) := m0
 replace m2 : w1.cell? ⟨bk, 2, none⟩ = some (.pointer (some ⟨k.kb, 0, none⟩)) := m2
 have HBO : Hid (w1.drew.heap[w.heap.size]? = some (.cells #[.int .i64 9, Dd, .int .i64 A, B, S, T, ops, L, old] 67)) := by rw [hw1]; exact block_new w _
 have o2 : w1.cell? ⟨w.heap.size, 2, none⟩ = some (.int .i64 A) := cell_block (show w1.heap[w.heap.size]? = _ from HBO.out)
 have HW : Hid (w1 = w.alloc (.cells #[.int .i64 9, Dd, .int .i64 A, B, S, T, ops, L, old] 67)) := hw1
 have HF : Hid (KInv (fuseK k A) (d.fuse A) zs) := hF
 have htf := fuse_turn' d A
 clear h hv0 hB hw1 hI hv1 m1 hF
 go_enter Tryz.func62, Tryz.ntmps62
 go_wp2
 rw [HW.out.symm]
 clear HW
 go_still_tail 6, mixedT
 go_wp2_with (go_at_call 15; refine hFu.mono ?_; rintro e w2 ⟨rfl, D2, hg2, hv2, kp2⟩; clear hFu m0 m2 o2; have hbo2 := kp2.at HBO.out (fun s => by have := hDC _ s; omega); obtain ⟨-, -, m2, hDb, -⟩ := hv2.dcells; have o2 : w2.cell? ⟨w.heap.size, 2, none⟩ = some (.int .i64 A) := cell_block hbo2; obtain ⟨k6, k7, z7⟩ := hv2.kcells6; rw [hkd] at k6)
 go_ret
 have e : fuseK k A = k := by simp [fuseK, hkd]
 have hF := HF.out
 rw [e] at hF
 exact ⟨rfl, D2, d.fuse A, zs, k, hv2, hF, by omega, Nat.le_refl _, Nat.le_refl _, Nat.le_succ _⟩
theorem power_fuse0 (h : Dka w C bk bx bd vy d zs k) (hC : ∀ i, C i -> i < w.heap.size) (hI : KInv k d zs) (Dd B S T ops L old : Value) (A : Int) (hA : A <= 9223372036854775807) (hkd : k.dead = false) :
   Calls Tryz.prog 62 #[.pointer (some ⟨bk, 0, none⟩), .agg #[.int .i64 9, Dd, .int .i64 A, B, S, T, ops, L, old]] w (Out w C bk bx bd vy d k 0 0) := by
 have hF := hI.fuse A hA
 obtain ⟨D0, hv0, hD0⟩ := Dv.start h
 have hDC : ∀ i, D0 i -> i < w.heap.size := fun i s => hC i (hD0 i s)
 obtain ⟨w1, hw1⟩ : ∃ w1, w1 = w.alloc (.cells #[.int .i64 9, Dd, .int .i64 A, B, S, T, ops, L, old] 67) := ⟨_, rfl⟩
 have hB : Below w.heap.size w w1 := by rw [hw1]; exact (Below.refl _ w).alloc (Nat.le_refl _) _
 have hsz1 : w1.heap.size = w.heap.size + 1 := by rw [hw1]; simp
 have hv1 := (hv0.below hB).drew
 have hFu := hv1.fuse A
 obtain ⟨m0, m1, m2, -, -⟩ := hv1.dcells
 replace m0 : w1.cell? ⟨bk, 0, none⟩ = some (.pointer (some ⟨bx, 0, none⟩)) := m0
 replace m2 : w1.cell? ⟨bk, 2, none⟩ = some (.pointer (some ⟨k.kb, 0, none⟩)) := m2
 have HBO : Hid (w1.drew.heap[w.heap.size]? = some (.cells #[.int .i64 9, Dd, .int .i64 A, B, S, T, ops, L, old] 67)) := by rw [hw1]; exact block_new w _
 have o2 : w1.cell? ⟨w.heap.size, 2, none⟩ = some (.int .i64 A) := cell_block (show w1.heap[w.heap.size]? = _ from HBO.out)
 have HW : Hid (w1 = w.alloc (.cells #[.int .i64 9, Dd, .int .i64 A, B, S, T, ops, L, old] 67)) := hw1
 have HF : Hid (KInv (fuseK k A) (d.fuse A) zs) := hF
 have htf := fuse_turn' d A
 clear h hv0 hB hw1 hI hv1 m1 hF
 go_enter Tryz.func62, Tryz.ntmps62
 go_wp2
 rw [HW.out.symm]
 clear HW
 go_still_tail 6, mixedT
 go_wp2_with (go_at_call 15; refine hFu.mono ?_; rintro e w2 ⟨rfl, D2, hg2, hv2, kp2⟩; clear hFu m0 m2 o2; have hbo2 := kp2.at HBO.out (fun s => by have := hDC _ s; omega); obtain ⟨-, -, m2, hDb, -⟩ := hv2.dcells; have o2 : w2.cell? ⟨w.heap.size, 2, none⟩ = some (.int .i64 A) := cell_block hbo2; obtain ⟨k6, k7, z7⟩ := hv2.kcells6; rw [hkd] at k6)
 have hc : w2.drew.cell? ⟨bk, 2, none⟩ = some (.pointer (some ⟨k.kb, 0, none⟩)) /\ w2.drew.cell? ⟨w.heap.size, 2, none⟩ = some (.int .i64 A) := ⟨m2, o2⟩
 refine wp_region_E (S := fun w' => w'.cell? ⟨bk, 2, none⟩ = some (.pointer (some ⟨k.kb, 0, none⟩)) /\ w'.cell? ⟨w.heap.size, 2, none⟩ = some (.int .i64 A)) mixedT ?_
 refine tp 0 9 bk 0 rfl rfl (fun w' hS => ?_) hc ?_
 . obtain ⟨hS1, hS2⟩ := hS
   go_simp
 refine tp 1 9 bk 0 rfl rfl (fun w' hS => ?_) hc ?_
 . obtain ⟨hS1, hS2⟩ := hS
   go_simp
 refine tp 2 9 bk 2 rfl rfl (fun w' hS => ?_) hc ?_
 . obtain ⟨hS1, hS2⟩ := hS
   go_simp
 refine tp 3 9 k.kb 0 rfl rfl (fun w' hS => ?_) hc ?_
 . obtain ⟨hS1, hS2⟩ := hS
   go_simp
 refine tp 4 9 w.heap.size 2 rfl rfl (fun w' hS => ?_) hc ?_
 . obtain ⟨hS1, hS2⟩ := hS
   go_simp
 refine tk 5 9 (.int .i64 A) rfl rfl (fun w' hS => ?_) hc ?_
 . obtain ⟨hS1, hS2⟩ := hS
   go_simp
 refine tk 6 9 (.bool (decide (0 <= A))) rfl rfl (fun w' hS => ?_) hc ?_
 . obtain ⟨hS1, hS2⟩ := hS
   go_simp
 refine wpAnyE_one (i := 7) (by kernel_rfl) rfl (by rfl) (fun K hK => ?_)
 go_simp
 refine hK.out _ _ hc ?_
 clear hK
 refine wpAnyE_one (i := 8) (by kernel_rfl) rfl (by rfl) (fun K hK => ?_)
 go_simp
 refine hK.out _ _ hc ?_
 clear hK
 refine wpAnyE_last (i := 9) (by kernel_rfl) rfl (by rfl) (by kernel_rfl) (by kernel_rfl) (fun K hK => ?_)
 go_simp
 refine hK.out _ _ ?_
 clear hK
 go_wp2
 go_ret
 have e : fuseK k A = { k with armed := decide (0 <= A) } := by simp [fuseK, hkd]
 have hF := HF.out
 rw [e] at hF
 exact ⟨rfl, D2, d.fuse A, zs, { k with armed := decide (0 <= A) }, (hv2.armedAt (decide (0 <= A))).drew, hF, by omega, Nat.le_refl _, Nat.le_refl _, Nat.le_succ _⟩
theorem power_crashK (h : Dka w C bk bx bd vy d zs k) (hC : ∀ i, C i -> i < w.heap.size) (hI : KInv k d zs) (hn : k.ones.length <= 4194000) (ht : d.turn <= 4611686018427387904) (Dd A B S T ops old : Value) (q : Option Addr) (qc : Nat) (ks : List Int) (hkl : ks.length <= 4194304) (hks : Intp w q ks) (hq0 : q = none -> ks = [] /\ qc = 0) (hq1 : ∀ a, q = some a -> 0 < ks.length -> ¬ C a.block /\ a.block < w.heap.size) :
   Calls Tryz.prog 62 #[.pointer (some ⟨bk, 0, none⟩), .agg #[.int .i64 10, Dd, A, B, S, T, ops, .slice q ks.length qc, old]] w (Out w C bk bx bd vy d k 0 0) := by
 have hok := hI.ok
 have hF := hI.crash ks ht
 have htc : (d.crash ks).turn = d.turn + 1 := by
   have := hI.turn0
   show Go.RowKit.wrap64 (d.turn + 1) = d.turn + 1
   unfold wrap64; omega
 obtain ⟨D0, hv0, hD0⟩ := Dv.start h
 have hDC : ∀ i, D0 i -> i < w.heap.size := fun i s => hC i (hD0 i s)
 obtain ⟨w1, hw1⟩ : ∃ w1, w1 = w.alloc (.cells #[.int .i64 10, Dd, A, B, S, T, ops, .slice q ks.length qc, old] 67) := ⟨_, rfl⟩
 have hB : Below w.heap.size w w1 := by rw [hw1]; exact (Below.refl _ w).alloc (Nat.le_refl _) _
 have hsz1 : w1.heap.size = w.heap.size + 1 := by rw [hw1]; simp
 have hv1 := hv0.below hB
 have hks1 : Intp w1 q ks := hks.kept (Kp.of_below (S := fun _ => False) hB) (fun _ _ _ f => f)
 have hgv := givenInts_any q qc ks w1 hkl hks1 hq0
 have HBO : Hid (w1.heap[w.heap.size]? = some (.cells #[.int .i64 10, Dd, A, B, S, T, ops, .slice q ks.length qc, old] 67)) := by rw [hw1]; exact block_new w _
 have HKS : Hid (Intp w1 q ks) := hks1
 have HF : Hid (KInv (crashK' k) (d.crash ks) zs) := hF
 have HQ : Hid (∀ a, q = some a -> 0 < ks.length -> ¬ C a.block /\ a.block < w.heap.size) := hq1
 have HW : Hid (w1 = w.alloc (.cells #[.int .i64 10, Dd, A, B, S, T, ops, .slice q ks.length qc, old] 67)) := hw1
 rw [hw1] at hgv
 clear h hv0 hB hw1 hI hF hks hks1 hq0 hq1
 go_enter Tryz.func62, Tryz.ntmps62
 go_wp2_with (first
   | (go_at_call 93; refine hgv.mono ?_; rintro e w2 ⟨g, cap, rfl, hb2, hg2, hr2⟩; clear hgv; rw [<- HW.out] at hb2 hg2; have hv2 := hv1.below hb2; have HR2 : Hid (w2.ownsRow 0 3 1 (.slice (some ⟨g, 0, none⟩) (ks.length + 3) cap) (ks.length + 3) ((ks ++ marks3).map encI)) := hr2; have hgl := (hr2.lt g rfl).2; have hCr := hv2.crash (some ⟨g, 0, none⟩) cap ks hok.1 (by omega) (by omega) (intp_row hr2) (fun a ha _ s => by cases ha; have := hv1.lt _ s; simp only at this; omega); obtain ⟨m0, -, m2, -, -⟩ := hv2.dcells; have hs2 := hb2.size; have HB2 : Hid (w2.heap[w.heap.size]? = some (.cells #[.int .i64 10, Dd, A, B, S, T, ops, .slice q ks.length qc, old] 67)) := block_at2 HBO.out hb2; have HK2 : Hid (Intp w2 q ks) := HKS.out.kept (Kp.of_below (S := fun _ => False) hb2) (fun _ _ _ f => f); clear hr2)
   | (go_at_call 17; refine hCr.mono ?_; rintro e w3 ⟨rfl, D3, hg3, hv3, kp3⟩; clear hCr m0 m2; have hbo3 := kp3.at HB2.out (fun s => by have := hDC _ s; omega); have o7 : w3.cell? ⟨w.heap.size, 7, none⟩ = some (.slice q ks.length qc) := cell_block hbo3; have HK3 : Hid (Intp w3 q ks) := HK2.out.kept kp3 (fun a ha h0 s => (HQ.out a ha h0).1 (hD0 _ s)); have hSt := stillInts_any g cap q qc ks w3 hkl HK3.out (fun a ha h0 e => by have := (HQ.out a ha h0).2; omega) (kp3.row HR2.out (fun x hx s => by cases hx; have := hv1.lt _ s; simp only at this; omega)); have hs3 := kp3.size)
   | (go_at_call 94; refine hSt.mono ?_; rintro e w4 ⟨rfl, kp4⟩; clear hSt o7; have hv4 := hv3.kept kp4 (fun i s (e : i = g) => by subst e; rcases hg3 _ s with s | s; (have := hv1.lt _ s; omega); omega) (fun i (e : i = g) => by omega); obtain ⟨-, -, m2, -, -⟩ := hv4.dcells; have hKc := hv4.kcrash (by omega))
   | (go_at_call 96; refine hKc.mono ?_; rintro e w5 ⟨rfl, D5, hg5, hv5, kp5⟩; clear hKc m2))
 go_ret
 exact ⟨rfl, D5, d.crash ks, zs, crashK' k, hv5, HF.out, by omega, Nat.le_refl _, Nat.le_refl _, by simp [crashK', closeK]⟩
theorem power_fuseK (h : Dka w C bk bx bd vy d zs k) (hC : ∀ i, C i -> i < w.heap.size) (hI : KInv k d zs) (Dd B S T ops L old : Value) (A : Int) (hA : A <= 9223372036854775807) :
   Calls Tryz.prog 62 #[.pointer (some ⟨bk, 0, none⟩), .agg #[.int .i64 9, Dd, .int .i64 A, B, S, T, ops, L, old]] w (Out w C bk bx bd vy d k 0 0) := by
 cases hkd : k.dead
 . exact power_fuse0 h hC hI Dd B S T ops L old A hA hkd
 . exact power_fuse1 h hC hI Dd B S T ops L old A hA hkd
theorem lopenK (h : Dka w C bk bx bd vy d zs k) (hC : ∀ i, C i -> i < w.heap.size) (hI : KInv k d zs) (hn : k.ones.length <= 4194000) (ht : d.turn <= 4611686018427387904) (hb : k.bytes <= 2097152) (ho : k.ops <= 1048576) (Dd Bv S T ops L old : Value) (A : Int) :
   Calls Tryz.prog 63 #[.pointer (some ⟨bk, 0, none⟩), .agg #[.int .i64 11, Dd, .int .i64 A, Bv, S, T, ops, L, old]] w (Out w C bk bx bd vy d k 0 0) := by
 by_cases hA : A < 0 \/ 2 < A
 . refine (open_argK h Dd Bv S T ops L old A hA).mono ?_
   rintro e w' ⟨rfl, hb'⟩
   obtain ⟨D0, hv0, -⟩ := Dv.start h
   exact ⟨rfl, D0, d, zs, k, hv0.below hb', hI, by omega, Nat.le_refl _, Nat.le_refl _, Nat.le_succ _⟩
 . by_cases h0 : (openX d).1 = 0
   . cases hcr : k.crashed
     . exact open_okK h hC hI hn ht hb ho Dd Bv S T ops L old A (by omega) (by omega) h0 hcr
     . exact open_crK h hC hI hn ht hb ho Dd Bv S T ops L old A (by omega) (by omega) h0 hcr
   . exact open_noK h hC hI hn ht hb ho Dd Bv S T ops L old A (by omega) (by omega) h0
end
theorem lopenP {w : World} {C C4 C5 : Nat -> Prop} {bk bx bY : Nat} {d : Dk} (hbk : w.heap[bk]? = some (.cells #[ptrB bx, ptrB bY, .pointer none] 100)) (hcb : C bk) (h4 : ∀ i, C4 i -> C i) (h45 : ∀ i, C4 i -> ¬ C5 i) (hn4 : ¬ C4 bk) (hX : XAt w C4 bx d) (hY : RefAt w C5 bY d) (hok : d.Ok) (ht0 : 0 <= d.turn) (ht : d.turn <= 4611686018427387904) (hC : ∀ i, C i -> i < w.heap.size) (Dd Bv S T ops L old : Value) (A : Int) :
   Calls Tryz.prog 63 #[.pointer (some ⟨bk, 0, none⟩), .agg #[.int .i64 11, Dd, .int .i64 A, Bv, S, T, ops, L, old]] w fun e w' => (e = .returned (.bool true) /\ Below w.heap.size w w') \/ OutP w C bk bx (ptrB bY) d e w' := by
 by_cases hf : d.files = []
 . by_cases hA : A < 0 \/ 2 < A
   . exact (open_argP hbk hX hY hf Dd Bv S T ops L old A hA).mono (fun e w' h => .inl h)
   . by_cases h0 : (openX d).1 = 0
     . exact (open_okP hbk hcb h4 h45 hn4 hX hY hok ht0 ht hC hf Dd Bv S T ops L old A (by omega) (by omega) h0).mono (fun e w' h => .inr h)
     . exact (open_noP hbk hcb h4 h45 hn4 hX hY hok ht0 ht hC hf Dd Bv S T ops L old A (by omega) (by omega) h0).mono (fun e w' h => .inr h)
 . exact (open_fullP hbk hX hY (List.length_pos_iff.2 hf) Dd Bv S T ops L old A).mono (fun e w' h => .inl h)
section
variable {w0 w : World} {C D : Nat -> Prop} {bk bx bd : Nat} {vy : Value} {d : Dk} {zs : List (Nat × St)} {k : Kno}
theorem klast_any (h : Dv w0 C w D bk bx bd vy d zs k) (j : Nat) (hj : j + 1 = k.ones.length) (hl : k.ones.length <= 4194304) :
   Calls Tryz.prog 101 #[.pointer (some ⟨k.kb, 0, none⟩)] w fun e w' => e = .returned (.pointer (some ⟨(k.ones[j]'(by omega)).b, 0, none⟩)) /\ ∃ n, w' = w.drewN n := by
 obtain ⟨q, c, s8, -, -, -, hc⟩ := h.srow
 obtain ⟨g, rfl, hcj⟩ := hc j (by omega)
 have hlen : ((k.ones.length : Int) - 1) = (j : Int) := by omega
 have hlen' : (k.ones.length : Int) = (j : Int) + 1 := by omega
 rw [<- hj] at s8
 clear h hc
 go_enter Tryz.func101, Tryz.ntmps101
 go_wp2
 go_quiet (fail)
 go_wp2
 go_ret
 exact ⟨rfl, _, rfl⟩
end
theorem Out.behind {w w1 w' : World} {C : Nat -> Prop} {bk bx bd : Nat} {vy : Value} {d : Dk} {k : Kno} {dy db : Nat} {e : Ending} (hb : Below w.heap.size w w1) (h : Out w1 C bk bx bd vy d k dy db e w') : Out w C bk bx bd vy d k dy db e w' := by
 obtain ⟨h1, D', d', zs', k', h2, h3⟩ := h
 have hs := hb.size
 exact ⟨h1, D', d', zs', k', ⟨(Kp.of_below hb).trans h2.kp (fun _ _ s => s), h2.dka, fun i s => (h2.sub i s).imp id (fun h => Nat.le_trans hs h), h2.lt⟩, h3⟩
section
variable {w0 w : World} {C D : Nat -> Prop} {bk bx bd : Nat} {vy : Value} {d : Dk} {zs : List (Nat × St)} {k : Kno}
theorem died_calm (h : Dv w0 C w D bk bx bd vy d zs k) (hok : d.Ok) (hl : d.files.length <= 4194303) (hdd : d.dead = false) (hd : k.dead = false) :
   Calls Tryz.prog 132 #[.pointer (some ⟨bk, 0, none⟩)] w fun e w' => e = .returned (.bool false) /\ Below w.heap.size w w' := by
 obtain ⟨C3, C4, part, vh, vs, h1, h2, h3, h4, h5, h6, h7⟩ := h.dka.ex
 have hX := h7.x
 obtain ⟨⟨c0, c1, c2, c3, c4, c5, c6, c7, c8⟩, -⟩ := kcells h6.blk
 obtain ⟨m0, m1, m2, -⟩ := cells3 h4
 unfold ptrB at m0 m2
 rw [hd] at c6
 cases ha : k.armed
 . rw [ha] at c7
   clear h4 h6 h7 hX h
   go_enter Tryz.func132, Tryz.ntmps132
   go_wp2
   go_ret
   exact ⟨rfl, Below.refl _ _⟩
 . rw [ha] at c7
   have hN := xNames_any bx d _ w hX hok hl hdd
   have HC : Hid (∀ w1, Below w.heap.size w w1 -> w1.cell? ⟨bk, 2, none⟩ = some (.pointer (some ⟨k.kb, 0, none⟩)) /\ w1.cell? ⟨k.kb, 6, none⟩ = some (.bool false)) := fun w1 hb => ⟨cell_below hb m2, cell_below hb c6⟩
   clear h4 h6 h7 hX h
   go_enter Tryz.func132, Tryz.ntmps132
   go_wp2_with (go_at_call 57; refine hN.mono ?_; rintro e w1 ⟨v, rfl, hb, ho⟩; clear hN; obtain ⟨n2, n6⟩ := HC.out w1 hb)
   go_ret
   exact ⟨rfl, hb⟩
theorem ends_calm (h : Dv w0 C w D bk bx bd vy d zs k) (hI : KInv k d zs) (hal : d.dead = false) (e : Int) :
   Calls Tryz.prog 98 #[.pointer (some ⟨bk, 0, none⟩), .int .i64 e, .int .i64 e, .bool false] w fun r w' => r = .returned (.bool true) /\ Below w.heap.size w w' := by
 have hok := hI.ok
 have hD := died_calm h hok.1 (by omega) hal (by rw [hI.dead]; exact hal)
 clear h
 by_cases h3 : e = 3
 . subst h3
   go_enter Tryz.func98, Tryz.ntmps98
   go_wp2_with (go_at_call 132; refine hD.mono ?_; rintro e w1 ⟨rfl, hv⟩; clear hD)
   go_ret
   exact ⟨rfl, hv⟩
 . go_enter Tryz.func98, Tryz.ntmps98
   go_wp2_with (go_at_call 132; refine hD.mono ?_; rintro e w1 ⟨rfl, hv⟩; clear hD)
   go_ret
   exact ⟨by first | rfl | simp | exact ret_bool (by simp), hv⟩
theorem gets_calm (h : Dv w0 C w D bk bx bd vy d zs k) (hI : KInv k d zs) (hal : d.dead = false) (q : Option Addr) (qc : Nat) (l : Mp) (hp : Pairp w q l) (hl : l.length <= 4194304) (n : Nm) (hn : n.length <= 1099511627776) :
   Calls Tryz.prog 104 #[.pointer (some ⟨bk, 0, none⟩), str (getY l n).1, .bool (getY l n).2.1, .int .i64 (getY l n).2.2, .slice q l.length qc, str n] w fun e w' => e = .returned (.bool true) /\ Below w.heap.size w w' := by
 have hY := yGet_any q qc l n w hp hl hn
 have hE := fun f => ends_calm h hI hal f
 clear h hp
 rcases getY_cases l n with e | e
 . rw [e] at hY ⊢
   replace hE := hE 1
   simp only at hY ⊢
   go_enter Tryz.func104, Tryz.ntmps104
   go_wp2_with (first
     | (go_at_call 141; refine hY.mono ?_; rintro e w1 ⟨rfl, rfl⟩; clear hY)
     | (go_at_call 98; refine hE.mono ?_; rintro e w1 ⟨rfl, hJ⟩; clear hE))
   go_ret
   exact ⟨rfl, hJ⟩
 . rcases hg : getY l n with ⟨u, t, f⟩
   rw [hg] at e hY
   simp only at e hY ⊢
   subst e
   replace hE := hE 0
   cases t
   . go_enter Tryz.func104, Tryz.ntmps104
     go_wp2_with (first
       | (go_at_call 141; refine hY.mono ?_; rintro e w1 ⟨rfl, rfl⟩; clear hY)
       | (go_at_call 98; refine hE.mono ?_; rintro e w1 ⟨rfl, hJ⟩; clear hE))
     go_ret
     exact ⟨by first | rfl | simp | exact ret_bool (by simp), hJ⟩
   . go_enter Tryz.func104, Tryz.ntmps104
     go_wp2_with (first
       | (go_at_call 141; refine hY.mono ?_; rintro e w1 ⟨rfl, rfl⟩; clear hY)
       | (go_at_call 98; refine hE.mono ?_; rintro e w1 ⟨rfl, hJ⟩; clear hE))
     go_ret
     exact ⟨by first | rfl | simp | exact ret_bool (by simp), hJ⟩
end
end Go.Proofs.YtfghgmojnffgnaaGreat
namespace Go.Proofs.YtfghgmojnffgnaaGreat.M
open Go.RowKit Go.Maps Go.Sort
section
variable {w w' : World} {own : Nat -> Nat} {bW N : Nat} {rs : List DR} {ts : List TX} {nxt : Nat} {vd vt vm : Value} {zz : PX}
def Cw (own : Nat -> Nat) (i : Nat) (w : World) (k : Nat) : Prop := Ci own i k /\ k < w.heap.size
theorem Inv.dka (h : Inv w own bW N rs ts nxt vd vt vm zz) (i : Nat) (hi : i < rs.length) {q : KR} (hq : rs[i].kn = some q) : Dka w (Cw own i w) rs[i].bk rs[i].bx q.bd (ptrB rs[i].bY) q.d q.zs q.k :=
 ((h.disk i hi).2 q hq).dka.mono (fun _ hk s => ⟨s, hk⟩)
theorem Inv.outK (h : Inv w own bW N rs ts nxt vd vt vm zz) (hs : ∀ r ∈ rs, r.dx = r.dy) (i : Nat) (hi : i < rs.length) {bd : Nat} {d : Dk} {k : Kno} {dy db : Nat} {e : Ending} (ho : Out w (Cw own i w) rs[i].bk rs[i].bx bd (ptrB rs[i].bY) d k dy db e w') {M : Nat} (ht : d.turn <= N) (hb : k.bytes <= N) (hop : k.ops <= N) (hl : k.ones.length <= N) (hM : N + 1 <= M) (hM1 : N + dy <= M) (hM2 : N + db <= M) :
   e = .returned (.bool true) /\ StepM w own bW M rs ts nxt zz w' := by
 obtain ⟨rfl, D', d', zs', k', hv, hI, h1, h2, h3, h4⟩ := ho
 have hst := h.stepK i hi (N' := M) (hv.kp.mono (fun _ s => s.1)) ⟨bd, d', zs', k'⟩ (hv.dka.mono (fun k _ s => (hv.sub k s).imp (fun s => s.1) id)) hI (by simp only; omega) (by simp only; omega) (by simp only; omega) (by simp only; omega) (by omega)
 refine ⟨rfl, hv.kp.mono (fun k s => ?_), _, _, _, _, _, _, _, _, hst, fun k hk => recolor_old hk, by simp, ?_, by omega, by omega, by omega⟩
 . rcases s.1 with s | s | s <;> omega
 . intro r hr
   rcases List.mem_or_eq_of_mem_set hr with hr | rfl
   . exact hs r hr
   . show rs[i].dx = rs[i].dy
     exact hs _ (List.getElem_mem hi)
theorem samePairs_self (q1 q2 : Option Addr) (c1 c2 : Nat) (P : Mp) (w : World) (h1 : Pairp w q1 P) (h2 : Pairp w q2 P) (hl : P.length <= 4194304) :
   Calls Tryz.prog 135 #[.slice q1 P.length c1, .slice q2 P.length c2] w fun e w' => e = .returned (.bool true) /\ ∃ n, w' = w.drewN n := by
 have := samePairs_any q1 q2 c1 c2 P P w h1 h2 hl hl
 rw [decide_eq_true rfl] at this
 exact this
theorem pairs_close {w3 w4 w5 : World} (hs : ∀ r ∈ rs, r.dx = r.dy) (k0 : Below w.heap.size w w3) {vl : Value} (hge : ∀ g, vl.ownBlock = some g -> w.heap.size <= g) (kp : Kp (fun k => recolor own w 0 k = 1 \/ vl.ownBlock = some k) w3 w4) {us : List TX} {vp' vq' : Value} (hu : us.length = 4)
   (hI : Inv w4 (ownT (recolor own w 0) w3 vl vp' vq') bW N rs ts (nxt + 1) vd vt vm ⟨vp', vq', zz.ps ++ us⟩) (hb : Below w4.heap.size w4 w5) : StepM w own bW N rs ts nxt zz w5 := by
 have hs3 := k0.size
 have hs4 := kp.size
 refine ⟨(((Kp.of_below k0).trans kp (fun k hk e => ?_))).trans (T := fun _ => False) (Kp.of_below hb) (fun _ _ f => f.elim), _, _, _, _, _, _, _, _, hI.quiet (Kp.of_below hb), fun k hk => ?_, ⟨Nat.le_refl _, Nat.le_succ _⟩, hs, by omega, by simp [hu], Nat.le_refl _⟩
 . rcases e with e | e
   . rw [recolor_old hk] at e; omega
   . have := hge k e; omega
 . rw [recolor_old (by omega)]
   have hlt : k < w3.heap.size := by omega
   unfold ownT
   rw [if_pos hlt, if_neg (fun e => by have := hge k e; omega), recolor_old hk]
theorem lscans_pos {w2 : World} (h : Inv w own bW N rs ts nxt vd vt vm zz) (hs : ∀ r ∈ rs, r.dx = r.dy) (hps : zz.ps.length <= 16777216) (hnx : nxt <= 1099511627770) (i : Nat) (hi : i < rs.length) {q : KR} (hq : rs[i].kn = some q) (hal : q.d.dead = false) (k0 : Below w.heap.size w w2) (ap : Option Addr) (cp : Nat) (ql : Option Addr) (qc : Nat) (l : Mp) (lo hi' : Nm) (lim : Int)
   (hP : OwnP w2 w.heap.size (.slice ap (scanY l lo hi' lim).length cp) (scanY l lo hi' lim)) (hpl : Pairp w2 ql l) (hll : l.length <= 4194000) (h0 : 0 <= lim) (h1 : lim <= 9223372036854775807) :
   Calls Tryz.prog 105 #[ptrB bW, ptrB rs[i].bk, .slice ap (scanY l lo hi' lim).length cp, .int .i64 0, .slice ql l.length qc, str lo, str hi', .int .i64 lim] w2 fun e w' => e = .returned (.bool true) /\ StepM w own bW N rs ts nxt zz w' /\ Kp (fun k => recolor own w 0 k = 1 \/ (Value.slice ap (scanY l lo hi' lim).length cp).ownBlock = some k) w2 w' := by
 have hY := yScan_any ql qc l lo hi' lim w2 hpl hll h0 h1
 have hsl : (scanY l lo hi' lim).length <= l.length := by
   unfold scanY rangeM
   have h8 := List.length_filter_le (fun x => okB lo hi' x.1) l
   rw [List.length_take]
   omega
 generalize hPe : scanY l lo hi' lim = P at *
 have hPl : P.length <= 4194304 := by omega
 have hge : ∀ g, (Value.slice ap P.length cp).ownBlock = some g -> w.heap.size <= g := fun g hg => (World.ownsRow.lt hP g hg).1
 have HP : Hid (OwnP w2 w.heap.size (.slice ap P.length cp) P) := hP
 have hs2 := k0.size
 have HH : Hid (Inv w own bW N rs ts nxt vd vt vm zz) := h
 clear h hP hpl
 unfold ptrB
 go_enter Tryz.func105, Tryz.ntmps105
 go_wp2_with (first
   | (go_at_call 142; refine hY.mono ?_; rintro e w3 ⟨v3, rfl, hb3, ho3⟩; clear hY; obtain ⟨q3, c3, rfl, hp3, -⟩ := OwnP.pairp ho3; have hP3 : OwnP w3 w.heap.size (.slice ap P.length cp) P := (Kp.of_below (S := fun _ => False) hb3).row HP.out (fun _ _ f => f); obtain ⟨q4, c4, e4, hp4, -⟩ := OwnP.pairp hP3; cases e4; have hSa := samePairs_self ap q3 cp c3 P w3 hp4 hp3 hPl; have hB3 : Below w.heap.size w w3 := k0.trans (hb3.mono hs2); have HP3 : Hid (OwnP w3 w.heap.size (.slice ap P.length cp) P) := hP3; clear hP3 hp3 hp4)
   | (go_at_call 135; refine hSa.mono ?_; rintro e w4 ⟨rfl, n4, rfl⟩; clear hSa; have hB4 : Below w.heap.size w (w3.drewN n4) := hB3.trans (Sm.drewN _ _).belowB; have hOw := ownPairs_any (HH.out.quiet (Kp.of_below hB4)) hps hnx (.slice ap P.length cp) P (fun g hg => recolor_new (hge g hg)) (ownsRow_base HP3.out (Nat.zero_le _)) (by omega); unfold ptrB at hOw)
   | (go_at_call 143; refine hOw.mono ?_; rintro e w5 ⟨rfl, kp5, us, vp5, vq5, hu5, hI5⟩; clear hOw; obtain ⟨D5, hv5, -⟩ := Dv.start (hI5.dka i hi hq); have hEd := ends_calm hv5 ((hI5.disk i hi).2 q hq).inv hal 0)
   | (go_at_call 98; refine hEd.mono ?_; rintro e w6 ⟨rfl, hb6⟩; clear hEd))
 go_ret
 refine ⟨rfl, pairs_close hs hB4 hge kp5 hu5 hI5 hb6, ?_⟩
 exact (((Kp.of_below (hb3.trans ((Sm.drewN _ _).belowB (B := w2.heap.size)))).trans kp5 (fun k _ e => e))).trans (T := fun _ => False) (Kp.of_below hb6) (fun _ _ f => f.elim)
theorem lscans_neg {w2 : World} (h : Inv w own bW N rs ts nxt vd vt vm zz) (hs : ∀ r ∈ rs, r.dx = r.dy) (hps : zz.ps.length <= 16777216) (hnx : nxt <= 1099511627770) (i : Nat) (hi : i < rs.length) {q : KR} (hq : rs[i].kn = some q) (hal : q.d.dead = false) (k0 : Below w.heap.size w w2) (ql : Option Addr) (n qc : Nat) (lo hi' : Nm) (lim : Int) (h0 : lim < 0) :
   Calls Tryz.prog 105 #[ptrB bW, ptrB rs[i].bk, .slice none 0 0, .int .i64 1, .slice ql n qc, str lo, str hi', .int .i64 lim] w2 fun e w' => e = .returned (.bool true) /\ StepM w own bW N rs ts nxt zz w' /\ Kp (fun k => recolor own w 0 k = 1 \/ (Value.slice none 0 0).ownBlock = some k) w2 w' := by
 have hY := yScan_arg ql n qc lo hi' lim w2 h0
 have hSa := samePairs_self none none 0 0 [] w2 (fun i hi => absurd hi (Nat.not_lt_zero _)) (fun i hi => absurd hi (Nat.not_lt_zero _)) (Nat.zero_le _)
 have HH : Hid (Inv w own bW N rs ts nxt vd vt vm zz) := h
 clear h
 unfold ptrB
 go_enter Tryz.func105, Tryz.ntmps105
 go_wp2_with (first
   | (go_at_call 142; refine hY.mono ?_; rintro e w3 ⟨rfl, rfl⟩; clear hY)
   | (go_at_call 135; refine hSa.mono ?_; rintro e w4 ⟨rfl, n4, rfl⟩; clear hSa; have hB4 : Below w.heap.size w (w2.drewN n4) := k0.trans (Sm.drewN _ _).belowB; have hOw := ownPairs_any (HH.out.quiet (Kp.of_below hB4)) hps hnx (.slice none 0 0) [] (fun g hg => by cases hg) (World.ownsRow_nil _ _ _ _) (by simp); unfold ptrB at hOw)
   | (go_at_call 143; refine hOw.mono ?_; rintro e w5 ⟨rfl, kp5, us, vp5, vq5, hu5, hI5⟩; clear hOw; obtain ⟨D5, hv5, -⟩ := Dv.start (hI5.dka i hi hq); have hEd := ends_calm hv5 ((hI5.disk i hi).2 q hq).inv hal 1)
   | (go_at_call 98; refine hEd.mono ?_; rintro e w6 ⟨rfl, hb6⟩; clear hEd))
 go_ret
 refine ⟨rfl, pairs_close hs hB4 (fun g hg => by cases hg) kp5 hu5 hI5 hb6, ?_⟩
 exact (((Kp.of_below ((Sm.drewN _ _).belowB (B := w2.heap.size))).trans kp5 (fun k _ e => e))).trans (T := fun _ => False) (Kp.of_below hb6) (fun _ _ f => f.elim)
end
end Go.Proofs.YtfghgmojnffgnaaGreat.M
