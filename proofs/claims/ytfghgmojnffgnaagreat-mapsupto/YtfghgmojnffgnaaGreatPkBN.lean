import Derived.Test.YtfghgmojnffgnaaGreatPkBM
set_option maxHeartbeats 4000000
set_option maxRecDepth 20000
namespace Go.Proofs.YtfghgmojnffgnaaGreat
open Go.RowKit Go.Maps Go.Sort
section
variable {w : World} {C : Nat -> Prop} {bk bx bd : Nat} {vy : Value} {d : Dk} {zs : List (Nat × St)} {k : Kno}
theorem open_okK (h : Dka w C bk bx bd vy d zs k) (hC : ∀ i, C i -> i < w.heap.size) (hI : KInv k d zs) (hn : k.ones.length <= 4194000) (ht : d.turn <= 4611686018427387904) (hb : k.bytes <= 2097152) (ho : k.ops <= 1048576) (Dd Bv S T ops L old : Value) (A : Int) (hA0 : 0 <= A) (hA2 : A <= 2) (h0 : (openX d).1 = 0) (hcr : k.crashed = false) :
   Calls Tryz.prog 63 #[.pointer (some ⟨bk, 0, none⟩), .agg #[.int .i64 11, Dd, .int .i64 A, Bv, S, T, ops, L, old]] w (Out w C bk bx bd vy d k 0 0) := by
 have hok := hI.ok
 have htn := openX_turn hok.1
 obtain ⟨hen, hald, ⟨n0, hn0a, hn0b, hn0c, hn0d⟩, hmk, hwm, hFa⟩ := hI.openOk h0
 have hn0e := hn0d hcr
 have hokF := (hFa n0 hn0a hn0b hn0c ⟨0, 0, 0, (openX d).2.2, true, false⟩ rfl rfl rfl).ok
 have HEN : Hid (endsB (closeK k) (openX d).2.1 0 0 true = true) := hen
 have HOKF : Hid ((openX d).2.1.Ok /\ (openX d).2.1.files.length <= 2) := hokF
 have HFA : Hid (∀ n, k.safe <= n -> n <= k.h.length -> (openX d).2.2 = doAll [] (k.h.take n).flatten -> ∀ o : One, o.op = true -> o.stuck = false -> o.l = (openX d).2.2 -> KInv (openK (diedK (closeK k) (openX d).2.1) o n) (openX d).2.1 (zs ++ [(o.z, ⟨d.turn + 1, (openX d).2.2, false, false⟩)])) := hFa
 have HN : Hid ((openX d).2.2 = doAll [] (k.h.take n0).flatten) := hn0c
 have HGD : Hid ((∀ b ∈ k.h, batchOk b = true) /\ wtL k.h.flatten <= 33520000) := by
   have hw := hI.wt
   unfold cost at hw
   exact ⟨hI.good, by omega⟩
 have HMK : Hid (MOk (openX d).2.2 /\ List.length (openX d).2.2 <= 4194304) := by
   have h8 := wtM_len (openX d).2.2
   unfold cost at hwm
   exact ⟨hmk, by omega⟩
 clear hen hokF hFa hn0c hmk hwm
 obtain ⟨D0, hv0, hD0⟩ := Dv.start h
 have hDC : ∀ i, D0 i -> i < w.heap.size := fun i s => hC i (hD0 i s)
 obtain ⟨w1, hw1⟩ : ∃ w1, w1 = w.alloc (.cells #[.int .i64 11, Dd, .int .i64 A, Bv, S, T, ops, L, old] 67) := ⟨_, rfl⟩
 have hB : Below w.heap.size w w1 := by rw [hw1]; exact (Below.refl _ w).alloc (Nat.le_refl _) _
 have hsz1 : w1.heap.size = w.heap.size + 1 := by rw [hw1]; simp
 have hv1 := (hv0.below hB).drew
 have hOp := hv1.open A hok.1 (by omega) hI.turn0 ht hA0 hA2
 obtain ⟨m0, m1, m2, -, -⟩ := hv1.dcells
 have HBO : Hid (w1.drew.heap[w.heap.size]? = some (.cells #[.int .i64 11, Dd, .int .i64 A, Bv, S, T, ops, L, old] 67)) := by rw [hw1]; exact block_new w _
 have o2 : w1.drew.cell? ⟨w.heap.size, 2, none⟩ = some (.int .i64 A) := cell_block HBO.out
 have HW : Hid (w1 = w.alloc (.cells #[.int .i64 11, Dd, .int .i64 A, Bv, S, T, ops, L, old] 67)) := hw1
 have HI : Hid (KInv k d zs) := hI
 replace m2 : w1.cell? ⟨bk, 2, none⟩ = some (.pointer (some ⟨k.kb, 0, none⟩)) := m2
 rw [hw1] at m2
 clear h hv0 hB hw1 hI hv1 m1
 go_enter Tryz.func63, Tryz.ntmps63
 go_wp2
 rw [HW.out.symm]
 clear m2 HW
 have hc : w1.drew.cell? ⟨bk, 0, none⟩ = some (.pointer (some ⟨bx, 0, none⟩)) /\ w1.drew.cell? ⟨w.heap.size, 2, none⟩ = some (.int .i64 A) := ⟨m0, o2⟩
 refine wp_region_E (S := fun w' => w'.cell? ⟨bk, 0, none⟩ = some (.pointer (some ⟨bx, 0, none⟩)) /\ w'.cell? ⟨w.heap.size, 2, none⟩ = some (.int .i64 A)) mixedT ?_
 refine tp 0 10 bk 0 rfl rfl (fun w' hS => ?_) hc ?_
 . obtain ⟨hS1, hS2⟩ := hS
   go_simp
 refine tp 1 10 bk 0 rfl rfl (fun w' hS => ?_) hc ?_
 . obtain ⟨hS1, hS2⟩ := hS
   go_simp
 refine tp 2 10 bk 0 rfl rfl (fun w' hS => ?_) hc ?_
 . obtain ⟨hS1, hS2⟩ := hS
   go_simp
 refine tp 3 10 bx 0 rfl rfl (fun w' hS => ?_) hc ?_
 . obtain ⟨hS1, hS2⟩ := hS
   go_simp
 refine tp 4 10 w.heap.size 2 rfl rfl (fun w' hS => ?_) hc ?_
 . obtain ⟨hS1, hS2⟩ := hS
   go_simp
 refine tk 5 10 (.int .i64 A) rfl rfl (fun w' hS => ?_) hc ?_
 . obtain ⟨hS1, hS2⟩ := hS
   go_simp
 refine wpAnyE_one (i := 6) (by kernel_rfl) rfl (by rfl) (fun K hK => ?_)
 go_simp
 refine hOp.mono ?_
 clear hOp m0 o2
 intro e w2 hpost
 obtain ⟨bz, rfl, D2, hg2, hv2, kp2⟩ := hpost.1 h0
 have hbo2 := kp2.at HBO.out (fun s => by have := hDC _ s; omega)
 have hsz2 := kp2.size
 replace hsz2 : w1.heap.size <= w2.heap.size := hsz2
 obtain ⟨m0, -, m2, -, -⟩ := hv2.dcells
 have o2 : w2.cell? ⟨w.heap.size, 2, none⟩ = some (.int .i64 A) := cell_block hbo2
 clear hc
 have hc : w2.cell? ⟨bk, 0, none⟩ = some (.pointer (some ⟨bx, 0, none⟩)) /\ w2.cell? ⟨w.heap.size, 2, none⟩ = some (.int .i64 A) := ⟨m0, o2⟩
 refine hK.out _ _ hc ?_
 clear hK
 refine wpAnyE_one (i := 7) (by kernel_rfl) rfl (by rfl) (fun K hK => ?_)
 go_simp
 refine hK.out _ _ hc ?_
 clear hK
 refine tp 8 10 bz 0 rfl rfl (fun w' hS => ?_) hc ?_
 . obtain ⟨hS1, hS2⟩ := hS
   go_simp
 refine tk 9 11 (.int .i64 0) rfl rfl (fun w' hS => ?_) hc ?_
 . obtain ⟨hS1, hS2⟩ := hS
   go_simp
 refine wpAnyE_one (i := 10) (by kernel_rfl) rfl (by rfl) (fun K hK => ?_)
 go_simp
 refine hK.out _ _ hc ?_
 clear hK
 refine wpAnyE_last (i := 11) (by kernel_rfl) rfl (by rfl) (by kernel_rfl) (by kernel_rfl) (fun K hK => ?_)
 go_simp
 refine hK.out _ _ ?_
 clear hK
 have hn2 : ∀ i, D2 i -> i ≠ w.heap.size := fun i s e => by
   rcases hg2 _ s with s | s
   . have := hDC _ s; omega
   . replace s : w1.heap.size <= i := s
     omega
 have hCl := hv2.close (by omega)
 have hclen : (closeK k).ones.length <= 4194000 := by rw [closeK_len]; exact hn
 obtain ⟨i0, ih, i1, i2, i3⟩ := info_parts Tryz.info150
 have hk2 := diedK_eq (closeK k) (openX d).2.1
 generalize (diedK (closeK k) (openX d).2.1).dead = a2 at hk2
 generalize (diedK (closeK k) (openX d).2.1).armed = b2 at hk2
 have HK2 : Hid (diedK (closeK k) (openX d).2.1 = { closeK k with dead := a2, armed := b2 }) := hk2
 clear hpost hk2
 go_wp2_with (first
   | (go_at_call 97; refine hCl.mono ?_; rintro e w3 ⟨rfl, D3, hg3, hv3, kp3⟩; clear hCl; have hbo3 := kp3.at hbo2 (fun s => hn2 _ s rfl); have hEd := ends_any hv3 HOKF.out.1 (by have := HOKF.out.2; omega) (by show k.bytes <= _; omega) (by show k.ops <= _; omega) 0 0 true; rw [HEN.out, HK2.out] at hEd; have hsz3 := kp3.size; clear o2 m0 m2)
   | (go_at_call 98; refine hEd.mono ?_; rintro e w4 ⟨rfl, D4, hg4, hv4, kp4⟩; clear hEd; replace hv4 : Dv w C w4 D4 bk bx bd vy (openX d).2.1 (zs ++ [(bz, ⟨d.turn + 1, (openX d).2.2, false, false⟩)]) { closeK k with dead := a2, armed := b2 } := hv4; have hn3 : ¬ D3 w.heap.size := (fun s => by rcases hg3 _ s with s | s; (exact hn2 _ s rfl); omega); have hbo4 := kp4.at hbo3 hn3; have o2' : w4.cell? ⟨w.heap.size, 2, none⟩ = some (.int .i64 A) := cell_block hbo4; have hsz4 := kp4.size; have hB5 : Below w4.heap.size w4 (w4.alloc (.cells #[.pointer (some ⟨bz, 0, none⟩), .int .i64 A, .slice none 0 0, .slice none 0 0, .slice none 0 0, .bool true, .bool false, .bool false, .bool true, .bool false, .bool false, .bool false, .bool false, .slice none 0 0, .slice none 0 0] 153)) := (Below.refl _ w4).alloc (Nat.le_refl _) _; have hB6 : Below (w4.alloc (.cells #[.pointer (some ⟨bz, 0, none⟩), .int .i64 A, .slice none 0 0, .slice none 0 0, .slice none 0 0, .bool true, .bool false, .bool false, .bool true, .bool false, .bool false, .bool false, .bool false, .slice none 0 0, .slice none 0 0] 153)).heap.size (w4.alloc (.cells #[.pointer (some ⟨bz, 0, none⟩), .int .i64 A, .slice none 0 0, .slice none 0 0, .slice none 0 0, .bool true, .bool false, .bool false, .bool true, .bool false, .bool false, .bool false, .bool false, .slice none 0 0, .slice none 0 0] 153)) ((w4.alloc (.cells #[.pointer (some ⟨bz, 0, none⟩), .int .i64 A, .slice none 0 0, .slice none 0 0, .slice none 0 0, .bool true, .bool false, .bool false, .bool true, .bool false, .bool false, .bool false, .bool false, .slice none 0 0, .slice none 0 0] 153)).alloc (.cells #[.pointer (some ⟨w4.heap.size, 0, none⟩)] 150)) := (Below.refl _ _).alloc (Nat.le_refl _) _; have hv6 := (hv4.below hB5).below hB6; obtain ⟨qs, cs, s8, sz8, hrow, hrne, -⟩ := (hv4.below hB5).srow; replace s8 : (w4.alloc (.cells #[.pointer (some ⟨bz, 0, none⟩), .int .i64 A, .slice none 0 0, .slice none 0 0, .slice none 0 0, .bool true, .bool false, .bool false, .bool true, .bool false, .bool false, .bool false, .bool false, .slice none 0 0, .slice none 0 0] 153)).cell? ⟨k.kb, 8, none⟩ = some (.slice qs (closeK k).ones.length cs) := s8; have hrow6 := hrow.alloc (.cells #[.pointer (some ⟨w4.heap.size, 0, none⟩)] 150); have s86 : ((w4.alloc (.cells #[.pointer (some ⟨bz, 0, none⟩), .int .i64 A, .slice none 0 0, .slice none 0 0, .slice none 0 0, .bool true, .bool false, .bool false, .bool true, .bool false, .bool false, .bool false, .bool false, .slice none 0 0, .slice none 0 0] 153)).alloc (.cells #[.pointer (some ⟨w4.heap.size, 0, none⟩)] 150)).cell? ⟨k.kb, 8, none⟩ = some (.slice qs (closeK k).ones.length cs) := cell_below hB6 s8; have hone6 : ((w4.alloc (.cells #[.pointer (some ⟨bz, 0, none⟩), .int .i64 A, .slice none 0 0, .slice none 0 0, .slice none 0 0, .bool true, .bool false, .bool false, .bool true, .bool false, .bool false, .bool false, .bool false, .slice none 0 0, .slice none 0 0] 153)).alloc (.cells #[.pointer (some ⟨w4.heap.size, 0, none⟩)] 150)).heap[w4.heap.size]? = some (.cells #[.pointer (some ⟨bz, 0, none⟩), .int .i64 A, .slice none 0 0, .slice none 0 0, .slice none 0 0, .bool true, .bool false, .bool false, .bool true, .bool false, .bool false, .bool false, .bool false, .slice none 0 0, .slice none 0 0] 153) := block_alloc (block_new _ _))
   | (at_builtin; refine wpList_app2 _ rfl (.tmp 113) (.tmp 115) 111 rfl 150 i0 _ 1 8 Tryz.underlying111 ih i1 i2 i3 rfl (by decide) (.slice qs (closeK k).ones.length cs) (closeK k).ones.length _ rfl (by exact hrow6) ⟨w4.heap.size + 1, 0, none⟩ 1 1 [.pointer (some ⟨w4.heap.size, 0, none⟩)] rfl rfl (by exact one_at' _ _ _ _ (by simp)) (by intro u hu; simp at hu; subst hu; rfl) (by unfold maxLen; omega) (by omega) ?_; intro v7 w7 A7; obtain ⟨a7, cap7, rfl, -, -, -, -⟩ := row1 A7.new; obtain ⟨t8, tz8⟩ := hv6.appCell s86 A7; replace t8 : w7.cell? ⟨k.kb, 8, none⟩ = some (.slice qs (closeK k).ones.length cs) := t8; replace tz8 : w7.frozen? ⟨k.kb, 8, none⟩ = false := tz8; have hv8 := hv6.store ⟨w4.heap.size, bz, A, [], true, false⟩ hone6 rfl ⟨fun s => by have := hv4.lt _ s; simp only at this; omega, by have := hv4.kp.size; simp only; omega⟩ s86 A7; obtain ⟨D8, hv8⟩ : ∃ D8, Dv w C (w7.setCell ⟨k.kb, 8, none⟩ (.slice a7 ((closeK k).ones.length + 1) cap7)) D8 bk bx bd vy (openX d).2.1 (zs ++ [(bz, (⟨d.turn + 1, (openX d).2.2, false, false⟩ : St))]) { closeK k with dead := a2, armed := b2, ones := (closeK k).ones ++ [(⟨w4.heap.size, bz, A, [], true, false⟩ : One)] } := ⟨_, hv8⟩; obtain ⟨qh, ch, t1, hpp8, t3⟩ := hv8.setCells rfl; replace t1 : w7.cell? ⟨k.kb, 1, none⟩ = some (.slice qh k.h.length ch) := t1; replace t3 : w7.cell? ⟨k.kb, 3, none⟩ = some (.bool k.crashed) := t3; rw [hcr] at t3; have hA8 := yAll_any qh ch k.h (w7.setCell ⟨k.kb, 8, none⟩ (.slice a7 ((closeK k).ones.length + 1) cap7)) hpp8 (fun b hb => by have := (batchOk_iff.1 (HGD.out.1 b hb)).1.1; omega) (by have := wtL_len k.h.flatten; have := HGD.out.2; omega) (by have := hs_len HGD.out.1; have := wtL_len k.h.flatten; have := HGD.out.2; omega); clear s8 s86 hrow hrow6 hone6 o2' hv6)
   | (go_at_call 99; refine hA8.mono ?_; rintro e w9 ⟨v9, rfl, hb9, ho9⟩; clear hA8; obtain ⟨q9, c9, rfl, -, -⟩ := OwnP.pairp ho9; have hv9 := hv8.below hb9; obtain ⟨lz, ⟨vl2, l2⟩, hDo, hne⟩ := hv9.lastCells rfl; replace l2 : w9.cell? ⟨w4.heap.size, 2, none⟩ = some vl2 := l2; have lz2 : w9.frozen? ⟨w4.heap.size, 2, none⟩ = false := lz 2; replace hne : ¬ w4.heap.size = k.kb := hne; have hne' : ¬ k.kb = w4.heap.size := fun e => hne e.symm; obtain ⟨qh9, ch9, y1, -, -, -, y2, yz, y3, -, -⟩ := hv9.hcells; replace y1 : w9.cell? ⟨k.kb, 1, none⟩ = some (.slice qh9 k.h.length ch9) := y1; replace y2 : w9.cell? ⟨k.kb, 2, none⟩ = some (.int .i64 k.safe) := y2; have yz2 : w9.frozen? ⟨k.kb, 2, none⟩ = false := yz 2; have yz3 : w9.frozen? ⟨k.kb, 3, none⟩ = false := yz 3; replace y3 : w9.cell? ⟨k.kb, 3, none⟩ = some (.bool k.crashed) := y3; clear lz yz t1 t3 t8 tz8 hpp8))
 go_ret
 have hmE : (openX d).2.2 = doAll [] k.h.flatten := by
   rw [HN.out, hn0e, List.take_of_length_le (Nat.le_refl _)]
 have hvm := hv9.lastMap (os := (closeK k).ones) (o := ⟨w4.heap.size, bz, A, [], true, false⟩) rfl (ownsRow_base ho9 (Nat.zero_le _)) (fun g hg => ?_)
 . obtain ⟨D9, hvs⟩ : ∃ D9, Dv w C ((w9.setCell ⟨w4.heap.size, 2, none⟩ (.slice q9 (List.length (doAll [] k.h.flatten)) c9)).setCell ⟨k.kb, 2, none⟩ (.int .i64 k.h.length)) D9 bk bx bd vy (openX d).2.1 (zs ++ [(bz, (⟨d.turn + 1, (openX d).2.2, false, false⟩ : St))]) { closeK k with dead := a2, armed := b2, ones := (closeK k).ones ++ [(⟨w4.heap.size, bz, A, doAll [] k.h.flatten, true, false⟩ : One)], safe := k.h.length } := ⟨_, hvm.safeAt k.h.length⟩
   have hF := HFA.out k.h.length (by omega) (Nat.le_refl _) (by rw [hmE, List.take_of_length_le (Nat.le_refl _)]) ⟨w4.heap.size, bz, A, doAll [] k.h.flatten, true, false⟩ rfl rfl hmE.symm
   rw [HK2.out] at hF
   refine ⟨rfl, D9, _, _, _, hvs, ?_, by omega, Nat.le_refl _, Nat.le_refl _, by simp [closeK]⟩
   have hE : openK { closeK k with dead := a2, armed := b2 } ⟨w4.heap.size, bz, A, doAll [] k.h.flatten, true, false⟩ k.h.length = { closeK k with dead := a2, armed := b2, ones := (closeK k).ones ++ [⟨w4.heap.size, bz, A, doAll [] k.h.flatten, true, false⟩], safe := k.h.length } := by
     simp [openK, closeK, hcr]
   rw [hE] at hF
   exact hF
 . have h1 := (World.ownsRow.lt ho9 g hg).1
   refine ⟨fun s => ?_, ?_⟩
   . have := hv8.lt g s; omega
   . have := hv8.kp.size; omega
end
section
variable {w : World} {C : Nat -> Prop} {bk bx bd : Nat} {vy : Value} {d : Dk} {zs : List (Nat × St)} {k : Kno}
theorem open_crK (h : Dka w C bk bx bd vy d zs k) (hC : ∀ i, C i -> i < w.heap.size) (hI : KInv k d zs) (hn : k.ones.length <= 4194000) (ht : d.turn <= 4611686018427387904) (hb : k.bytes <= 2097152) (ho : k.ops <= 1048576) (Dd Bv S T ops L old : Value) (A : Int) (hA0 : 0 <= A) (hA2 : A <= 2) (h0 : (openX d).1 = 0) (hcr : k.crashed = true) :
   Calls Tryz.prog 63 #[.pointer (some ⟨bk, 0, none⟩), .agg #[.int .i64 11, Dd, .int .i64 A, Bv, S, T, ops, L, old]] w (Out w C bk bx bd vy d k 0 0) := by
 have hok := hI.ok
 have htn := openX_turn hok.1
 obtain ⟨hen, hald, ⟨n0, hn0a, hn0b, hn0c, hn0d⟩, hmk, hwm, hFa⟩ := hI.openOk h0
 have HRD : Hid (ready (openX d).2.1.turn (openX d).2.1.dead ⟨d.turn + 1, (openX d).2.2, false, false⟩ = 0) := by
   show _ = _
   unfold ready
   rw [htn, hald]
   simp
 have HAD : Hid ((diedK (closeK k) (openX d).2.1).dead = false) := by
   show _ = _
   have h9 := (hFa n0 hn0a hn0b hn0c ⟨0, 0, 0, (openX d).2.2, true, false⟩ rfl rfl rfl).dead
   rw [hald] at h9
   exact h9
 have HRA : Hid ((rangeM [] [] (openX d).2.2).take (1099511627776 : Int).toNat = (openX d).2.2) := by
   show _ = _
   have h8 := wtM_len (openX d).2.2
   have h9 := hwm
   unfold cost at h9
   rw [range_all, List.take_of_length_le]
   show List.length (openX d).2.2 <= 1099511627776
   omega
 have hokF := (hFa n0 hn0a hn0b hn0c ⟨0, 0, 0, (openX d).2.2, true, false⟩ rfl rfl rfl).ok
 have HEN : Hid (endsB (closeK k) (openX d).2.1 0 0 true = true) := hen
 have HOKF : Hid ((openX d).2.1.Ok /\ (openX d).2.1.files.length <= 2) := hokF
 have HFA : Hid (∀ n, k.safe <= n -> n <= k.h.length -> (openX d).2.2 = doAll [] (k.h.take n).flatten -> ∀ o : One, o.op = true -> o.stuck = false -> o.l = (openX d).2.2 -> KInv (openK (diedK (closeK k) (openX d).2.1) o n) (openX d).2.1 (zs ++ [(o.z, ⟨d.turn + 1, (openX d).2.2, false, false⟩)])) := hFa
 have HN : Hid ((openX d).2.2 = doAll [] (k.h.take n0).flatten) := hn0c
 have HGD : Hid ((∀ b ∈ k.h, batchOk b = true) /\ wtL k.h.flatten <= 33520000) := by
   have hw := hI.wt
   unfold cost at hw
   exact ⟨hI.good, by omega⟩
 have HMK : Hid (MOk (openX d).2.2 /\ List.length (openX d).2.2 <= 4194304) := by
   have h8 := wtM_len (openX d).2.2
   unfold cost at hwm
   exact ⟨hmk, by omega⟩
 clear hen hokF hFa hn0c hmk hwm
 obtain ⟨D0, hv0, hD0⟩ := Dv.start h
 have hDC : ∀ i, D0 i -> i < w.heap.size := fun i s => hC i (hD0 i s)
 obtain ⟨w1, hw1⟩ : ∃ w1, w1 = w.alloc (.cells #[.int .i64 11, Dd, .int .i64 A, Bv, S, T, ops, L, old] 67) := ⟨_, rfl⟩
 have hB : Below w.heap.size w w1 := by rw [hw1]; exact (Below.refl _ w).alloc (Nat.le_refl _) _
 have hsz1 : w1.heap.size = w.heap.size + 1 := by rw [hw1]; simp
 have hv1 := (hv0.below hB).drew
 have hOp := hv1.open A hok.1 (by omega) hI.turn0 ht hA0 hA2
 obtain ⟨m0, m1, m2, -, -⟩ := hv1.dcells
 have HBO : Hid (w1.drew.heap[w.heap.size]? = some (.cells #[.int .i64 11, Dd, .int .i64 A, Bv, S, T, ops, L, old] 67)) := by rw [hw1]; exact block_new w _
 have o2 : w1.drew.cell? ⟨w.heap.size, 2, none⟩ = some (.int .i64 A) := cell_block HBO.out
 have HW : Hid (w1 = w.alloc (.cells #[.int .i64 11, Dd, .int .i64 A, Bv, S, T, ops, L, old] 67)) := hw1
 have HI : Hid (KInv k d zs) := hI
 replace m2 : w1.cell? ⟨bk, 2, none⟩ = some (.pointer (some ⟨k.kb, 0, none⟩)) := m2
 rw [hw1] at m2
 clear h hv0 hB hw1 hI hv1 m1
 go_enter Tryz.func63, Tryz.ntmps63
 go_wp2
 rw [HW.out.symm]
 clear m2 HW
 have hc : w1.drew.cell? ⟨bk, 0, none⟩ = some (.pointer (some ⟨bx, 0, none⟩)) /\ w1.drew.cell? ⟨w.heap.size, 2, none⟩ = some (.int .i64 A) := ⟨m0, o2⟩
 refine wp_region_E (S := fun w' => w'.cell? ⟨bk, 0, none⟩ = some (.pointer (some ⟨bx, 0, none⟩)) /\ w'.cell? ⟨w.heap.size, 2, none⟩ = some (.int .i64 A)) mixedT ?_
 refine tp 0 10 bk 0 rfl rfl (fun w' hS => ?_) hc ?_
 . obtain ⟨hS1, hS2⟩ := hS
   go_simp
 refine tp 1 10 bk 0 rfl rfl (fun w' hS => ?_) hc ?_
 . obtain ⟨hS1, hS2⟩ := hS
   go_simp
 refine tp 2 10 bk 0 rfl rfl (fun w' hS => ?_) hc ?_
 . obtain ⟨hS1, hS2⟩ := hS
   go_simp
 refine tp 3 10 bx 0 rfl rfl (fun w' hS => ?_) hc ?_
 . obtain ⟨hS1, hS2⟩ := hS
   go_simp
 refine tp 4 10 w.heap.size 2 rfl rfl (fun w' hS => ?_) hc ?_
 . obtain ⟨hS1, hS2⟩ := hS
   go_simp
 refine tk 5 10 (.int .i64 A) rfl rfl (fun w' hS => ?_) hc ?_
 . obtain ⟨hS1, hS2⟩ := hS
   go_simp
 refine wpAnyE_one (i := 6) (by kernel_rfl) rfl (by rfl) (fun K hK => ?_)
 go_simp
 refine hOp.mono ?_
 clear hOp m0 o2
 intro e w2 hpost
 obtain ⟨bz, rfl, D2, hg2, hv2, kp2⟩ := hpost.1 h0
 have hbo2 := kp2.at HBO.out (fun s => by have := hDC _ s; omega)
 have hsz2 := kp2.size
 replace hsz2 : w1.heap.size <= w2.heap.size := hsz2
 obtain ⟨m0, -, m2, -, -⟩ := hv2.dcells
 have o2 : w2.cell? ⟨w.heap.size, 2, none⟩ = some (.int .i64 A) := cell_block hbo2
 clear hc
 have hc : w2.cell? ⟨bk, 0, none⟩ = some (.pointer (some ⟨bx, 0, none⟩)) /\ w2.cell? ⟨w.heap.size, 2, none⟩ = some (.int .i64 A) := ⟨m0, o2⟩
 refine hK.out _ _ hc ?_
 clear hK
 refine wpAnyE_one (i := 7) (by kernel_rfl) rfl (by rfl) (fun K hK => ?_)
 go_simp
 refine hK.out _ _ hc ?_
 clear hK
 refine tp 8 10 bz 0 rfl rfl (fun w' hS => ?_) hc ?_
 . obtain ⟨hS1, hS2⟩ := hS
   go_simp
 refine tk 9 11 (.int .i64 0) rfl rfl (fun w' hS => ?_) hc ?_
 . obtain ⟨hS1, hS2⟩ := hS
   go_simp
 refine wpAnyE_one (i := 10) (by kernel_rfl) rfl (by rfl) (fun K hK => ?_)
 go_simp
 refine hK.out _ _ hc ?_
 clear hK
 refine wpAnyE_last (i := 11) (by kernel_rfl) rfl (by rfl) (by kernel_rfl) (by kernel_rfl) (fun K hK => ?_)
 go_simp
 refine hK.out _ _ ?_
 clear hK
 have hn2 : ∀ i, D2 i -> i ≠ w.heap.size := fun i s e => by
   rcases hg2 _ s with s | s
   . have := hDC _ s; omega
   . replace s : w1.heap.size <= i := s
     omega
 have hCl := hv2.close (by omega)
 have hclen : (closeK k).ones.length <= 4194000 := by rw [closeK_len]; exact hn
 obtain ⟨i0, ih, i1, i2, i3⟩ := info_parts Tryz.info150
 have hk2 := diedK_eq (closeK k) (openX d).2.1
 generalize (diedK (closeK k) (openX d).2.1).dead = a2 at hk2
 generalize (diedK (closeK k) (openX d).2.1).armed = b2 at hk2
 have HK2 : Hid (diedK (closeK k) (openX d).2.1 = { closeK k with dead := a2, armed := b2 }) := hk2
 clear hpost hk2
 have ha2 : a2 = false := by
   have h9 := HAD.out
   rw [HK2.out] at h9
   exact h9
 have HEN2 : ∀ os, Hid (endsB { closeK k with dead := a2, armed := b2, ones := os } (openX d).2.1 0 0 false = true) := fun os => by
   show _ = _
   simp [endsB, diedB, ha2, hald]
 have HK3 : ∀ os, Hid (diedK { closeK k with dead := a2, armed := b2, ones := os } (openX d).2.1 = { closeK k with dead := a2, armed := b2, ones := os }) := fun os => by
   show _ = _
   simp [diedK, ha2, hald]
 clear hald ha2
 go_wp2_with (first
   | (go_at_call 97; refine hCl.mono ?_; rintro e w3 ⟨rfl, D3, hg3, hv3, kp3⟩; clear hCl; have hbo3 := kp3.at hbo2 (fun s => hn2 _ s rfl); have hEd := ends_any hv3 HOKF.out.1 (by have := HOKF.out.2; omega) (by show k.bytes <= _; omega) (by show k.ops <= _; omega) 0 0 true; rw [HEN.out, HK2.out] at hEd; have hsz3 := kp3.size; clear o2 m0 m2)
   | (go_at_call 98; refine hEd.mono ?_; rintro e w4 ⟨rfl, D4, hg4, hv4, kp4⟩; clear hEd; replace hv4 : Dv w C w4 D4 bk bx bd vy (openX d).2.1 (zs ++ [(bz, ⟨d.turn + 1, (openX d).2.2, false, false⟩)]) { closeK k with dead := a2, armed := b2 } := hv4; have hn3 : ¬ D3 w.heap.size := (fun s => by rcases hg3 _ s with s | s; (exact hn2 _ s rfl); omega); have hbo4 := kp4.at hbo3 hn3; have o2' : w4.cell? ⟨w.heap.size, 2, none⟩ = some (.int .i64 A) := cell_block hbo4; have hsz4 := kp4.size; have hB5 : Below w4.heap.size w4 (w4.alloc (.cells #[.pointer (some ⟨bz, 0, none⟩), .int .i64 A, .slice none 0 0, .slice none 0 0, .slice none 0 0, .bool true, .bool false, .bool false, .bool true, .bool false, .bool false, .bool false, .bool false, .slice none 0 0, .slice none 0 0] 153)) := (Below.refl _ w4).alloc (Nat.le_refl _) _; have hB6 : Below (w4.alloc (.cells #[.pointer (some ⟨bz, 0, none⟩), .int .i64 A, .slice none 0 0, .slice none 0 0, .slice none 0 0, .bool true, .bool false, .bool false, .bool true, .bool false, .bool false, .bool false, .bool false, .slice none 0 0, .slice none 0 0] 153)).heap.size (w4.alloc (.cells #[.pointer (some ⟨bz, 0, none⟩), .int .i64 A, .slice none 0 0, .slice none 0 0, .slice none 0 0, .bool true, .bool false, .bool false, .bool true, .bool false, .bool false, .bool false, .bool false, .slice none 0 0, .slice none 0 0] 153)) ((w4.alloc (.cells #[.pointer (some ⟨bz, 0, none⟩), .int .i64 A, .slice none 0 0, .slice none 0 0, .slice none 0 0, .bool true, .bool false, .bool false, .bool true, .bool false, .bool false, .bool false, .bool false, .slice none 0 0, .slice none 0 0] 153)).alloc (.cells #[.pointer (some ⟨w4.heap.size, 0, none⟩)] 150)) := (Below.refl _ _).alloc (Nat.le_refl _) _; have hv6 := (hv4.below hB5).below hB6; obtain ⟨qs, cs, s8, sz8, hrow, hrne, -⟩ := (hv4.below hB5).srow; replace s8 : (w4.alloc (.cells #[.pointer (some ⟨bz, 0, none⟩), .int .i64 A, .slice none 0 0, .slice none 0 0, .slice none 0 0, .bool true, .bool false, .bool false, .bool true, .bool false, .bool false, .bool false, .bool false, .slice none 0 0, .slice none 0 0] 153)).cell? ⟨k.kb, 8, none⟩ = some (.slice qs (closeK k).ones.length cs) := s8; have hrow6 := hrow.alloc (.cells #[.pointer (some ⟨w4.heap.size, 0, none⟩)] 150); have s86 : ((w4.alloc (.cells #[.pointer (some ⟨bz, 0, none⟩), .int .i64 A, .slice none 0 0, .slice none 0 0, .slice none 0 0, .bool true, .bool false, .bool false, .bool true, .bool false, .bool false, .bool false, .bool false, .slice none 0 0, .slice none 0 0] 153)).alloc (.cells #[.pointer (some ⟨w4.heap.size, 0, none⟩)] 150)).cell? ⟨k.kb, 8, none⟩ = some (.slice qs (closeK k).ones.length cs) := cell_below hB6 s8; have hone6 : ((w4.alloc (.cells #[.pointer (some ⟨bz, 0, none⟩), .int .i64 A, .slice none 0 0, .slice none 0 0, .slice none 0 0, .bool true, .bool false, .bool false, .bool true, .bool false, .bool false, .bool false, .bool false, .slice none 0 0, .slice none 0 0] 153)).alloc (.cells #[.pointer (some ⟨w4.heap.size, 0, none⟩)] 150)).heap[w4.heap.size]? = some (.cells #[.pointer (some ⟨bz, 0, none⟩), .int .i64 A, .slice none 0 0, .slice none 0 0, .slice none 0 0, .bool true, .bool false, .bool false, .bool true, .bool false, .bool false, .bool false, .bool false, .slice none 0 0, .slice none 0 0] 153) := block_alloc (block_new _ _))
   | (at_builtin; refine wpList_app2 _ rfl (.tmp 113) (.tmp 115) 111 rfl 150 i0 _ 1 8 Tryz.underlying111 ih i1 i2 i3 rfl (by decide) (.slice qs (closeK k).ones.length cs) (closeK k).ones.length _ rfl (by exact hrow6) ⟨w4.heap.size + 1, 0, none⟩ 1 1 [.pointer (some ⟨w4.heap.size, 0, none⟩)] rfl rfl (by exact one_at' _ _ _ _ (by simp)) (by intro u hu; simp at hu; subst hu; rfl) (by unfold maxLen; omega) (by omega) ?_; intro v7 w7 A7; obtain ⟨a7, cap7, rfl, -, -, -, -⟩ := row1 A7.new; obtain ⟨t8, tz8⟩ := hv6.appCell s86 A7; replace t8 : w7.cell? ⟨k.kb, 8, none⟩ = some (.slice qs (closeK k).ones.length cs) := t8; replace tz8 : w7.frozen? ⟨k.kb, 8, none⟩ = false := tz8; have hv8 := hv6.store ⟨w4.heap.size, bz, A, [], true, false⟩ hone6 rfl ⟨fun s => by have := hv4.lt _ s; simp only at this; omega, by have := hv4.kp.size; simp only; omega⟩ s86 A7; obtain ⟨D8, hv8⟩ : ∃ D8, Dv w C (w7.setCell ⟨k.kb, 8, none⟩ (.slice a7 ((closeK k).ones.length + 1) cap7)) D8 bk bx bd vy (openX d).2.1 (zs ++ [(bz, (⟨d.turn + 1, (openX d).2.2, false, false⟩ : St))]) { closeK k with dead := a2, armed := b2, ones := (closeK k).ones ++ [(⟨w4.heap.size, bz, A, [], true, false⟩ : One)] } := ⟨_, hv8⟩; obtain ⟨qh, ch, t1, hpp8, t3⟩ := hv8.setCells rfl; replace t1 : w7.cell? ⟨k.kb, 1, none⟩ = some (.slice qh k.h.length ch) := t1; replace t3 : w7.cell? ⟨k.kb, 3, none⟩ = some (.bool k.crashed) := t3; rw [hcr] at t3; have hSc := hv8.scan zs.length (by simp) [] [] 1099511627776 (by simp only [List.getElem_append_right (Nat.le_refl _), Nat.sub_self, List.getElem_cons_zero]; exact HMK.out.1) (by simp only [List.getElem_append_right (Nat.le_refl _), Nat.sub_self, List.getElem_cons_zero]; exact HMK.out.2) (by simp only [List.getElem_append_right (Nat.le_refl _), Nat.sub_self, List.getElem_cons_zero]; exact HRD.out) (by decide) (by decide); simp only [List.getElem_append_right (Nat.le_refl _), Nat.sub_self, List.getElem_cons_zero] at hSc; rw [HRA.out] at hSc; clear s8 s86 hrow hrow6 hone6 o2' hv6)
   | (go_at_call 40; refine hSc.mono ?_; rintro e w9 ⟨v9, rfl, hb9, ho9⟩; clear hSc; obtain ⟨q9, c9, rfl, hp9, -⟩ := OwnP.pairp ho9; have hv9 := hv8.below hb9; have hE2 := ends_any hv9 HOKF.out.1 (by have := HOKF.out.2; omega) (by show k.bytes <= _; omega) (by show k.ops <= _; omega) 0 0 false; rw [(HEN2 _).out, (HK3 _).out] at hE2; have HO9 : Hid (OwnP w9 (w7.setCell ⟨k.kb, 8, none⟩ (.slice a7 ((closeK k).ones.length + 1) cap7)).heap.size (.slice q9 (List.length (openX d).2.2) c9) (openX d).2.2) := ho9; clear t1 t3 t8 tz8 ho9 hp9)
   | (go_at_call 98; refine hE2.mono ?_; rintro e w10 ⟨rfl, D10, hg10, hv10, kp10⟩; clear hE2; have hP10 : OwnP w10 0 (.slice q9 (List.length (openX d).2.2) c9) (openX d).2.2 := kp10.row (ownsRow_base HO9.out (Nat.zero_le _)) (fun g hg s => by have h1 := (World.ownsRow.lt HO9.out g hg).1; have h2 := hv8.lt g s; omega); obtain ⟨q10, c10, e10, hp10, -⟩ := OwnP.pairp hP10; cases e10; have hRs := resolved_any hv10 HGD.out.1 HGD.out.2 (openX d).2.2 q9 c9 hp10 HMK.out.2 n0 hn0a hn0b HN.out)
   | (go_at_call 100; refine hRs.mono ?_; rintro e w11 ⟨rfl, n1, hn1a, hn1b, hn1c, D11, hg11, hv11, kp11⟩; clear hRs; replace hn1a : k.safe <= n1 := hn1a; replace hn1b : n1 <= k.h.length := hn1b; have HN1 : Hid ((openX d).2.2 = doAll [] (k.h.take n1).flatten) := hn1c; clear hn1c; have hl1 : (k.h.take n1).length = n1 := (by simp; omega); obtain ⟨qh1, ch1, y1, hpp1, -, -, -, -, -, -, -⟩ := hv11.hcells; replace y1 : w11.cell? ⟨k.kb, 1, none⟩ = some (.slice qh1 (k.h.take n1).length ch1) := y1; have hA8 := yAll_any qh1 ch1 (k.h.take n1) w11 hpp1 (fun b hb => by have := (batchOk_iff.1 (HGD.out.1 b (List.mem_of_mem_take hb))).1.1; omega) (by have := flat_take_len k.h n1; have := wtL_len k.h.flatten; have := HGD.out.2; omega) (by have := hs_len HGD.out.1; have := wtL_len k.h.flatten; have := HGD.out.2; omega); rw [hl1] at y1 hA8)
   | (go_at_call 99; refine hA8.mono ?_; rintro e w12 ⟨v12, rfl, hb12, ho12⟩; clear hA8 y1; obtain ⟨q12, c12, rfl, -, -⟩ := OwnP.pairp ho12; have hv12 := hv11.below hb12; obtain ⟨lz, ⟨vl2, l2⟩, hDo, hne⟩ := hv12.lastCells rfl; replace l2 : w12.cell? ⟨w4.heap.size, 2, none⟩ = some vl2 := l2; have lz2 : w12.frozen? ⟨w4.heap.size, 2, none⟩ = false := lz 2; replace hne : ¬ w4.heap.size = k.kb := hne; have hne' : ¬ k.kb = w4.heap.size := fun e => hne e.symm; obtain ⟨qh9, ch9, y1, -, -, -, y2, yz, y3, -, -⟩ := hv12.hcells; replace y1 : w12.cell? ⟨k.kb, 1, none⟩ = some (.slice qh9 (k.h.take n1).length ch9) := y1; rw [hl1] at y1; replace y2 : w12.cell? ⟨k.kb, 2, none⟩ = some (.int .i64 k.safe) := y2; have yz2 : w12.frozen? ⟨k.kb, 2, none⟩ = false := yz 2; have yz3 : w12.frozen? ⟨k.kb, 3, none⟩ = false := yz 3; replace y3 : w12.cell? ⟨k.kb, 3, none⟩ = some (.bool k.crashed) := y3; clear lz yz))
 go_ret
 have hvm := hv12.lastMap (os := (closeK k).ones) (o := ⟨w4.heap.size, bz, A, [], true, false⟩) rfl (ownsRow_base ho12 (Nat.zero_le _)) (fun g hg => ?_)
 . obtain ⟨D9, hvs⟩ : ∃ D9, Dv w C (((w12.setCell ⟨w4.heap.size, 2, none⟩ (.slice q12 (List.length (doAll [] (k.h.take n1).flatten)) c12)).setCell ⟨k.kb, 2, none⟩ (.int .i64 n1)).setCell ⟨k.kb, 3, none⟩ (.bool false)) D9 bk bx bd vy (openX d).2.1 (zs ++ [(bz, (⟨d.turn + 1, (openX d).2.2, false, false⟩ : St))]) { closeK k with dead := a2, armed := b2, h := k.h.take n1, crashed := false, ones := (closeK k).ones ++ [(⟨w4.heap.size, bz, A, doAll [] (k.h.take n1).flatten, true, false⟩ : One)], safe := n1 } := ⟨_, (hvm.safeAt n1).crashedAt false⟩
   have hF := HFA.out n1 hn1a hn1b HN1.out ⟨w4.heap.size, bz, A, doAll [] (k.h.take n1).flatten, true, false⟩ rfl rfl HN1.out.symm
   rw [HK2.out] at hF
   exact ⟨rfl, D9, _, _, _, hvs, hF, by omega, Nat.le_refl _, Nat.le_refl _, by simp [closeK]⟩
 . have h1 := (World.ownsRow.lt ho12 g hg).1
   refine ⟨fun s => ?_, ?_⟩
   . have := hv11.lt g s; omega
   . have := hv11.kp.size; omega
end
def newK (kb : Nat) (d : Dk) : Kno := ⟨kb, d.quota, [], 0, false, 0, 0, d.dead, decide (0 <= d.left), []⟩
theorem KInv.new {d : Dk} (kb : Nat) (hok : d.Ok) (hf : d.files = []) (ht : 0 <= d.turn) : KInv (newK kb d) d [] := by
 refine ⟨rfl, ht, rfl, fun _ => by simp [newK], rfl, fun j h => absurd h (Nat.not_lt_zero _), fun j h => absurd h (Nat.not_lt_zero _), fun b hb => (by cases hb), Nat.zero_le _, fun z hz => (by cases hz), fun j h => absurd h (Nat.not_lt_zero _), fun j h => absurd h (Nat.not_lt_zero _), ?_⟩
 exact .inl ⟨rfl, [], [], [], [], rfl, fun _ => rfl, rfl, LA.new hok hf _, Nat.zero_le _, fun j h => absurd h (Nat.not_lt_zero _)⟩
theorem room_new {w : World} {C4 : Nat -> Prop} {bx : Nat} {d : Dk} (h : XAt w C4 bx d) : ∃ bd, Room w C4 bx bd (fun _ => 0) d [] := by
 obtain ⟨bd, h1, h2, h3⟩ := h
 exact ⟨bd, h1, ⟨h2, rfl⟩, h3.mono (fun k _ s => ⟨s.1, rfl, s.2⟩), fun j hj => absurd hj (Nat.not_lt_zero _)⟩
theorem Dv.first {w0 w1 w2 : World} {C C4 : Nat -> Prop} {bk bx bd : Nat} {vy : Value} {part : Nat -> Nat} {d d' : Dk} {zs : List (Nat × St)} (hb : Below w0.heap.size w0 w1) (h4 : ∀ i, C4 i -> C i) (hn4 : ¬ C4 bk) (hcb : C bk) (hlt : bk < w0.heap.size) (hbk : w2.heap[bk]? = some (.cells #[ptrB bx, vy, .pointer none] 100))
   (kp : Kp C4 w1 w2) (hR : Room w2 (Nw C4 w1) bx bd part d' zs) :
   ∃ D, (∀ i, D i -> i = bk \/ i = w2.heap.size \/ ((C4 i \/ w1.heap.size <= i) /\ i < w2.heap.size)) /\ Dv w0 C ((w2.alloc (knObj (newK w2.heap.size d) (.slice none 0 0) (.slice none 0 0))).setCell ⟨bk, 2, none⟩ (.pointer (some ⟨w2.heap.size, 0, none⟩))) D bk bx bd vy d' zs (newK w2.heap.size d) := by
 have hs1 := hb.size
 have hs2 := kp.size
 have hA : Below w2.heap.size w2 (w2.alloc (knObj (newK w2.heap.size d) (.slice none 0 0) (.slice none 0 0))) := (Below.refl _ _).alloc (Nat.le_refl _) _
 have kset := Kp.set1 (w2.alloc (knObj (newK w2.heap.size d) (.slice none 0 0) (.slice none 0 0))) bk 2 (.pointer (some ⟨w2.heap.size, 0, none⟩))
 have hne : w2.heap.size ≠ bk := by omega
 refine ⟨fun i => i = bk \/ i = w2.heap.size \/ ((C4 i \/ w1.heap.size <= i) /\ i < w2.heap.size), fun i s => s, ?_, ⟨fun i => i = w2.heap.size, fun i => (C4 i \/ w1.heap.size <= i) /\ i < w2.heap.size, part, .slice none 0 0, .slice none 0 0, fun i s => .inr (.inl s), fun i s => .inr (.inr s), fun i s t => by have := t.2; omega, ?_, ⟨.inl rfl, fun e => hne e.symm, fun s => ?_⟩, ?_, ?_⟩, fun i s => ?_, fun i s => ?_⟩
 . have k1 : Kp C w0 w2 := (Kp.of_below hb).trans kp (fun i _ s => h4 i s)
   exact (k1.alloc _).put hcb _
 . rw [block_set (block_alloc hbk) _]; rfl
 . rcases s.1 with s | s
   . exact hn4 s
   . omega
 . refine ⟨block_set_ne (block_new _ _) hne _, rfl, ⟨⟨[], World.ownsRow_nil _ _ _ _, fun i hi => absurd hi (Nat.not_lt_zero _)⟩, fun g hg => (by cases hg)⟩, World.ownsRow_nil _ _ _ _, fun g hg => (by cases hg), fun o ho => (by cases ho), List.nodup_nil⟩
 . have r1 := hR.mono (C' := fun i => (C4 i \/ w1.heap.size <= i) /\ i < w2.heap.size) (fun i hi s => ⟨s, hi⟩)
   have r2 := r1.kept (V := fun _ => False) (Kp.of_below hA) (fun _ _ f => f)
   refine r2.kept kset (fun i s (e : i = bk) => ?_)
   subst e
   rcases s.1 with s | s
   . exact hn4 s
   . omega
 . rcases s with rfl | rfl | s
   . exact .inl hcb
   . exact .inr (by omega)
   . rcases s.1 with s | s
     . exact .inl (h4 i s)
     . exact .inr (by omega)
 . have hz : ((w2.alloc (knObj (newK w2.heap.size d) (.slice none 0 0) (.slice none 0 0))).setCell ⟨bk, 2, none⟩ (.pointer (some ⟨w2.heap.size, 0, none⟩))).heap.size = w2.heap.size + 1 := by simp [World.setCell]
   rw [hz]
   rcases s with rfl | rfl | s
   . omega
   . omega
   . omega
def OutP (w : World) (C : Nat -> Prop) (bk bx : Nat) (vy : Value) (d : Dk) (e : Ending) (w' : World) : Prop := ∃ bd k, Out w C bk bx bd vy d k 0 0 e w' /\ k.bytes = 0 /\ k.ops = 0 /\ k.ones = []
theorem slice_zero {w : World} {base size : Nat} {t : TypeId} {v : Value} {xs : List Value} (h : w.ownsRow base t size v 0 xs) : ∃ a c, v = .slice a 0 c := by
 rcases h.2 with ⟨rfl, _⟩ | ⟨g, cap, cur, rfl, _⟩
 . exact ⟨_, _, rfl⟩
 . exact ⟨_, _, rfl⟩
theorem slice_len {w : World} {base size n : Nat} {t : TypeId} {v : Value} {xs : List Value} (h : w.ownsRow base t size v n xs) : ∃ a c, v = .slice a n c := by
 rcases h.2 with ⟨rfl, rfl⟩ | ⟨g, cap, cur, rfl, _⟩
 . exact ⟨_, _, rfl⟩
 . exact ⟨_, _, rfl⟩
end Go.Proofs.YtfghgmojnffgnaaGreat
