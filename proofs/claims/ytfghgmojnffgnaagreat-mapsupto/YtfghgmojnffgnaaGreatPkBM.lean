import Derived.Test.YtfghgmojnffgnaaGreatPkBL
import Derived.Test.YtfghgmojnffgnaaGreatPkBG
import Derived.Test.YtfghgmojnffgnaaGreatPkAI
set_option maxHeartbeats 4000000
set_option maxRecDepth 20000
namespace Go.Proofs.YtfghgmojnffgnaaGreat
open Go.RowKit Go.Maps Go.Sort
section
variable {w0 w : World} {C D : Nat -> Prop} {bk bx bd : Nat} {vy : Value} {d d1 : Dk} {zs : List (Nat × St)} {k : Kno} {st1 : St}
theorem Dv.close (h : Dv w0 C w D bk bx bd vy d zs k) (hl : k.ones.length <= 4194304) :
   Calls Tryz.prog 97 #[.pointer (some ⟨k.kb, 0, none⟩)] w fun e w' => e = .returned (.tuple #[]) /\ DvJ w0 C w D bk bx bd vy d zs (closeK k) w' :=
 (h.know (P := fun e k' => e = .returned (.tuple #[]) /\ k' = closeK k) (fun C3 vh vs hC hK => (kclose_any hK hl).mono (by
   rintro e w' ⟨rfl, h1, h2⟩
   exact ⟨_, vh, vs, ⟨rfl, rfl⟩, rfl, h1.mono (fun i _ s => .inl s), h2⟩))).mono (by
   rintro e w' ⟨k', ⟨rfl, rfl⟩, _, hJ⟩
   exact ⟨rfl, hJ⟩)
theorem Dv.kcrash (h : Dv w0 C w D bk bx bd vy d zs k) (hl : k.ones.length <= 4194304) :
   Calls Tryz.prog 96 #[.pointer (some ⟨k.kb, 0, none⟩)] w fun e w' => e = .returned (.tuple #[]) /\ DvJ w0 C w D bk bx bd vy d zs (crashK' k) w' :=
 (h.know (P := fun e k' => e = .returned (.tuple #[]) /\ k' = crashK' k) (fun C3 vh vs hC hK => (kcrash_any hK hl).mono (by
   rintro e w' ⟨rfl, h1, h2⟩
   exact ⟨_, vh, vs, ⟨rfl, rfl⟩, rfl, h1.mono (fun i _ s => .inl s), h2⟩))).mono (by
   rintro e w' ⟨k', ⟨rfl, rfl⟩, _, hJ⟩
   exact ⟨rfl, hJ⟩)
theorem getY_cases (l : Mp) (n : Nm) : getY l n = ([], false, 1) \/ (getY l n).2.2 = 0 := by
 unfold getY
 split
 . exact .inl rfl
 . exact .inr rfl
theorem works_shut (h : Dka w C bk bx bd vy d zs k) (hI : KInv k d zs) (j : Nat) (hj : j < k.ones.length) (hz : j < zs.length) (Dd A B S T ops L old : Value) (R : Int) (hsh : shutX k k.ones[j] = (R, true)) :
   Calls Tryz.prog 108 #[.pointer (some ⟨bk, 0, none⟩), .pointer (some ⟨k.ones[j].b, 0, none⟩), .agg #[.int .i64 17, Dd, A, B, S, T, ops, L, old]] w (Out w C bk bx bd vy d k 0 0) := by
 obtain ⟨hr, hR0⟩ := hI.shutR j hj hz hsh
 have hzat := hI.zat j hj hz
 have hok := hI.ok
 obtain ⟨D0, hv0, hD0⟩ := Dv.start h
 have hA : Below w.heap.size w (w.alloc (.cells #[.int .i64 17, Dd, A, B, S, T, ops, L, old] 67)) := (Below.refl _ w).alloc (Nat.le_refl _) _
 have hv1 := hv0.below hA
 have hSy := hv1.sync j hz hok.1
 have hX : syncX d zs[j].2 = (R, d, zs[j].2) := by
   have hw : writable d.turn d.dead zs[j].2 = R := by simp [writable, hr, hR0]
   simp [syncX, hw, hR0]
 rw [hX, hzat] at hSy
 simp only at hSy
 have HZ : Hid (zs.set j (k.ones[j].z, zs[j].2) = zs) := by
   show _ = _
   rw [<- hzat]; exact List.set_getElem_self ..
 obtain ⟨⟨-, o0, -⟩, -⟩ := hv1.cells j hj
 have HI : Hid (KInv k d zs) := hI
 clear h hv0 hv1 hA hX hI hr
 go_enter Tryz.func108, Tryz.ntmps108
 go_wp2_with (first
   | (go_at_call 14; refine hSy.mono ?_; rintro e w10 ⟨rfl, D10, hg10, hv10, kp10⟩; clear hSy o0; rw [HZ.out] at hv10; have hSh := shut_any hv10 j hj; rw [hsh] at hSh)
   | (go_at_call 103; refine hSh.mono ?_; rintro e w11 ⟨rfl, rfl⟩; clear hSh))
 go_ret
 exact ⟨by simp, D10, d, zs, k, hv10, HI.out, by omega, Nat.le_refl _, Nat.le_refl _, Nat.le_succ _⟩
theorem works_no0 (h : Dka w C bk bx bd vy d zs k) (hC : ∀ i, C i -> i < w.heap.size) (hI : KInv k d zs) (j : Nat) (hj : j < k.ones.length) (hz : j < zs.length) (Dd A B S T ops L old : Value) (hsh : shutX k k.ones[j] = (0, false)) (hst : k.ones[j].stuck = false) (hb : k.bytes <= 1099511627776) (ho : k.ops <= 1099511627776)
   (E : Int) (hE0 : E ≠ 0) (hX : syncX d zs[j].2 = (E, d1, st1)) (hEn : endsB k d1 E 0 true = true) (hok1 : d1.Ok) (hf1 : d1.files.length <= 2) (ht1 : d1.turn <= d.turn + 1) (hF : KInv (diedK k d1) d1 (zs.set j (zs[j].1, st1))) :
   Calls Tryz.prog 108 #[.pointer (some ⟨bk, 0, none⟩), .pointer (some ⟨k.ones[j].b, 0, none⟩), .agg #[.int .i64 17, Dd, A, B, S, T, ops, L, old]] w (Out w C bk bx bd vy d k 0 0) := by
 have hzat := hI.zat j hj hz
 have hok := hI.ok
 obtain ⟨D0, hv0, hD0⟩ := Dv.start h
 have hA : Below w.heap.size w (w.alloc (.cells #[.int .i64 17, Dd, A, B, S, T, ops, L, old] 67)) := (Below.refl _ w).alloc (Nat.le_refl _) _
 have hv1 := hv0.below hA
 have hSy := hv1.sync j hz hok.1
 rw [hX, hzat] at hSy
 simp only at hSy
 obtain ⟨⟨-, o0, -⟩, -⟩ := hv1.cells j hj
 have hDC : ∀ i, D0 i -> i < w.heap.size := fun i s => hC i (hD0 i s)
 have HBO : Hid ((w.alloc (.cells #[.int .i64 17, Dd, A, B, S, T, ops, L, old] 67)).heap[w.heap.size]? = some (.cells #[.int .i64 17, Dd, A, B, S, T, ops, L, old] 67)) := block_new _ _
 have HEN : Hid (endsB k d1 E 0 true = true) := hEn
 rw [hzat] at hF
 have hk2 := diedK_eq k d1
 generalize (diedK k d1).dead = a2 at hk2
 generalize (diedK k d1).armed = b2 at hk2
 rw [hk2] at hF
 have HF : Hid (KInv ({ k with dead := a2, armed := b2 }) d1 (zs.set j (k.ones[j].z, st1))) := hF
 have HOK : Hid (d1.Ok) := hok1
 have HK2 : Hid (diedK k d1 = { k with dead := a2, armed := b2 }) := hk2
 clear h hv0 hv1 hA hX hI hF hEn hk2 hok1
 go_enter Tryz.func108, Tryz.ntmps108
 go_wp2_with (first
   | (go_at_call 14; refine hSy.mono ?_; rintro e w10 ⟨rfl, D10, hg10, hv10, kp10⟩; clear hSy o0; have hSh := shut_any hv10 j hj; rw [hsh] at hSh; obtain ⟨-, -, o6, -⟩ := (hv10.cells j hj).1; rw [hst] at o6; have hEd := ends_any hv10 HOK.out (by omega) hb ho E 0 true; rw [HEN.out, HK2.out] at hEd; have hbo := kp10.at HBO.out (fun s => by have := hDC _ s; omega); have k0 : w10.cell? ⟨w.heap.size, 0, none⟩ = some (.int .i64 17) := cell_block hbo; have hsz := kp10.size; simp only [World.size_alloc] at hsz)
   | (go_at_call 103; refine hSh.mono ?_; rintro e w11 ⟨rfl, rfl⟩; clear hSh)
   | (go_at_call 98; refine hEd.mono ?_; rintro e w12 ⟨rfl, D12, hg12, hv12, kp12⟩; clear hEd o6; replace hv12 : Dv w C w12 D12 bk bx bd vy d1 (zs.set j (k.ones[j].z, st1)) { k with dead := a2, armed := b2 } := hv12; obtain ⟨⟨-, -, s6, sz⟩, -, -, sf, -⟩ := hv12.cells j hj; replace sz : ∀ c, w12.frozen? ⟨k.ones[j].b, c, none⟩ = false := sz; replace sf : ∀ c, 7 <= c -> c <= 12 -> ∃ u, w12.cell? ⟨k.ones[j].b, c, none⟩ = some u := sf; obtain ⟨u8, f8⟩ := sf 8 (by omega) (by omega); obtain ⟨u9, f9⟩ := sf 9 (by omega) (by omega); have z8 := sz 8; have z9 := sz 9; clear sf sz; have n10 : ¬ D10 w.heap.size := (fun s => by rcases hg10 _ s with s | s; (have := hDC _ s; omega); (simp at s; omega)); have k0' : w12.cell? ⟨w.heap.size, 0, none⟩ = some (.int .i64 17) := cell_block (kp12.at hbo n10); clear k0 s6))
 go_ret
 have hvF := (hv12.flag j hj 8 (by omega) (.bool false)).flag j hj 9 (by omega) (.bool false)
 exact ⟨rfl, D12, d1, zs.set j (k.ones[j].z, st1), { k with dead := a2, armed := b2 }, hvF, HF.out, ht1, Nat.le_refl _, Nat.le_refl _, Nat.le_succ _⟩
theorem works_no7 (h : Dka w C bk bx bd vy d zs k) (hC : ∀ i, C i -> i < w.heap.size) (hI : KInv k d zs) (j : Nat) (hj : j < k.ones.length) (hz : j < zs.length) (Dd A B S T ops L old : Value) (hsh : shutX k k.ones[j] = (0, false)) (hst : k.ones[j].stuck = true) (hb : k.bytes <= 1099511627776) (ho : k.ops <= 1099511627776)
   (hX : syncX d zs[j].2 = (7, d1, st1)) (hEn : endsB k d1 7 7 true = true) (hok1 : d1.Ok) (hf1 : d1.files.length <= 2) (ht1 : d1.turn <= d.turn + 1) (hF : KInv (diedK k d1) d1 (zs.set j (zs[j].1, st1))) :
   Calls Tryz.prog 108 #[.pointer (some ⟨bk, 0, none⟩), .pointer (some ⟨k.ones[j].b, 0, none⟩), .agg #[.int .i64 17, Dd, A, B, S, T, ops, L, old]] w (Out w C bk bx bd vy d k 0 0) := by
 have hzat := hI.zat j hj hz
 have hok := hI.ok
 obtain ⟨D0, hv0, hD0⟩ := Dv.start h
 have hA : Below w.heap.size w (w.alloc (.cells #[.int .i64 17, Dd, A, B, S, T, ops, L, old] 67)) := (Below.refl _ w).alloc (Nat.le_refl _) _
 have hv1 := hv0.below hA
 have hSy := hv1.sync j hz hok.1
 rw [hX, hzat] at hSy
 simp only at hSy
 obtain ⟨⟨-, o0, -⟩, -⟩ := hv1.cells j hj
 have hDC : ∀ i, D0 i -> i < w.heap.size := fun i s => hC i (hD0 i s)
 have HBO : Hid ((w.alloc (.cells #[.int .i64 17, Dd, A, B, S, T, ops, L, old] 67)).heap[w.heap.size]? = some (.cells #[.int .i64 17, Dd, A, B, S, T, ops, L, old] 67)) := block_new _ _
 have HEN : Hid (endsB k d1 7 7 true = true) := hEn
 rw [hzat] at hF
 have hk2 := diedK_eq k d1
 generalize (diedK k d1).dead = a2 at hk2
 generalize (diedK k d1).armed = b2 at hk2
 rw [hk2] at hF
 have HF : Hid (KInv ({ k with dead := a2, armed := b2 }) d1 (zs.set j (k.ones[j].z, st1))) := hF
 have HOK : Hid (d1.Ok) := hok1
 have HK2 : Hid (diedK k d1 = { k with dead := a2, armed := b2 }) := hk2
 clear h hv0 hv1 hA hX hI hF hEn hk2 hok1
 go_enter Tryz.func108, Tryz.ntmps108
 go_wp2_with (first
   | (go_at_call 14; refine hSy.mono ?_; rintro e w10 ⟨rfl, D10, hg10, hv10, kp10⟩; clear hSy o0; have hSh := shut_any hv10 j hj; rw [hsh] at hSh; obtain ⟨-, -, o6, -⟩ := (hv10.cells j hj).1; rw [hst] at o6; have hEd := ends_any hv10 HOK.out (by omega) hb ho 7 7 true; rw [HEN.out, HK2.out] at hEd; have hbo := kp10.at HBO.out (fun s => by have := hDC _ s; omega); have k0 : w10.cell? ⟨w.heap.size, 0, none⟩ = some (.int .i64 17) := cell_block hbo; have hsz := kp10.size; simp only [World.size_alloc] at hsz)
   | (go_at_call 103; refine hSh.mono ?_; rintro e w11 ⟨rfl, rfl⟩; clear hSh)
   | (go_at_call 98; refine hEd.mono ?_; rintro e w12 ⟨rfl, D12, hg12, hv12, kp12⟩; clear hEd o6; replace hv12 : Dv w C w12 D12 bk bx bd vy d1 (zs.set j (k.ones[j].z, st1)) { k with dead := a2, armed := b2 } := hv12; obtain ⟨⟨-, -, s6, sz⟩, -, -, sf, -⟩ := hv12.cells j hj; replace sz : ∀ c, w12.frozen? ⟨k.ones[j].b, c, none⟩ = false := sz; replace sf : ∀ c, 7 <= c -> c <= 12 -> ∃ u, w12.cell? ⟨k.ones[j].b, c, none⟩ = some u := sf; obtain ⟨u8, f8⟩ := sf 8 (by omega) (by omega); obtain ⟨u9, f9⟩ := sf 9 (by omega) (by omega); have z8 := sz 8; have z9 := sz 9; clear sf sz; have n10 : ¬ D10 w.heap.size := (fun s => by rcases hg10 _ s with s | s; (have := hDC _ s; omega); (simp at s; omega)); have k0' : w12.cell? ⟨w.heap.size, 0, none⟩ = some (.int .i64 17) := cell_block (kp12.at hbo n10); clear k0 s6))
 go_ret
 have hvF := (hv12.flag j hj 8 (by omega) (.bool false)).flag j hj 9 (by omega) (.bool false)
 exact ⟨rfl, D12, d1, zs.set j (k.ones[j].z, st1), { k with dead := a2, armed := b2 }, hvF, HF.out, ht1, Nat.le_refl _, Nat.le_refl _, Nat.le_succ _⟩
theorem Dv.one_kb (h : Dv w0 C w D bk bx bd vy d zs k) (j : Nat) (hj : j < k.ones.length) : k.ones[j].b ≠ k.kb := by
 obtain ⟨C3, C4, part, vh, vs, h1, h2, h3, h4, h5, h6, h7⟩ := h.dka.ex
 exact fun e => h6.one_ne (List.getElem_mem hj) e.symm
theorem works_ok (h : Dka w C bk bx bd vy d zs k) (hC : ∀ i, C i -> i < w.heap.size) (hI : KInv k d zs) (j : Nat) (hj : j < k.ones.length) (hz : j < zs.length) (Dd A B S T ops L old : Value) (hsh : shutX k k.ones[j] = (0, false)) (hst : k.ones[j].stuck = false) (hb : k.bytes <= 1099511627776) (ho : k.ops <= 1099511627776)
   (hX : syncX d zs[j].2 = (0, d1, st1)) (hEn : endsB k d1 0 0 true = true) (hok1 : d1.Ok) (hf1 : d1.files.length <= 2) (ht1 : d1.turn <= d.turn + 1) (hF : KInv (syncK (diedK k d1) 0) d1 (zs.set j (zs[j].1, st1))) :
   Calls Tryz.prog 108 #[.pointer (some ⟨bk, 0, none⟩), .pointer (some ⟨k.ones[j].b, 0, none⟩), .agg #[.int .i64 17, Dd, A, B, S, T, ops, L, old]] w (Out w C bk bx bd vy d k 0 0) := by
 have hzat := hI.zat j hj hz
 have hok := hI.ok
 obtain ⟨D0, hv0, hD0⟩ := Dv.start h
 have hA : Below w.heap.size w (w.alloc (.cells #[.int .i64 17, Dd, A, B, S, T, ops, L, old] 67)) := (Below.refl _ w).alloc (Nat.le_refl _) _
 have hv1 := hv0.below hA
 have hSy := hv1.sync j hz hok.1
 rw [hX, hzat] at hSy
 simp only at hSy
 obtain ⟨⟨-, o0, -⟩, -⟩ := hv1.cells j hj
 have hDC : ∀ i, D0 i -> i < w.heap.size := fun i s => hC i (hD0 i s)
 have HBO : Hid ((w.alloc (.cells #[.int .i64 17, Dd, A, B, S, T, ops, L, old] 67)).heap[w.heap.size]? = some (.cells #[.int .i64 17, Dd, A, B, S, T, ops, L, old] 67)) := block_new _ _
 have HEN : Hid (endsB k d1 0 0 true = true) := hEn
 rw [hzat] at hF
 have hk2 := diedK_eq k d1
 generalize (diedK k d1).dead = a2 at hk2
 generalize (diedK k d1).armed = b2 at hk2
 rw [hk2] at hF
 have HF : Hid (KInv ({ k with dead := a2, armed := b2, safe := k.h.length }) d1 (zs.set j (k.ones[j].z, st1))) := hF
 have HOK : Hid (d1.Ok) := hok1
 have HK2 : Hid (diedK k d1 = { k with dead := a2, armed := b2 }) := hk2
 clear h hv0 hv1 hA hX hI hF hEn hk2 hok1
 go_enter Tryz.func108, Tryz.ntmps108
 go_wp2_with (first
   | (go_at_call 14; refine hSy.mono ?_; rintro e w10 ⟨rfl, D10, hg10, hv10, kp10⟩; clear hSy o0; have hSh := shut_any hv10 j hj; rw [hsh] at hSh; obtain ⟨-, -, o6, -⟩ := (hv10.cells j hj).1; rw [hst] at o6; have hEd := ends_any hv10 HOK.out (by omega) hb ho 0 0 true; rw [HEN.out, HK2.out] at hEd; have hbo := kp10.at HBO.out (fun s => by have := hDC _ s; omega); have k0 : w10.cell? ⟨w.heap.size, 0, none⟩ = some (.int .i64 17) := cell_block hbo; have hsz := kp10.size; simp only [World.size_alloc] at hsz)
   | (go_at_call 103; refine hSh.mono ?_; rintro e w11 ⟨rfl, rfl⟩; clear hSh)
   | (go_at_call 98; refine hEd.mono ?_; rintro e w12 ⟨rfl, D12, hg12, hv12, kp12⟩; clear hEd o6; replace hv12 : Dv w C w12 D12 bk bx bd vy d1 (zs.set j (k.ones[j].z, st1)) { k with dead := a2, armed := b2 } := hv12; obtain ⟨⟨-, -, s6, sz⟩, -, -, sf, -⟩ := hv12.cells j hj; replace sz : ∀ c, w12.frozen? ⟨k.ones[j].b, c, none⟩ = false := sz; replace sf : ∀ c, 7 <= c -> c <= 12 -> ∃ u, w12.cell? ⟨k.ones[j].b, c, none⟩ = some u := sf; obtain ⟨u8, f8⟩ := sf 8 (by omega) (by omega); obtain ⟨u9, f9⟩ := sf 9 (by omega) (by omega); have z8 := sz 8; have z9 := sz 9; clear sf sz; have n10 : ¬ D10 w.heap.size := (fun s => by rcases hg10 _ s with s | s; (have := hDC _ s; omega); (simp at s; omega)); have k0' : w12.cell? ⟨w.heap.size, 0, none⟩ = some (.int .i64 17) := cell_block (kp12.at hbo n10); clear k0 s6))
 obtain ⟨qh, ch, c1, -, -, -, -, kz, -, hDk, m2⟩ := hv12.hcells
 replace m2 : w12.cell? ⟨bk, 2, none⟩ = some (.pointer (some ⟨k.kb, 0, none⟩)) := m2
 replace c1 : w12.cell? ⟨k.kb, 1, none⟩ = some (.slice qh k.h.length ch) := c1
 obtain ⟨vq2, c2⟩ : ∃ v, w12.cell? ⟨k.kb, 2, none⟩ = some v := by
   obtain ⟨-, -, -, -, -, -, c2, -⟩ := hv12.hcells
   exact ⟨_, c2⟩
 have z2 : w12.drew.frozen? ⟨k.kb, 2, none⟩ = false := kz 2
 have hc : w12.drew.cell? ⟨bk, 2, none⟩ = some (.pointer (some ⟨k.kb, 0, none⟩)) /\ w12.drew.cell? ⟨k.kb, 1, none⟩ = some (.slice qh k.h.length ch) := ⟨m2, c1⟩
 refine wp_region_E (S := fun w' => w'.cell? ⟨bk, 2, none⟩ = some (.pointer (some ⟨k.kb, 0, none⟩)) /\ w'.cell? ⟨k.kb, 1, none⟩ = some (.slice qh k.h.length ch)) mixedT ?_
 refine tp 0 14 bk 0 rfl rfl (fun w' hS => ?_) hc ?_
 . obtain ⟨hS1, hS2⟩ := hS
   go_simp
 refine tp 1 14 bk 0 rfl rfl (fun w' hS => ?_) hc ?_
 . obtain ⟨hS1, hS2⟩ := hS
   go_simp
 refine tp 2 14 bk 2 rfl rfl (fun w' hS => ?_) hc ?_
 . obtain ⟨hS1, hS2⟩ := hS
   go_simp
 refine tp 3 14 k.kb 0 rfl rfl (fun w' hS => ?_) hc ?_
 . obtain ⟨hS1, hS2⟩ := hS
   go_simp
 refine tp 4 14 bk 0 rfl rfl (fun w' hS => ?_) hc ?_
 . obtain ⟨hS1, hS2⟩ := hS
   go_simp
 refine tp 5 14 bk 0 rfl rfl (fun w' hS => ?_) hc ?_
 . obtain ⟨hS1, hS2⟩ := hS
   go_simp
 refine tp 6 14 bk 2 rfl rfl (fun w' hS => ?_) hc ?_
 . obtain ⟨hS1, hS2⟩ := hS
   go_simp
 refine tp 7 14 k.kb 0 rfl rfl (fun w' hS => ?_) hc ?_
 . obtain ⟨hS1, hS2⟩ := hS
   go_simp
 refine tp 8 14 k.kb 0 rfl rfl (fun w' hS => ?_) hc ?_
 . obtain ⟨hS1, hS2⟩ := hS
   go_simp
 refine tp 9 14 k.kb 1 rfl rfl (fun w' hS => ?_) hc ?_
 . obtain ⟨hS1, hS2⟩ := hS
   go_simp
 refine tk 10 14 (.slice qh k.h.length ch) rfl rfl (fun w' hS => ?_) hc ?_
 . obtain ⟨hS1, hS2⟩ := hS
   go_simp
 refine tk 11 14 (.int .i64 k.h.length) rfl rfl (fun w' hS => ?_) hc ?_
 . obtain ⟨hS1, hS2⟩ := hS
   go_simp
 refine wpAnyE_one (i := 12) (by kernel_rfl) rfl (by rfl) (fun K hK => ?_)
 go_simp
 refine hK.out _ _ hc ?_
 clear hK
 refine wpAnyE_one (i := 13) (by kernel_rfl) rfl (by rfl) (fun K hK => ?_)
 go_simp
 refine hK.out _ _ hc ?_
 clear hK
 refine wpAnyE_last (i := 14) (by kernel_rfl) rfl (by rfl) (by kernel_rfl) (by kernel_rfl) (fun K hK => ?_)
 go_simp
 refine hK.out _ _ ?_
 clear hK
 have hvS : Dv w C (w12.setCell ⟨k.kb, 2, none⟩ (.int .i64 k.h.length)).drew D12 bk bx bd vy d1 (zs.set j (k.ones[j].z, st1)) { k with dead := a2, armed := b2, safe := k.h.length } := (hv12.safeAt k.h.length).drew
 have hne : k.ones[j].b ≠ k.kb := hv12.one_kb j hj
 have g8 : (w12.setCell ⟨k.kb, 2, none⟩ (.int .i64 k.h.length)).drew.cell? ⟨k.ones[j].b, 8, none⟩ = some u8 := by
   show (w12.setCell ⟨k.kb, 2, none⟩ (.int .i64 k.h.length)).cell? ⟨k.ones[j].b, 8, none⟩ = _
   rw [World.cell?_of_block (Below.heap_setCell w12 ⟨k.kb, 2, none⟩ _ k.ones[j].b hne)]; exact f8
 have g9 : (w12.setCell ⟨k.kb, 2, none⟩ (.int .i64 k.h.length)).drew.cell? ⟨k.ones[j].b, 9, none⟩ = some u9 := by
   show (w12.setCell ⟨k.kb, 2, none⟩ (.int .i64 k.h.length)).cell? ⟨k.ones[j].b, 9, none⟩ = _
   rw [World.cell?_of_block (Below.heap_setCell w12 ⟨k.kb, 2, none⟩ _ k.ones[j].b hne)]; exact f9
 obtain ⟨⟨-, -, -, sz⟩, -⟩ := hvS.cells j hj
 replace sz : ∀ c, (w12.setCell ⟨k.kb, 2, none⟩ (.int .i64 k.h.length)).drew.frozen? ⟨k.ones[j].b, c, none⟩ = false := sz
 have y8 := sz 8
 have y9 := sz 9
 clear f8 f9 z8 z9 sz hc c1 c2 m2 kz hv12
 generalize (w12.setCell ⟨k.kb, 2, none⟩ (.int .i64 k.h.length)).drew = w13 at *
 go_wp2
 go_ret
 have hvF := (hvS.flag j hj 8 (by omega) (.bool false)).flag j hj 9 (by omega) (.bool false)
 exact ⟨rfl, D12, d1, zs.set j (k.ones[j].z, st1), { k with dead := a2, armed := b2, safe := k.h.length }, hvF, HF.out, ht1, Nat.le_refl _, Nat.le_refl _, Nat.le_succ _⟩
theorem works_any (h : Dka w C bk bx bd vy d zs k) (hC : ∀ i, C i -> i < w.heap.size) (hI : KInv k d zs) (j : Nat) (hj : j < k.ones.length) (hz : j < zs.length) (Dd A B S T ops L old : Value) (hb : k.bytes <= 1099511627776) (ho : k.ops <= 1099511627776) :
   Calls Tryz.prog 108 #[.pointer (some ⟨bk, 0, none⟩), .pointer (some ⟨k.ones[j].b, 0, none⟩), .agg #[.int .i64 17, Dd, A, B, S, T, ops, L, old]] w (Out w C bk bx bd vy d k 0 0) := by
 rcases shut_cases k k.ones[j] with ⟨R, e⟩ | e
 . exact works_shut h hI j hj hz Dd A B S T ops L old R e
 obtain ⟨hop, hkd⟩ := shut_open e
 have hal : d.dead = false := by rw [<- hI.dead]; exact hkd
 obtain ⟨q1, q2, q3, q4, q5⟩ := hI.open' j hj hz hop
 have hok := hI.ok
 have hrd : ready d.turn d.dead zs[j].2 = 0 := by unfold ready; rw [if_neg (by simp [q2]), hal]; rfl
 cases hst : k.ones[j].stuck
 . obtain ⟨a, c⟩ := hI.sync j hj hz hop hal hst
   have ht := (liv_syncX hok.1 zs[j].2).turn
   have hko := c.ok
   rcases hX : syncX d zs[j].2 with ⟨E, d1, st1⟩
   rw [hX] at a c ht hko
   simp only at a c ht hko
   by_cases hE : E = 0
   . subst hE
     exact works_ok h hC hI j hj hz Dd A B S T ops L old e hst hb ho hX a hko.1 hko.2 (by omega) c
   . have e2 : syncK (diedK k d1) E = diedK k d1 := by simp [syncK, hE]
     rw [e2] at c
     exact works_no0 h hC hI j hj hz Dd A B S T ops L old e hst hb ho E hE hX a hko.1 hko.2 (by omega) c
 . have hwr : writable d.turn d.dead zs[j].2 = 7 := by unfold writable; rw [hrd, q4, hst]; rfl
   have hx : syncX d zs[j].2 = (7, d, zs[j].2) := by simp [syncX, hwr]
   obtain ⟨e1, e2⟩ := hI.alive hal
   refine works_no7 h hC hI j hj hz Dd A B S T ops L old e hst hb ho hx (by unfold endsB; rw [e2]; simp) hok.1 hok.2 (by omega) ?_
   rw [e1, show zs.set j (zs[j].1, zs[j].2) = zs from List.set_getElem_self ..]
   exact hI
end
section
variable {w : World} {C : Nat -> Prop} {bk bx bd : Nat} {vy : Value} {d : Dk} {zs : List (Nat × St)} {k : Kno}
theorem diedK_ones (k : Kno) (d : Dk) : (diedK k d).ones = k.ones /\ (diedK k d).h = k.h /\ (diedK k d).crashed = k.crashed /\ (diedK k d).safe = k.safe := by
 unfold diedK
 split
 . exact ⟨rfl, rfl, rfl, rfl⟩
 . split <;> exact ⟨rfl, rfl, rfl, rfl⟩
theorem open_noK (h : Dka w C bk bx bd vy d zs k) (hC : ∀ i, C i -> i < w.heap.size) (hI : KInv k d zs) (hn : k.ones.length <= 4194000) (ht : d.turn <= 4611686018427387904) (hb : k.bytes <= 2097152) (ho : k.ops <= 1048576) (Dd Bv S T ops L old : Value) (A : Int) (hA0 : 0 <= A) (hA2 : A <= 2) (hne : (openX d).1 ≠ 0) :
   Calls Tryz.prog 63 #[.pointer (some ⟨bk, 0, none⟩), .agg #[.int .i64 11, Dd, .int .i64 A, Bv, S, T, ops, L, old]] w (Out w C bk bx bd vy d k 0 0) := by
 have hok := hI.ok
 have htn := openX_turn hok.1
 obtain ⟨hen, hF⟩ := hI.openNo hne
 have hokF := hF.ok
 have HF : Hid (KInv (diedK (closeK k) (openX d).2.1) (openX d).2.1 zs) := hF
 have HEN : Hid (endsB (closeK k) (openX d).2.1 (openX d).1 0 true = true) := hen
 have HOKF : Hid ((openX d).2.1.Ok /\ (openX d).2.1.files.length <= 2) := hokF
 clear hF hen hokF
 obtain ⟨D0, hv0, hD0⟩ := Dv.start h
 have hDC : ∀ i, D0 i -> i < w.heap.size := fun i s => hC i (hD0 i s)
 obtain ⟨w1, hw1⟩ : ∃ w1, w1 = w.alloc (.cells #[.int .i64 11, Dd, .int .i64 A, Bv, S, T, ops, L, old] 67) := ⟨_, rfl⟩
 have hB : Below w.heap.size w w1 := by rw [hw1]; exact (Below.refl _ w).alloc (Nat.le_refl _) _
 have hsz1 : w1.heap.size = w.heap.size + 1 := by rw [hw1]; simp
 have hv1 := (hv0.below hB).drew
 have hOp := hv1.open A hok.1 (by omega) hI.turn0 ht hA0 hA2
 obtain ⟨m0, m1, m2, -, -⟩ := hv1.dcells
 have HBO : Hid (w1.drew.heap[w.heap.size]? = some (.cells #[.int .i64 11, Dd, .int .i64 A, Bv, S, T, ops, L, old] 67)) := by rw [hw1]; exact block_new w _
 have o2 : w1.drew.cell? ⟨w.heap.size, 2, none⟩ = some (.int .i64 A) := cell_block HBO.out
 have HW : Hid (w1 = w.alloc (.cells #[.int .i64 11, Dd, .int .i64 A, Bv, S, T, ops, L, old] 67)) := hw1
 have HI : Hid (KInv k d zs) := hI
 replace m2 : w1.cell? ⟨bk, 2, none⟩ = some (.pointer (some ⟨k.kb, 0, none⟩)) := m2
 rw [hw1] at m2
 clear h hv0 hB hw1 hI hv1 m1
 go_enter Tryz.func63, Tryz.ntmps63
 go_wp2
 rw [HW.out.symm]
 clear m2 HW
 have hc : w1.drew.cell? ⟨bk, 0, none⟩ = some (.pointer (some ⟨bx, 0, none⟩)) /\ w1.drew.cell? ⟨w.heap.size, 2, none⟩ = some (.int .i64 A) := ⟨m0, o2⟩
 refine wp_region_E (S := fun w' => w'.cell? ⟨bk, 0, none⟩ = some (.pointer (some ⟨bx, 0, none⟩)) /\ w'.cell? ⟨w.heap.size, 2, none⟩ = some (.int .i64 A)) mixedT ?_
 refine tp 0 10 bk 0 rfl rfl (fun w' hS => ?_) hc ?_
 . obtain ⟨hS1, hS2⟩ := hS
   go_simp
 refine tp 1 10 bk 0 rfl rfl (fun w' hS => ?_) hc ?_
 . obtain ⟨hS1, hS2⟩ := hS
   go_simp
 refine tp 2 10 bk 0 rfl rfl (fun w' hS => ?_) hc ?_
 . obtain ⟨hS1, hS2⟩ := hS
   go_simp
 refine tp 3 10 bx 0 rfl rfl (fun w' hS => ?_) hc ?_
 . obtain ⟨hS1, hS2⟩ := hS
   go_simp
 refine tp 4 10 w.heap.size 2 rfl rfl (fun w' hS => ?_) hc ?_
 . obtain ⟨hS1, hS2⟩ := hS
   go_simp
 refine tk 5 10 (.int .i64 A) rfl rfl (fun w' hS => ?_) hc ?_
 . obtain ⟨hS1, hS2⟩ := hS
   go_simp
 refine wpAnyE_one (i := 6) (by kernel_rfl) rfl (by rfl) (fun K hK => ?_)
 go_simp
 refine hOp.mono ?_
 clear hOp m0 o2
 intro e w2 hpost
 obtain ⟨rfl, D2, hg2, hv2, kp2⟩ := hpost.2 hne
 have hbo2 := kp2.at HBO.out (fun s => by have := hDC _ s; omega)
 have hsz2 := kp2.size
 replace hsz2 : w1.heap.size <= w2.heap.size := hsz2
 obtain ⟨m0, -, m2, -, -⟩ := hv2.dcells
 have o2 : w2.cell? ⟨w.heap.size, 2, none⟩ = some (.int .i64 A) := cell_block hbo2
 clear hc
 have hc : w2.cell? ⟨bk, 0, none⟩ = some (.pointer (some ⟨bx, 0, none⟩)) /\ w2.cell? ⟨w.heap.size, 2, none⟩ = some (.int .i64 A) := ⟨m0, o2⟩
 refine hK.out _ _ hc ?_
 clear hK
 refine wpAnyE_one (i := 7) (by kernel_rfl) rfl (by rfl) (fun K hK => ?_)
 go_simp
 refine hK.out _ _ hc ?_
 clear hK
 refine tk 8 10 (.pointer none) rfl rfl (fun w' hS => ?_) hc ?_
 . obtain ⟨hS1, hS2⟩ := hS
   go_simp
 refine tk 9 11 (.int .i64 (openX d).1) rfl rfl (fun w' hS => ?_) hc ?_
 . obtain ⟨hS1, hS2⟩ := hS
   go_simp
 refine wpAnyE_one (i := 10) (by kernel_rfl) rfl (by rfl) (fun K hK => ?_)
 go_simp
 refine hK.out _ _ hc ?_
 clear hK
 refine wpAnyE_last (i := 11) (by kernel_rfl) rfl (by rfl) (by kernel_rfl) (by kernel_rfl) (fun K hK => ?_)
 go_simp
 refine hK.out _ _ ?_
 clear hK
 have hn2 : ∀ i, D2 i -> i ≠ w.heap.size := fun i s e => by
   rcases hg2 _ s with s | s
   . have := hDC _ s; omega
   . replace s : w1.heap.size <= i := s
     omega
 have hCl := hv2.close (by omega)
 generalize hE : (openX d).1 = E at *
 have hE1 : (E == 0) = false := by simpa using hne
 have hE2 : (E != 0) = true := by simpa using hne
 have hE3 : decide (E = 0) = false := by simpa using hne
 clear hpost
 go_wp2_with (first
   | (go_at_call 97; refine hCl.mono ?_; rintro e w3 ⟨rfl, D3, hg3, hv3, kp3⟩; clear hCl; have hbo3 := kp3.at hbo2 (fun s => hn2 _ s rfl); have o2' : w3.cell? ⟨w.heap.size, 2, none⟩ = some (.int .i64 A) := cell_block hbo3; have hEd := ends_any hv3 HOKF.out.1 (by have := HOKF.out.2; omega) (by show k.bytes <= _; omega) (by show k.ops <= _; omega) E 0 true; rw [HEN.out] at hEd; clear o2 m0 m2)
   | (go_at_call 98; refine hEd.mono ?_; rintro e w4 ⟨rfl, D4, hg4, hv4, kp4⟩; clear hEd))
 go_ret
 exact ⟨rfl, D4, (openX d).2.1, zs, diedK (closeK k) (openX d).2.1, hv4, HF.out, by omega, by rw [(diedK_same _ _).2.1]; exact Nat.le_refl _, by rw [(diedK_same _ _).2.2.1]; exact Nat.le_refl _, by rw [(diedK_ones _ _).1]; simp [closeK]⟩
end
theorem Tryz.info150 : (Tryz.prog.info? 150).map (fun i => (i.zero, i.size, i.bytes)) = some (some (.pointer none), 1, 8) := by kernel_rfl
section
variable {w0 w : World} {C D : Nat -> Prop} {bk bx bd : Nat} {vy : Value} {d : Dk} {zs : List (Nat × St)} {k : Kno} {os : List One} {o : One}
theorem Dv.lastCells (h : Dv w0 C w D bk bx bd vy d zs k) (e : k.ones = os ++ [o]) : (∀ c, w.frozen? ⟨o.b, c, none⟩ = false) /\ (∃ v, w.cell? ⟨o.b, 2, none⟩ = some v) /\ D o.b /\ o.b ≠ k.kb := by
 have hj : os.length < k.ones.length := by rw [e]; simp
 have hb : k.ones[os.length] = o := by simp [e]
 obtain ⟨⟨-, -, -, hz⟩, -, ⟨q, c, h2, -⟩, -, -, hD, -⟩ := h.cells os.length hj
 have hne := h.one_kb os.length hj
 rw [hb] at hz h2 hD hne
 exact ⟨hz, ⟨_, h2⟩, hD, hne⟩
theorem Dv.lastMap (h : Dv w0 C w D bk bx bd vy d zs k) (e : k.ones = os ++ [o]) {v : Value} {m : Mp} (hv : OwnP w 0 v m) (hn : ∀ g, v.ownBlock = some g -> ¬ D g /\ w0.heap.size <= g) :
   Dv w0 C (w.setCell ⟨o.b, 2, none⟩ v) (fun i => D i \/ v.ownBlock = some i) bk bx bd vy d zs { k with ones := os ++ [{ o with l := m }] } := by
 have hj : os.length < k.ones.length := by rw [e]; simp
 have hb : k.ones[os.length] = o := by simp [e]
 have h1 := h.mapAt os.length hj hv hn
 rw [hb] at h1
 have e2 : k.ones.set os.length { o with l := m } = os ++ [{ o with l := m }] := by rw [e]; simp
 rw [e2] at h1
 exact h1
theorem Dv.srow (h : Dv w0 C w D bk bx bd vy d zs k) : ∃ q c, w.cell? ⟨k.kb, 8, none⟩ = some (.slice q k.ones.length c) /\ w.frozen? ⟨k.kb, 8, none⟩ = false /\ w.ownsRow 0 150 1 (.slice q k.ones.length c) k.ones.length (k.ones.map fun o => ptrB o.b) /\ (∀ g, (Value.slice q k.ones.length c).ownBlock = some g -> g ≠ k.kb) /\ ∀ j (hj : j < k.ones.length), ∃ g, q = some ⟨g, 0, none⟩ /\ w.cell? ⟨g, j, none⟩ = some (.pointer (some ⟨k.ones[j].b, 0, none⟩)) := by
 obtain ⟨C3, C4, part, vh, vs, h1, h2, h3, h4, h5, h6, h7⟩ := h.dka.ex
 obtain ⟨⟨-, -, -, -, -, -, -, -, c8⟩, kz⟩ := kcells h6.blk
 have hr := h6.rows
 obtain ⟨q, c, rfl, -, -, -, hc⟩ := row1 hr
 refine ⟨q, c, c8, kz 8, hr, fun g hg => row_ne h6.blk hr hg (by decide), fun j hj => ?_⟩
 obtain ⟨g, rfl, -, h9⟩ := hc j (by simpa using hj)
 refine ⟨g, rfl, ?_⟩
 rw [h9, List.getElem_map]
 rfl
theorem Dv.appCell {w5 : World} (h : Dv w0 C w D bk bx bd vy d zs k) {q : Option Addr} {c n : Nat} {vs' : Value} {xs xs' : List Value} (c1 : w.cell? ⟨k.kb, 8, none⟩ = some (.slice q k.ones.length c)) (hA : AppR w w5 150 1 (.slice q k.ones.length c) k.ones.length xs vs' n xs') :
   w5.cell? ⟨k.kb, 8, none⟩ = some (.slice q k.ones.length c) /\ w5.frozen? ⟨k.kb, 8, none⟩ = false := by
 obtain ⟨C3, C4, part, vh, vs, h1, h2, h3, h4, h5, h6, h7⟩ := h.dka.ex
 obtain ⟨⟨-, -, -, -, -, -, -, -, c8⟩, -⟩ := kcells h6.blk
 rw [c1] at c8
 cases c8
 have hb := hA.kp.at h6.blk (fun e => row_ne h6.blk h6.rows e (by decide) rfl)
 exact ⟨cell_block hb, frozen_block hb⟩
theorem cell_off (w : World) (b i j : Nat) (u : Value) (hij : i ≠ j) : (w.setCell ⟨b, i, none⟩ u).cell? ⟨b, j, none⟩ = w.cell? ⟨b, j, none⟩ := by
 simp only [World.cell?, World.setCell, Array.getElem?_modify]
 cases hb : w.heap[b]? with
 | none => simp
 | some o =>
   cases o <;> simp [hij]
theorem Dv.setCells {v : Value} {b : Nat} (h : Dv w0 C (w.setCell ⟨b, 8, none⟩ v) D bk bx bd vy d zs k) (hb : b = k.kb) : ∃ qh ch, w.cell? ⟨b, 1, none⟩ = some (.slice qh k.h.length ch) /\ Hpp (w.setCell ⟨b, 8, none⟩ v) qh k.h /\ w.cell? ⟨b, 3, none⟩ = some (.bool k.crashed) := by
 subst hb
 obtain ⟨q, c, c1, hpp, -, -, -, -, c3, -, -⟩ := h.hcells
 rw [cell_off _ _ _ _ _ (by decide)] at c1 c3
 exact ⟨q, c, c1, hpp, c3⟩
end
end Go.Proofs.YtfghgmojnffgnaaGreat
