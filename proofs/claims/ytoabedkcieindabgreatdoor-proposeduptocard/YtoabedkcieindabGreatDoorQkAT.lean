import Derived.Test.YtoabedkcieindabGreatDoorQkAS
import Derived.Test.YtoabedkcieindabGreatDoorQkAA
import Derived.Deep.RegionHeld3
import Derived.Deep.DrawnRows
namespace Go.Proofs.YtoabedkcieindabGreatDoor
open Go.RowKit Go.Maps Go.Sort Go.Shelf
theorem writtenF_same : ∀ (ts : List Tb) (nx : Nat) (d : Dk), (writtenF nx ts d).1 = 0 → (writtenF nx ts d).2.2.2.map (fun t => (t.level, t.es)) = ts.map (fun t => (t.level, t.es))
  | [], _, _, _ => rfl
  | t :: r, nx, d, h => by
    rw [writtenF] at h ⊢
    by_cases hp : 0 < t.number
    · rw [if_pos hp] at h ⊢
      simp only [List.map_cons]
      rw [writtenF_same r nx d h]
    · rw [if_neg hp] at h ⊢
      by_cases hy : (lwrite d (tbN nx) (encLay (t.es.map (·.op)))).1 = 0
      · simp only [hy, ne_eq, not_true, if_false] at h ⊢
        simp only [List.map_cons]
        rw [writtenF_same r (nx + 1) _ h]
      · simp only [ne_eq, hy, not_false_eq_true, if_true] at h
theorem written_each {l l2 : List Tr} {ts : List Tb} (h1 : l.map (·.1) = ts) (h2 : l.map (·.2) = l2.map (·.2)) (h3 : ts.map (fun t => (t.level, t.es)) = l2.map (fun x => (x.1.level, x.1.es))) : ∀ x ∈ l, ∃ y ∈ l2, y.1.es = x.1.es ∧ y.1.level = x.1.level ∧ y.2 = x.2 := by
  intro x hx
  obtain ⟨i, hi, rfl⟩ := List.getElem_of_mem hx
  have hl : l.length = l2.length := by simpa using congrArg List.length h2
  have e2 : l[i].2 = l2[i].2 := by
    have := congrArg (fun z => z[i]?) h2
    simpa [List.getElem?_map, List.getElem?_eq_getElem hi, List.getElem?_eq_getElem (show i < l2.length by omega)] using this
  rw [← h1, List.map_map] at h3
  have e3 : (l[i].1.level, l[i].1.es) = (l2[i].1.level, l2[i].1.es) := by
    have := congrArg (fun z => z[i]?) h3
    simpa [List.getElem?_map, List.getElem?_eq_getElem hi, List.getElem?_eq_getElem (show i < l2.length by omega)] using this
  simp only [Prod.mk.injEq] at e3
  exact ⟨l2[i], List.getElem_mem _, e3.2.symm, e3.1.symm, e2.symm⟩
theorem encMan_len (m : Man) : (encMan m).length ≤ 20 + m.tabs.length * 16 := by
  have : (m.tabs.flatMap encPl).length = m.tabs.length * 16 := by
    induction m.tabs with
    | nil => rfl
    | cons p r ih => rw [List.flatMap_cons, List.length_append, ih]; simp [encPl, be8_len]; omega
  simp [encMan, sealT, be4_len, be8_len, this]
  omega
theorem LsAt.turn {w5 w7 : World} {E F : Nat → Prop} {T bd bm bsn : Nat} {s s1 : Sl} {l l1 : List Tr} {st st' : Ls} (hL : LsAt w5 E T bd bm bsn s l st) (k : Kp (fun i => i = T ∨ i = bm) w5 w7) (hb : w7.heap[T]? = some (lsC bd bm bsn s1 st')) (hm : MemAt w7 E bm st'.mem) (hs : st'.snaps = st.snaps) (h1 : TrAt w5 s1 l1) (h2 : TrEs w5 l1) (his : l1.map (·.1) = st'.tabs)
    (hI : ∀ a, s1.1 = some a → F a.block) (hE1 : ∀ x ∈ l1, ∀ a, x.2.1 = some a → E a.block) (nF : ¬ F T ∧ ¬ F bm ∧ ¬ F bsn) (bF : ∀ k, F k → k < w5.heap.size) : LsAt w7 (fun k => E k ∨ F k) T bd bm bsn s1 l1 st' := by
  have hTn : T ≠ bsn := hL.snp.ne hL.blk
  have nb : ∀ k, (E k ∨ F k) → ¬ (k = T ∨ k = bm) := by
    rintro k (h | h) (rfl | rfl)
    · exact hL.nE.1 h
    · exact hL.nE.2.1 h
    · exact nF.1 h
    · exact nF.2.1 h
  refine ⟨hb, hm.mono (fun _ h => .inl h), (by rw [hs]; exact hL.snp.kept k (by rintro (h | h); exact hTn h.symm; exact hL.ne h.symm)), (by rw [hs]; exact hL.sn0), h1.kept k (fun a ha _ => nb _ (.inr (hI a ha))), h2.kept k (fun x hx a ha => nb _ (.inl (hE1 x hx a ha))), his, fun a ha => .inr (hI a ha), fun x hx a ha => .inl (hE1 x hx a ha), hL.ne, ⟨?_, ?_, ?_⟩, fun i hi => Nat.lt_of_lt_of_le (hi.elim (hL.bnd i) (bF i)) k.size⟩
  · rintro (h | h); exact hL.nE.1 h; exact nF.1 h
  · rintro (h | h); exact hL.nE.2.1 h; exact nF.2.1 h
  · rintro (h | h); exact hL.nE.2.2 h; exact nF.2.2 h
theorem CmPost.of {w w5 w6 : World} {S E S5 E5 : Nat → Prop} {T bd bm bsn : Nat} {s5 : Sl} {l5 : List Tr} {r : Int × Dk × Ls} (hL5 : LsAt w5 E5 T bd bm bsn s5 l5 r.2.2) (hz : w.heap.size ≤ w5.heap.size) (hS5 : ∀ k, S5 k → Nw S w k) (hE5 : ∀ k, E5 k → Nw E w k) (hd : ∀ k, E5 k → ¬ S5 k) (nT : ¬ S5 T) (nm : ¬ S5 bm) (nn : ¬ S5 bsn)
    (hP6 : ProgAt w6 (Nw (fun k => S5 k ∧ k < w5.heap.size) w5) bd r.2.1) (k6 : Kp (fun k => S5 k ∧ k < w5.heap.size) w5 w6) : CmPost w w6 S E T bd bm bsn r := by
  have hT := lt_of_block hL5.blk
  have hm := hL5.mem.lt
  have hn := hL5.snp.lt
  refine ⟨_, E5, s5, l5, fun k hk => hk.elim (fun h => hS5 k h.1) (fun h => .inr (Nat.le_trans hz h)), hE5, fun k hk h => h.elim (fun h => hd k hk h.1) (fun h => by have := hL5.bnd k hk; omega), fun h => h.elim (fun h => nT h.1) (fun h => by omega), fun h => h.elim (fun h => nm h.1) (fun h => by omega), fun h => h.elim (fun h => nn h.1) (fun h => by omega), hP6, hL5.kept k6 (fun h => nT h.1) (fun h => nm h.1) (fun h => nn h.1) (fun k hk h => hd k hk h.1)⟩
set_option maxHeartbeats 400000 in
set_option maxRecDepth 20000 in
theorem commit_good (T bd bm bsn : Nat) (s s2 : Sl) (l l2 : List Tr) (st : Ls) (d : Dk) (S E : Nat → Prop) (log : Nat) (w : World) (hL : LsAt w E T bd bm bsn s l st) (h2 : TrAt w s2 l2) (he2 : TrEs w l2) (hE2 : ∀ x ∈ l2, ∀ a, x.2.1 = some a → E a.block)
    (hP : ProgAt w S bd d) (hok : d.Ok) (hfl : d.files.length ≤ 100000) (hST : ¬ S T) (hSm : ¬ S bm) (hSn : ¬ S bsn) (hSE : ∀ k, E k → ¬ S k) (hnx : st.next ≤ 1000000000000) (hlg : st.log ≤ 1000000) (hlog : log ≤ 1000001) (hl : l.length ≤ 1000) (hl2 : l2.length ≤ 1000)
    (hnum : ∀ x ∈ l, x.1.number ≤ 1000000000000) (hnum2 : ∀ x ∈ l2, x.1.number ≤ 1000000000000 ∧ x.1.level ≤ 1000000) (hes : ∀ x ∈ l2, LyOk x.1.es ∧ x.1.es ≠ [] ∧ x.1.es.length ≤ 500)
    (hx1 : (writtenF st.next (l2.map (·.1)) d).1 = 0) (hA2 : Swp (lreplace (writtenF st.next (l2.map (·.1)) d).2.1 manN (encMan (manOf (writtenF st.next (l2.map (·.1)) d).2.2.1 log (writtenF st.next (l2.map (·.1)) d).2.2.2))).2) :
    Calls Tryz.prog 71 #[.pointer (some ⟨T, 0, none⟩), slV s2, .int .i64 log] w fun e w' => e = .returned (.int .i64 (commitX d st (l2.map (·.1)) log).1) ∧ CmPost w w' S E T bd bm bsn (commitX d st (l2.map (·.1)) log) ∧ Kp (fun k => S k ∨ k = T ∨ k = bm) w w' := by
  have hWn := written_any T bd st.next s2 l2 d S w (hL.cell 0) (hL.cell 5) hST h2 he2 (fun x hx a ha _ => hSE _ (hE2 x hx a ha)) hP hok (by omega) (by omega) (fun x hx => by have := hnum2 x hx; omega) hl2 hes
  have hTl := lt_of_block hL.blk
  have hbm := hL.mem.lt
  have hbn := hL.snp.lt
  obtain ⟨wo1, wo2, wo3, wo4⟩ := writtenF_dk (l2.map (·.1)) st.next d hok
  have hsame := writtenF_same (l2.map (·.1)) st.next d hx1
  rw [List.map_map] at hsame
  obtain ⟨X, hX⟩ : ∃ X, writtenF st.next (l2.map (·.1)) d = X := ⟨_, rfl⟩
  rw [hX] at hWn hA2 hx1 wo1 wo2 wo3 wo4 hsame
  rw [List.length_map] at wo2 wo3 wo4
  rw [hx1] at hWn
  have after : ∀ (w1 : World) (v1 : Value) (l1 : List Tr), ProgAt w1 (fun k => Nw S w k ∧ v1.ownBlock ≠ some k) bd X.2.1 → Kp S w w1 → OwnT w1 w.heap.size v1 l1 → l1.map (·.1) = X.2.2.2 → l1.map (·.2) = l2.map (·.2) →
      ∃ s1 : Sl, v1 = slV s1 ∧ TrAt w1 s1 l1 ∧ TrEs w1 l1 ∧ l1.length = l2.length ∧ (∀ x ∈ l1, ∀ a, x.2.1 = some a → E a.block) ∧ (∀ x ∈ l1, x.1.number ≤ 2000000000000 ∧ x.1.level ≤ 1000000) ∧ (∀ a, s1.1 = some a → v1.ownBlock = some a.block ∧ w.heap.size ≤ a.block ∧ a.block < w1.heap.size) := fun w1 v1 l1 hP1 k1 ho h1 h2' => by
    have hea := written_each h1 h2' hsame
    obtain ⟨s1, hv, hat, hab⟩ := OwnR.trAt ho
    refine ⟨s1, hv, hat, fun x hx => ?_, by simpa using congrArg List.length h2', fun x hx a ha => ?_, fun x hx => ?_, fun a ha => ⟨?_, hab a ha⟩⟩
    · obtain ⟨y, hy, e1, _, e3⟩ := hea x hx
      rw [← e1, ← e3]
      exact (he2 y hy).kept k1 (fun a ha _ => hSE _ (hE2 y hy a ha))
    · obtain ⟨y, hy, _, _, e3⟩ := hea x hx
      exact hE2 y hy a (by rw [e3]; exact ha)
    · obtain ⟨y, hy, _, e2, _⟩ := hea x hx
      refine ⟨?_, by rw [← e2]; exact (hnum2 y hy).2⟩
      rcases wo4 x.1 (by rw [← h1]; exact List.mem_map.2 ⟨x, hx, rfl⟩) with h | ⟨t', ht, e⟩
      · omega
      · obtain ⟨z, hz, rfl⟩ := List.mem_map.1 ht
        have := (hnum2 z hz).1; omega
    · rw [hv]
      obtain ⟨g, off, rfl⟩ := hat.pl a ha
      simp [slV, ha, Value.ownBlock]
  have hmlen := encMan_len (manOf X.2.2.1 log X.2.2.2)
  obtain ⟨Y, hY⟩ : ∃ Y, lreplace X.2.1 manN (encMan (manOf X.2.2.1 log X.2.2.2)) = Y := ⟨_, rfl⟩
  rw [hY] at hA2
  have HC : Hid (commitX d st (l2.map (·.1)) log = if Y.1 ≠ 0 then (Y.1, (sweepX st Y.2).2, st) else (0, (sweepX (st.turned X.2.2.2 X.2.2.1 log) Y.2).2, st.turned X.2.2.2 X.2.2.1 log)) := by
    show _ = _
    unfold commitX
    simp only [hX, hx1, ne_eq, not_true, if_false, hY]
  have hRp := fun (W : World) (S1 : Nat → Prop) (h0 : W.cell? ⟨T, 0, none⟩ = some (.pointer (some ⟨bd, 0, none⟩))) (hT : ¬ S1 T) (hP1 : ProgAt W S1 bd X.2.1) (hml : (manOf X.2.2.1 log X.2.2.2).tabs.length ≤ 1000) =>
    replace_any T bd X.2.1 S1 manN (encMan (manOf X.2.2.1 log X.2.2.2)) W h0 hT hP1 wo1 (by omega) (by decide) (by omega)
  rw [hY] at hRp
  have hms : str manN = .string ⟨#[109, 97, 110, 105, 102, 101, 115, 116]⟩ := rfl
  rw [hms] at hRp
  clear hms hY hX hsame
  have hME := fun (W : World) (q : Option Addr) (c : Nat) (hp : Plp W q (manOf X.2.2.1 log X.2.2.2).tabs) (hml : (manOf X.2.2.1 log X.2.2.2).tabs.length ≤ 1000) (h3 : ∀ p ∈ (manOf X.2.2.1 log X.2.2.2).tabs, p.number < 9223372036854775808 ∧ p.level < 9223372036854775808) =>
    manEncode_any q c (manOf X.2.2.1 log X.2.2.2) W hp (by omega) (by show X.2.2.1 < _; omega) (by show log < _; omega) h3
  obtain ⟨TX, hTX⟩ : ∃ TX, encMan (manOf X.2.2.1 log X.2.2.2) = TX := ⟨_, rfl⟩
  rw [hTX] at hRp hME
  clear hTX hmlen
  have enc3 : ∀ (w1 w2 : World) (l1 : List Tr) (q2 : Option Addr) (c2 : Nat), l1.map (·.1) = X.2.2.2 → (∀ x ∈ l1, x.1.number ≤ 2000000000000 ∧ x.1.level ≤ 1000000) → l1.length ≤ 1000 → Plp w2 q2 ((l1.map (·.1)).map plOf) →
      (Calls Tryz.prog 130 #[.agg #[.int .i64 X.2.2.1, .int .i64 log, .slice q2 l1.length c2]] (w2.alloc (.cells #[.int .i64 X.2.2.1, .int .i64 log, .slice q2 l1.length c2] 183)) fun e w' => e = .returned (str TX) ∧ Below (w2.alloc (.cells #[.int .i64 X.2.2.1, .int .i64 log, .slice q2 l1.length c2] 183)).heap.size (w2.alloc (.cells #[.int .i64 X.2.2.1, .int .i64 log, .slice q2 l1.length c2] 183)) w') ∧ (manOf X.2.2.1 log X.2.2.2).tabs.length ≤ 1000 := fun w1 w2 l1 q2 c2 e1 hnu hll hp => by
    have hmt : (manOf X.2.2.1 log X.2.2.2).tabs = (l1.map (·.1)).map plOf := by show List.map _ X.2.2.2 = _; rw [← e1]; rfl
    have hmtl : (manOf X.2.2.1 log X.2.2.2).tabs.length = l1.length := by rw [hmt]; simp
    have := hME (w2.alloc (.cells #[.int .i64 X.2.2.1, .int .i64 log, .slice q2 l1.length c2] 183)) q2 c2 (by rw [hmt]; exact hp.below ((Below.refl _ _).alloc (Nat.le_refl _) _)) (by omega) (fun p hp => by
      rw [hmt] at hp
      obtain ⟨t, ht, rfl⟩ := List.mem_map.1 hp
      obtain ⟨x, hx, rfl⟩ := List.mem_map.1 ht
      have := hnu x hx
      exact ⟨by show x.1.number < _; omega, by show x.1.level < _; omega⟩)
    rw [hmtl] at this
    exact ⟨this, by omega⟩
  clear hx1 hME
  by_cases hy : Y.1 = 0
  · rw [if_neg (by simp [hy])] at HC
    rw [hy] at hRp
    by_cases hlo : log = st.log
    · subst hlo
      go_enter_defers Tryz.func71, Tryz.ntmps71
      go_wp2_with (first
    | (go_at_call 127; refine hWn.mono ?_; rintro e w1 ⟨v1, n1, rfl, hP1, k1, hs1⟩; obtain ⟨hn1, l1, ho1, e1, e2⟩ := hs1 rfl; subst hn1; obtain ⟨⟨sa, sn, sc⟩, hv1, hat1, hes1, hlen1, hE1, hnu1, hbl1⟩ := after w1 v1 l1 hP1 k1 ho1 e1 e2; subst hv1; have hsn : sn = l1.length := hat1.len; subst hsn; have hslv : slV (sa, l1.length, sc) = Value.slice sa l1.length sc := rfl; rw [hslv] at hP1 hbl1 ⊢; clear hslv; have hll : l1.length ≤ 1000 := hlen1.symm ▸ hl2; have hPl := places_any sa sc (l1.map fun x : Tr => x.1) w1 (hat1.tbp hes1) (Nat.le_trans (Nat.le_of_eq (List.length_map _)) (Nat.le_trans hll (by decide))); rw [List.length_map] at hPl; have E1 : Hid _ := e1; have E2 : Hid _ := e2; clear e1 e2 hlen1)
    | (go_at_call 128; refine hPl.mono ?_; rintro e w2 ⟨v2, rfl, hb2, ho2⟩; obtain ⟨q2, c2, hv2, hpl2⟩ := ho2.plp; rw [List.length_map, List.length_map] at hv2; subst hv2; clear ho2; have hB3 : Below w1.heap.size w1 (w2.alloc (.cells #[.int .i64 X.2.2.1, .int .i64 st.log, .slice q2 l1.length c2] 183)) := hb2.trans (((Below.refl _ w2).alloc (Nat.le_refl _) _).mono hb2.size); obtain ⟨hEn, hml3⟩ := enc3 w1 w2 l1 q2 c2 E1.out hnu1 hll hpl2)
    | (go_at_call 130; refine hEn.mono ?_; rintro e w4 ⟨rfl, hb4⟩; have hB4 := hB3.trans (hb4.mono hB3.size); have k14 : Kp S w w4 := k1.trans (T := fun _ => False) (Kp.of_below hB4) (fun _ _ f => f.elim); have hS1T : ¬ (fun k => Nw S w k ∧ (Value.slice sa l1.length sc).ownBlock ≠ some k) T := (by rintro ⟨h | h, _⟩; exact hST h; exact absurd h (by omega)); have hR4 := hRp w4 _ ((World.cell?_of_block (k14.block T hTl hST)).trans (hL.cell 0)) hS1T (progBelow hP1 hB4) hml3)
    | (go_at_call 129; refine hR4.mono ?_; rintro e w5 ⟨rfl, hP5, k5⟩; have k05 : Kp S w w5 := k14.trans k5 (fun i hi h => h.1.elim id (fun h => absurd h (by omega))); have hL5 : LsAt w5 E T bd bm bsn s l st := hL.kept k05 hST hSm hSn hSE; have c3 := hL5.cell 3; have c4 := hL5.cell 4; have c5 := hL5.cell 5; have c6 := hL5.cell 6; have z4 := hL5.frozen 4; have z5 := hL5.frozen 5))
      have hz4 := k14.size
      have hz1 := k1.size
      have hS5 : ∀ k, Nw (fun k => Nw S w k ∧ (Value.slice sa l1.length sc).ownBlock ≠ some k) w4 k → Nw S w k := fun k h => h.elim (fun h => h.1) (fun h => .inr (Nat.le_trans hz4 h))
      have nS5 : ∀ k, k < w.heap.size → ¬ S k → ¬ Nw (fun k => Nw S w k ∧ (Value.slice sa l1.length sc).ownBlock ≠ some k) w4 k := fun k hk hs h => (hS5 k h).elim hs (fun h => by omega)
      have hown : ∀ k, (Value.slice sa l1.length sc).ownBlock = some k → w.heap.size ≤ k ∧ k < w1.heap.size := fun k hk => World.ownsRow.lt ho1 k hk
      have hat5 : TrAt w5 (sa, l1.length, sc) l1 := (hat1.below hB4).kept k5 (fun a ha _ h => h.2 (hbl1 a ha).1)
      have hes5 : TrEs w5 l1 := (hes1.below hB4).kept k5 (fun x hx a ha h => h.1.elim (hSE _ (hE1 x hx a ha)) (fun h => by have := hL.bnd _ (hE1 x hx a ha); omega))
      have hz5 : w1.heap.size ≤ w5.heap.size := Nat.le_trans hB4.size k5.size
      have hdd : ∀ k, (E k ∨ (Value.slice sa l1.length sc).ownBlock = some k) → ¬ Nw (fun k => Nw S w k ∧ (Value.slice sa l1.length sc).ownBlock ≠ some k) w4 k := by
        rintro k (h | h)
        · exact nS5 k (hL.bnd k h) (hSE k h)
        · rintro (h' | h')
          · exact h'.2 h
          · have := hown k h; have := hB4.size; omega
      have ks4 := Kp.set1 w5 T 4 (.slice sa l1.length sc)
      have ks5 := Kp.set1 (w5.setCell ⟨T, 4, none⟩ (.slice sa l1.length sc)) T 5 (.int .i64 X.2.2.1)
      have ks : Kp (fun i => i = T ∨ i = bm) w5 ((w5.setCell ⟨T, 4, none⟩ (.slice sa l1.length sc)).setCell ⟨T, 5, none⟩ (.int .i64 X.2.2.1)) := (ks4.mono (fun _ h => .inl h)).trans ks5 (fun _ _ h => .inl h)
      have hTm : T ≠ bm := hL5.mem.ne hL5.blk
      have hst : st.turned X.2.2.2 X.2.2.1 st.log = { st with tabs := X.2.2.2, next := X.2.2.1 } := by unfold Ls.turned; rw [if_pos rfl]
      rw [hst] at HC
      have hL7 := hL5.turn (F := fun k => (Value.slice sa l1.length sc).ownBlock = some k) (s1 := (sa, l1.length, sc)) (l1 := l1) (st' := { st with tabs := X.2.2.2, next := X.2.2.1 }) ks (by rw [block_set (block_set hL5.blk _)]; rfl) ((hL5.mem.kept ks4 (fun h => hTm h.symm) (fun i h e => hL5.nE.1 (e ▸ h))).kept ks5 (fun h => hTm h.symm) (fun i h e => hL5.nE.1 (e ▸ h))) rfl hat5 hes5 E1.out (fun a ha => (hbl1 a ha).1) hE1 ⟨fun h => by have := hown _ h; omega, fun h => by have := hown _ h; omega, fun h => by have := hown _ h; omega⟩ (fun k h => by have := hown _ h; omega)
      generalize (w5.setCell ⟨T, 4, none⟩ (.slice sa l1.length sc)).setCell ⟨T, 5, none⟩ (.int .i64 X.2.2.1) = W7 at *
      have hP7 : ProgAt W7 _ bd Y.2 := hP5.kept ks (by rintro i h (rfl | rfl); exact nS5 _ hTl hST h; exact nS5 _ hbm hSm h)
      refine commit_door _ _ T bd bm bsn _ l1 _ Y.2 _ _ W7 hL7 hP7 hA2 (nS5 T hTl hST) hdd (by show st.log ≤ _; omega) hll (fun x hx => by have := (hnu1 x hx).1; omega) (fun w6 hP6 k6 => ?_)
      rw [HC.out]
      have hz7 := ks.size
      refine ⟨rfl, CmPost.of hL7 (Nat.le_trans k05.size ks.size) hS5 (fun k h => h.elim .inl (fun h => .inr (hown k h).1)) hdd (nS5 T hTl hST) (nS5 bm hbm hSm) (nS5 bsn hbn hSn) hP6 k6, ((k05.mono (fun k h => .inl h)).trans ks (fun k _ h => .inr h)).trans k6 (fun k hk h => .inl ((hS5 k h.1).elim id (fun h => by omega)))⟩
    · have hne : ¬ ((log : Int) = (st.log : Int)) := by omega
      go_enter_defers Tryz.func71, Tryz.ntmps71
      go_wp2_with (first
    | (go_at_call 127; refine hWn.mono ?_; rintro e w1 ⟨v1, n1, rfl, hP1, k1, hs1⟩; obtain ⟨hn1, l1, ho1, e1, e2⟩ := hs1 rfl; subst hn1; obtain ⟨⟨sa, sn, sc⟩, hv1, hat1, hes1, hlen1, hE1, hnu1, hbl1⟩ := after w1 v1 l1 hP1 k1 ho1 e1 e2; subst hv1; have hsn : sn = l1.length := hat1.len; subst hsn; have hslv : slV (sa, l1.length, sc) = Value.slice sa l1.length sc := rfl; rw [hslv] at hP1 hbl1 ⊢; clear hslv; have hll : l1.length ≤ 1000 := hlen1.symm ▸ hl2; have hPl := places_any sa sc (l1.map fun x : Tr => x.1) w1 (hat1.tbp hes1) (Nat.le_trans (Nat.le_of_eq (List.length_map _)) (Nat.le_trans hll (by decide))); rw [List.length_map] at hPl; have E1 : Hid _ := e1; have E2 : Hid _ := e2; clear e1 e2 hlen1)
    | (go_at_call 128; refine hPl.mono ?_; rintro e w2 ⟨v2, rfl, hb2, ho2⟩; obtain ⟨q2, c2, hv2, hpl2⟩ := ho2.plp; rw [List.length_map, List.length_map] at hv2; subst hv2; clear ho2; have hB3 : Below w1.heap.size w1 (w2.alloc (.cells #[.int .i64 X.2.2.1, .int .i64 log, .slice q2 l1.length c2] 183)) := hb2.trans (((Below.refl _ w2).alloc (Nat.le_refl _) _).mono hb2.size); obtain ⟨hEn, hml3⟩ := enc3 w1 w2 l1 q2 c2 E1.out hnu1 hll hpl2)
    | (go_at_call 130; refine hEn.mono ?_; rintro e w4 ⟨rfl, hb4⟩; have hB4 := hB3.trans (hb4.mono hB3.size); have k14 : Kp S w w4 := k1.trans (T := fun _ => False) (Kp.of_below hB4) (fun _ _ f => f.elim); have hS1T : ¬ (fun k => Nw S w k ∧ (Value.slice sa l1.length sc).ownBlock ≠ some k) T := (by rintro ⟨h | h, _⟩; exact hST h; exact absurd h (by omega)); have hR4 := hRp w4 _ ((World.cell?_of_block (k14.block T hTl hST)).trans (hL.cell 0)) hS1T (progBelow hP1 hB4) hml3)
    | (go_at_call 129; refine hR4.mono ?_; rintro e w5 ⟨rfl, hP5, k5⟩; have k05 : Kp S w w5 := k14.trans k5 (fun i hi h => h.1.elim id (fun h => absurd h (by omega))); have hL5 : LsAt w5 E T bd bm bsn s l st := hL.kept k05 hST hSm hSn hSE; have c3 := hL5.cell 3; have c4 := hL5.cell 4; have c5 := hL5.cell 5; have c6 := hL5.cell 6; have z4 := hL5.frozen 4; have z5 := hL5.frozen 5; have hTm : T ≠ bm := hL5.mem.ne hL5.blk; have ks4 := Kp.set1 w5 T 4 (Value.slice sa l1.length sc); have ks5 := Kp.set1 (w5.setCell ⟨T, 4, none⟩ (Value.slice sa l1.length sc)) T 5 (Value.int .i64 X.2.2.1); have hM7 := (hL5.mem.kept ks4 (fun h => hTm h.symm) (fun i h e => hL5.nE.1 (e ▸ h))).kept ks5 (fun h => hTm h.symm) (fun i h e => hL5.nE.1 (e ▸ h)); have hb7 : ((w5.setCell ⟨T, 4, none⟩ (Value.slice sa l1.length sc)).setCell ⟨T, 5, none⟩ (Value.int .i64 X.2.2.1)).heap[T]? = some (lsC bd bm bsn (sa, l1.length, sc) { st with tabs := X.2.2.2, next := X.2.2.1 }) := (by rw [block_set (block_set hL5.blk _)]; rfl); obtain ⟨w8, hclr, hM8, k8⟩ := hM7.clear 0; have hb8 := (k8.block T (lt_of_block hb7) hTm).trans hb7; have d6 : w8.cell? ⟨T, 6, none⟩ = some (.int .i64 st.log) := cell_block hb8; have d7 : w8.cell? ⟨T, 7, none⟩ = some (.int .i64 st.len) := cell_block hb8; have d11 : w8.cell? ⟨T, 11, none⟩ = some (.bool st.loose) := cell_block hb8; have y6 : w8.frozen? ⟨T, 6, none⟩ = false := frozen_block hb8; have y7 : w8.frozen? ⟨T, 7, none⟩ = false := frozen_block hb8; have y11 : w8.frozen? ⟨T, 11, none⟩ = false := frozen_block hb8))
      have hz4 := k14.size
      have hz1 := k1.size
      have hS5 : ∀ k, Nw (fun k => Nw S w k ∧ (Value.slice sa l1.length sc).ownBlock ≠ some k) w4 k → Nw S w k := fun k h => h.elim (fun h => h.1) (fun h => .inr (Nat.le_trans hz4 h))
      have nS5 : ∀ k, k < w.heap.size → ¬ S k → ¬ Nw (fun k => Nw S w k ∧ (Value.slice sa l1.length sc).ownBlock ≠ some k) w4 k := fun k hk hs h => (hS5 k h).elim hs (fun h => by omega)
      have hown : ∀ k, (Value.slice sa l1.length sc).ownBlock = some k → w.heap.size ≤ k ∧ k < w1.heap.size := fun k hk => World.ownsRow.lt ho1 k hk
      have hat5 : TrAt w5 (sa, l1.length, sc) l1 := (hat1.below hB4).kept k5 (fun a ha _ h => h.2 (hbl1 a ha).1)
      have hes5 : TrEs w5 l1 := (hes1.below hB4).kept k5 (fun x hx a ha h => h.1.elim (hSE _ (hE1 x hx a ha)) (fun h => by have := hL.bnd _ (hE1 x hx a ha); omega))
      have hz5 : w1.heap.size ≤ w5.heap.size := Nat.le_trans hB4.size k5.size
      have hdd : ∀ k, (E k ∨ (Value.slice sa l1.length sc).ownBlock = some k) → ¬ Nw (fun k => Nw S w k ∧ (Value.slice sa l1.length sc).ownBlock ≠ some k) w4 k := by
        rintro k (h | h)
        · exact nS5 k (hL.bnd k h) (hSE k h)
        · rintro (h' | h')
          · exact h'.2 h
          · have := hown k h; have := hB4.size; omega
      have q6 := Kp.set1 w8 T 6 (.int .i64 log)
      have q7 := Kp.set1 (w8.setCell ⟨T, 6, none⟩ (.int .i64 log)) T 7 (.int .i64 0)
      have q11 := Kp.set1 ((w8.setCell ⟨T, 6, none⟩ (.int .i64 log)).setCell ⟨T, 7, none⟩ (.int .i64 0)) T 11 (.bool false)
      have ks : Kp (fun i => i = T ∨ i = bm) w5 (((w8.setCell ⟨T, 6, none⟩ (.int .i64 log)).setCell ⟨T, 7, none⟩ (.int .i64 0)).setCell ⟨T, 11, none⟩ (.bool false)) :=
        (((((ks4.mono (fun _ h => .inl h)).trans ks5 (fun _ _ h => .inl h)).trans k8 (fun _ _ h => .inr h)).trans q6 (fun _ _ h => .inl h)).trans q7 (fun _ _ h => .inl h)).trans q11 (fun _ _ h => .inl h)
      have hM9 := ((hM8.kept q6 (fun h => hTm h.symm) (fun i h e => hL5.nE.1 (e ▸ h))).kept q7 (fun h => hTm h.symm) (fun i h e => hL5.nE.1 (e ▸ h))).kept q11 (fun h => hTm h.symm) (fun i h e => hL5.nE.1 (e ▸ h))
      have hst : st.turned X.2.2.2 X.2.2.1 log = { st with tabs := X.2.2.2, next := X.2.2.1, mem := [], log := log, len := 0, loose := false } := by unfold Ls.turned; rw [if_neg hlo]
      rw [hst] at HC
      have hL7 := hL5.turn (F := fun k => (Value.slice sa l1.length sc).ownBlock = some k) (s1 := (sa, l1.length, sc)) (l1 := l1) (st' := { st with tabs := X.2.2.2, next := X.2.2.1, mem := [], log := log, len := 0, loose := false }) ks (by rw [block_set (block_set (block_set hb8 _) _)]; rfl) hM9 rfl hat5 hes5 E1.out (fun a ha => (hbl1 a ha).1) hE1 ⟨fun h => by have := hown _ h; omega, fun h => by have := hown _ h; omega, fun h => by have := hown _ h; omega⟩ (fun k h => by have := hown _ h; omega)
      clear q6 q7 q11 hM9
      generalize ((w8.setCell ⟨T, 6, none⟩ (.int .i64 log)).setCell ⟨T, 7, none⟩ (.int .i64 0)).setCell ⟨T, 11, none⟩ (.bool false) = W7 at *
      have hP7 : ProgAt W7 _ bd Y.2 := hP5.kept ks (by rintro i h (rfl | rfl); exact nS5 _ hTl hST h; exact nS5 _ hbm hSm h)
      refine commit_door _ _ T bd bm bsn _ l1 _ Y.2 _ _ W7 hL7 hP7 hA2 (nS5 T hTl hST) hdd (by show log ≤ _; omega) hll (fun x hx => by have := (hnu1 x hx).1; omega) (fun w6 hP6 k6 => ?_)
      rw [HC.out]
      have hz7 := ks.size
      refine ⟨rfl, CmPost.of hL7 (Nat.le_trans k05.size ks.size) hS5 (fun k h => h.elim .inl (fun h => .inr (hown k h).1)) hdd (nS5 T hTl hST) (nS5 bm hbm hSm) (nS5 bsn hbn hSn) hP6 k6, ((k05.mono (fun k h => .inl h)).trans ks (fun k _ h => .inr h)).trans k6 (fun k hk h => .inl ((hS5 k h.1).elim id (fun h => by omega)))⟩
  · rw [if_pos hy] at HC
    obtain ⟨y0, hy0⟩ : ∃ y0, Y.1 = y0 := ⟨_, rfl⟩
    rw [hy0] at hy hRp HC
    clear hy0
    go_enter_defers Tryz.func71, Tryz.ntmps71
    go_wp2_with (first
    | (go_at_call 127; refine hWn.mono ?_; rintro e w1 ⟨v1, n1, rfl, hP1, k1, hs1⟩; obtain ⟨hn1, l1, ho1, e1, e2⟩ := hs1 rfl; subst hn1; obtain ⟨⟨sa, sn, sc⟩, hv1, hat1, hes1, hlen1, hE1, hnu1, hbl1⟩ := after w1 v1 l1 hP1 k1 ho1 e1 e2; subst hv1; have hsn : sn = l1.length := hat1.len; subst hsn; have hll : l1.length ≤ 1000 := hlen1.symm ▸ hl2; have hPl := places_any sa sc (l1.map fun x : Tr => x.1) w1 (hat1.tbp hes1) (Nat.le_trans (Nat.le_of_eq (List.length_map _)) (Nat.le_trans hll (by decide))); rw [List.length_map] at hPl; have E1 : Hid _ := e1; have E2 : Hid _ := e2; clear e1 e2 hlen1)
    | (go_at_call 128; refine hPl.mono ?_; rintro e w2 ⟨v2, rfl, hb2, ho2⟩; obtain ⟨q2, c2, hv2, hpl2⟩ := ho2.plp; rw [List.length_map, List.length_map] at hv2; subst hv2; clear ho2; have hB3 : Below w1.heap.size w1 (w2.alloc (.cells #[.int .i64 X.2.2.1, .int .i64 log, .slice q2 l1.length c2] 183)) := hb2.trans (((Below.refl _ w2).alloc (Nat.le_refl _) _).mono hb2.size); obtain ⟨hEn, hml3⟩ := enc3 w1 w2 l1 q2 c2 E1.out hnu1 hll hpl2)
    | (go_at_call 130; refine hEn.mono ?_; rintro e w4 ⟨rfl, hb4⟩; have hB4 := hB3.trans (hb4.mono hB3.size); have k14 : Kp S w w4 := k1.trans (T := fun _ => False) (Kp.of_below hB4) (fun _ _ f => f.elim); have hS1T : ¬ (fun k => Nw S w k ∧ (slV (sa, l1.length, sc)).ownBlock ≠ some k) T := (by rintro ⟨h | h, _⟩; exact hST h; exact absurd h (by omega)); have hR4 := hRp w4 _ ((World.cell?_of_block (k14.block T hTl hST)).trans (hL.cell 0)) hS1T (progBelow hP1 hB4) hml3)
    | (go_at_call 129; refine hR4.mono ?_; rintro e w5 ⟨rfl, hP5, k5⟩))
    have k05 : Kp S w w5 := k14.trans k5 (fun i hi h => h.1.elim id (fun h => by omega))
    have hz4 := k14.size
    have hS5 : ∀ k, Nw (fun k => Nw S w k ∧ (slV (sa, l1.length, sc)).ownBlock ≠ some k) w4 k → Nw S w k := fun k h => h.elim (fun h => h.1) (fun h => .inr (Nat.le_trans hz4 h))
    have nS5 : ∀ k, k < w.heap.size → ¬ S k → ¬ Nw (fun k => Nw S w k ∧ (slV (sa, l1.length, sc)).ownBlock ≠ some k) w4 k := fun k hk hs h => (hS5 k h).elim hs (fun h => by omega)
    have hL5 : LsAt w5 E T bd bm bsn s l st := hL.kept k05 hST hSm hSn hSE
    have hdd : ∀ k, E k → ¬ Nw (fun k => Nw S w k ∧ (slV (sa, l1.length, sc)).ownBlock ≠ some k) w4 k := fun k hk => nS5 k (hL.bnd k hk) (hSE k hk)
    refine commit_door _ _ T bd bm bsn s l st Y.2 _ E w5 hL5 hP5 hA2 (nS5 T hTl hST) hdd (by omega) hl (fun x hx => by have := hnum x hx; omega) (fun w6 hP6 k6 => ?_)
    rw [HC.out]
    exact ⟨rfl, CmPost.of hL5 k05.size hS5 (fun k h => .inl h) hdd (nS5 T hTl hST) (nS5 bm hbm hSm) (nS5 bsn hbn hSn) hP6 k6, (k05.mono (fun k h => .inl h)).trans k6 (fun k hk h => .inl ((hS5 k h.1).elim id (fun h => by omega)))⟩
end Go.Proofs.YtoabedkcieindabGreatDoor

namespace Go.Proofs.YtoabedkcieindabGreatDoor
open Go.RowKit Go.Maps Go.Sort Go.Shelf
theorem commit_call (T bd bm bsn : Nat) (s s2 : Sl) (l l2 : List Tr) (st : Ls) (d : Dk) (S E : Nat → Prop) (log : Nat) (w : World) (hL : LsAt w E T bd bm bsn s l st) (h2 : TrAt w s2 l2) (he2 : TrEs w l2) (hE2 : ∀ x ∈ l2, ∀ a, x.2.1 = some a → E a.block)
    (hP : ProgAt w S bd d) (hok : d.Ok) (hfl : d.files.length ≤ 100000) (hST : ¬ S T) (hSm : ¬ S bm) (hSn : ¬ S bsn) (hSE : ∀ k, E k → ¬ S k) (hnx : st.next ≤ 1000000000000) (hlg : st.log ≤ 1000000) (hlog : log ≤ 1000001) (hl : l.length ≤ 1000) (hl2 : l2.length ≤ 1000)
    (hnum : ∀ x ∈ l, x.1.number ≤ 1000000000000) (hnum2 : ∀ x ∈ l2, x.1.number ≤ 1000000000000 ∧ x.1.level ≤ 1000000) (hes : ∀ x ∈ l2, LyOk x.1.es ∧ x.1.es ≠ [] ∧ x.1.es.length ≤ 500)
    (hA1 : Swp (writtenF st.next (l2.map (·.1)) d).2.1) (hA2 : Swp (lreplace (writtenF st.next (l2.map (·.1)) d).2.1 manN (encMan (manOf (writtenF st.next (l2.map (·.1)) d).2.2.1 log (writtenF st.next (l2.map (·.1)) d).2.2.2))).2) :
    Calls Tryz.prog 71 #[.pointer (some ⟨T, 0, none⟩), slV s2, .int .i64 log] w fun e w' => e = .returned (.int .i64 (commitX d st (l2.map (·.1)) log).1) ∧ CmPost w w' S E T bd bm bsn (commitX d st (l2.map (·.1)) log) ∧ Kp (fun k => S k ∨ k = T ∨ k = bm) w w' := by
  by_cases hx : (writtenF st.next (l2.map (·.1)) d).1 = 0
  · exact commit_good T bd bm bsn s s2 l l2 st d S E log w hL h2 he2 hE2 hP hok hfl hST hSm hSn hSE hnx hlg hlog hl hl2 hnum hnum2 hes hx hA2
  · exact commit_bad T bd bm bsn s s2 l l2 st d S E log w hL h2 he2 hE2 hP hok hfl hST hSm hSn hSE hnx hlg hl hl2 hnum hnum2 hes hA1 hx
theorem LsAt.grow {w w1 : World} {E : Nat → Prop} {T bd bm bsn : Nat} {s : Sl} {l : List Tr} {st : Ls} (h : LsAt w E T bd bm bsn s l st) (k : Below w.heap.size w w1) : LsAt w1 (fun i => E i ∨ (w.heap.size ≤ i ∧ i < w1.heap.size)) T bd bm bsn s l st := by
  have h1 := h.below k
  have hT := lt_of_block h.blk
  have hm := h.mem.lt
  have hn := h.snp.lt
  refine ⟨h1.blk, h1.mem.mono (fun _ h => .inl h), h1.snp, h1.sn0, h1.tab, h1.es, h1.is, fun a ha => .inl (h1.inT a ha), fun x hx a ha => .inl (h1.inE x hx a ha), h1.ne, ⟨?_, ?_, ?_⟩, fun i hi => hi.elim (h1.bnd i) (fun h => h.2)⟩
  · rintro (x | x); exact h.nE.1 x; omega
  · rintro (x | x); exact h.nE.2.1 x; omega
  · rintro (x | x); exact h.nE.2.2 x; omega
theorem ShI.inE {w W : World} {s0 s : Sl} {l0 l : List Tr} {p : Int} {ss : List Int} {M : Nat} {E : Nat → Prop} (h : ShI w W s0 l0 p ss M s l) (h0 : ∀ x ∈ l0, ∀ a, x.2.1 = some a → E a.block) (hne : ∀ x ∈ l, x.1.es ≠ []) : ∀ x ∈ l, ∀ a, x.2.1 = some a → E a.block ∨ (w.heap.size ≤ a.block ∧ a.block < W.heap.size) := fun x hx a ha => by
  rcases h.each x hx with hx0 | hx1
  · exact .inl (h0 x hx0 a ha)
  · refine .inr ⟨hx1 a ha, ?_⟩
    have hpos : 0 < x.1.es.length := List.length_pos_iff.2 (hne x hx)
    obtain ⟨g, off, e, c, _⟩ := (h.es x hx).row 0 hpos
    rw [ha] at e
    cases e
    exact World.block_lt_of_cell? W _ c
end Go.Proofs.YtoabedkcieindabGreatDoor

namespace Go.Proofs.YtoabedkcieindabGreatDoor
open Go.RowKit Go.Maps Go.Sort Go.Shelf
theorem Kp.low {S : Nat → Prop} {w w1 w2 : World} {T bm : Nat} (hb : Below w.heap.size w w1) (k : Kp (fun k => (S k ∧ k < w.heap.size) ∨ k = T ∨ k = bm) w1 w2) : Kp (fun k => S k ∨ k = T ∨ k = bm) w w2 :=
  (Kp.of_below (S := fun k => S k ∨ k = T ∨ k = bm) hb).trans k (fun _ _ h => h.elim (fun h => .inl h.1) .inr)
theorem CmPost.low {w w1 w2 : World} {S E : Nat → Prop} {T bd bm bsn : Nat} {r : Int × Dk × Ls} (hb : Below w.heap.size w w1) (h : CmPost w1 w2 (fun k => S k ∧ k < w.heap.size) (fun i => E i ∨ (w.heap.size ≤ i ∧ i < w1.heap.size)) T bd bm bsn r) : CmPost w w2 S E T bd bm bsn r := by
  obtain ⟨S', E', s', l', h1, h2, h3⟩ := h
  refine ⟨S', E', s', l', fun k hk => (h1 k hk).elim (fun h => .inl h.1) (fun h => .inr (Nat.le_trans hb.size h)), fun k hk => (h2 k hk).elim (fun h => h.elim .inl (fun h => .inr h.1)) (fun h => .inr (Nat.le_trans hb.size h)), h3⟩
set_option maxHeartbeats 400000 in
set_option maxRecDepth 20000 in
theorem settle_any (T bd bm bsn : Nat) (s s2 : Sl) (l l2 : List Tr) (st : Ls) (d : Dk) (S E : Nat → Prop) (log M : Nat) (w : World) (hL : LsAt w E T bd bm bsn s l st) (hI : ShI w w s2 l2 st.policy st.kept M s2 l2) (hM : M ≤ 1000000) (hpo : 0 ≤ st.policy ∧ st.policy ≤ 2) (hE2 : ∀ x ∈ l2, ∀ a, x.2.1 = some a → E a.block)
    (hP : ProgAt w S bd d) (hok : d.Ok) (hfl : d.files.length ≤ 100000) (hST : ¬ S T) (hSm : ¬ S bm) (hSn : ¬ S bsn) (hSE : ∀ k, E k → ¬ S k) (hnx : st.next ≤ 1000000000000) (hlg : st.log ≤ 1000000) (hlog : log ≤ 1000001) (hl : l.length ≤ 1000)
    (hnum : ∀ x ∈ l, x.1.number ≤ 1000000000000) (hsh : ∀ t ∈ shapedX st.policy st.kept (l2.map (·.1)), t.number ≤ 1000000000000 ∧ t.level ≤ 1000000 ∧ LyOk t.es ∧ t.es ≠ [] ∧ t.es.length ≤ 500)
    (hA1 : Swp (writtenF st.next (shapedX st.policy st.kept (l2.map (·.1))) d).2.1) (hA2 : Swp (lreplace (writtenF st.next (shapedX st.policy st.kept (l2.map (·.1))) d).2.1 manN (encMan (manOf (writtenF st.next (shapedX st.policy st.kept (l2.map (·.1))) d).2.2.1 log (writtenF st.next (shapedX st.policy st.kept (l2.map (·.1))) d).2.2.2))).2)
    (h3 : (commitX d st (shapedX st.policy st.kept (l2.map (·.1))) log).1 ≠ 3) :
    Calls Tryz.prog 118 #[.pointer (some ⟨T, 0, none⟩), slV s2, .int .i64 log] w fun e w' => e = .returned (.int .i64 (settleX d st (l2.map (·.1)) log).1) ∧ CmPost w w' S E T bd bm bsn (settleX d st (l2.map (·.1)) log) ∧ Kp (fun k => S k ∨ k = T ∨ k = bm) w w' := by
  obtain ⟨a2, n2, c2⟩ := s2
  obtain rfl : n2 = l2.length := hI.at_.len
  have hSh := shaped_any T bsn st.snaps st.kept rfl st.policy M _ l2 w (hL.cell 2) (hL.cell 9) hL.snp hL.sn0 hpo hM hI
  have hTl := lt_of_block hL.blk
  have hP0 : ProgAt w (fun k => S k ∧ k < w.heap.size) bd d := hP.mono (fun k hk s => ⟨s, hk⟩)
  have next : ∀ (w1 : World) (s3 : Sl) (l3 : List Tr), ShI w w1 (a2, l2.length, c2) l2 st.policy st.kept M s3 l3 → l3.map (·.1) = shapedX st.policy st.kept (l2.map (·.1)) → Calls Tryz.prog 71 #[.pointer (some ⟨T, 0, none⟩), slV s3, .int .i64 log] w1 fun e w' => e = .returned (.int .i64 (commitX d st (shapedX st.policy st.kept (l2.map (·.1))) log).1) ∧ CmPost w w' S E T bd bm bsn (commitX d st (shapedX st.policy st.kept (l2.map (·.1))) log) ∧ Kp (fun k => S k ∨ k = T ∨ k = bm) w w' := fun w1 s3 l3 h e => by
    have hmem : ∀ x ∈ l3, x.1 ∈ shapedX st.policy st.kept (l2.map (·.1)) := fun x hx => by rw [← e]; exact List.mem_map.2 ⟨x, hx, rfl⟩
    have hC := commit_call T bd bm bsn s s3 l l3 st d (fun k => S k ∧ k < w.heap.size) _ log w1 (hL.grow h.bel) h.at_ h.es (h.inE hE2 (fun x hx => (hsh _ (hmem x hx)).2.2.2.1)) (progBelow hP0 h.bel) hok hfl (fun h => hST h.1) (fun h => hSm h.1) (fun h => hSn h.1) (fun k hk hs => hk.elim (fun hk => hSE k hk hs.1) (fun hk => by omega)) hnx hlg hlog hl h.len hnum (fun x hx => ⟨(hsh _ (hmem x hx)).1, (hsh _ (hmem x hx)).2.1⟩) (fun x hx => (hsh _ (hmem x hx)).2.2) (by rw [e]; exact hA1) (by rw [e]; exact hA2)
    rw [e] at hC
    refine hC.mono ?_
    rintro e' w2 ⟨rfl, hp, hk⟩
    exact ⟨rfl, hp.low h.bel, hk.low h.bel⟩
  have HS : Hid (settleX d st (l2.map (·.1)) log = if ¬ (shapedX st.policy st.kept (l2.map (·.1))).length < l2.length ∧ log = st.log then (0, d, st) else commitX d st (shapedX st.policy st.kept (l2.map (·.1))) log) := by
    show _ = _
    unfold settleX
    simp only [List.length_map]
    split
    · rfl
    · rw [if_neg (fun h => h3 h.1)]
  obtain ⟨n, hn⟩ : ∃ n, (shapedX st.policy st.kept (l2.map (·.1))).length = n := ⟨_, rfl⟩
  rw [hn] at HS
  have HN : Hid ((shapedX st.policy st.kept (l2.map (·.1))).length = n) := hn
  clear hn
  obtain ⟨Z, hZ⟩ : ∃ Z, commitX d st (shapedX st.policy st.kept (l2.map (·.1))) log = Z := ⟨_, rfl⟩
  rw [hZ] at next HS h3
  clear hZ
  obtain ⟨z0, hz0⟩ : ∃ z0, Z.1 = z0 := ⟨_, rfl⟩
  rw [hz0] at next h3
  have HZ : Hid (Z.1 = z0) := hz0
  clear hz0
  rw [show slV (a2, l2.length, c2) = .slice a2 l2.length c2 from rfl] at hSh ⊢
  by_cases hm : n < l2.length
  · have HQ : Hid (settleX d st (l2.map (·.1)) log = Z) := by show _ = _; rw [HS.out, if_neg (fun h => h.1 hm)]
    clear HS
    have hm' : (n : Int) < (l2.length : Int) := by omega
    go_enter Tryz.func118, Tryz.ntmps118
    go_wp2_with (first | (go_at_call 188; refine hSh.mono ?_; rintro e w1 ⟨⟨a3, n3, c3⟩, l3, rfl, hI3, e3⟩; have hn3 : n3 = n := (hI3.at_.len.trans (List.length_map (fun x : Tr => x.1)).symm).trans ((congrArg List.length e3).trans HN.out); subst hn3; have hC := next w1 (a3, n3, c3) l3 hI3 e3; have hslv : slV (a3, n3, c3) = Value.slice a3 n3 c3 := rfl; rw [hslv] at hC ⊢; clear hslv; have c6 := cell_below hI3.bel (hL.cell 6); have E3 : Hid _ := e3; clear e3) | (go_at_call 71; refine hC.mono ?_; rintro e w2 ⟨rfl, hp2, k2⟩))
    go_ret
    rw [HQ.out]
    exact ⟨by rw [HZ.out]; rfl, hp2, k2⟩
  · by_cases hlo : log = st.log
    · have HQ : Hid (settleX d st (l2.map (·.1)) log = (0, d, st)) := by show _ = _; rw [HS.out, if_pos ⟨hm, hlo⟩]
      clear HS
      have hlo' : (log : Int) = (st.log : Int) := by omega
      have hm' : ¬ ((n : Int) < (l2.length : Int)) := by omega
      go_enter Tryz.func118, Tryz.ntmps118
      go_wp2_with (go_at_call 188; refine hSh.mono ?_; rintro e w1 ⟨⟨a3, n3, c3⟩, l3, rfl, hI3, e3⟩; have hn3 : n3 = n := (hI3.at_.len.trans (List.length_map (fun x : Tr => x.1)).symm).trans ((congrArg List.length e3).trans HN.out); subst hn3; have hC := next w1 (a3, n3, c3) l3 hI3 e3; have hslv : slV (a3, n3, c3) = Value.slice a3 n3 c3 := rfl; rw [hslv] at hC ⊢; clear hslv; have c6 := cell_below hI3.bel (hL.cell 6); have E3 : Hid _ := e3; clear e3)
      go_ret
      rw [HQ.out]
      refine ⟨rfl, ⟨fun k => S k ∧ k < w.heap.size, E, s, l, fun k h => .inl h.1, fun k h => .inl h, fun k hk h => hSE k hk h.1, fun h => hST h.1, fun h => hSm h.1, fun h => hSn h.1, progBelow hP0 hI3.bel, hL.below hI3.bel⟩, Kp.of_below hI3.bel⟩
    · have HQ : Hid (settleX d st (l2.map (·.1)) log = Z) := by show _ = _; rw [HS.out, if_neg (fun h => hlo h.2)]
      clear HS
      have hlo' : ¬ ((log : Int) = (st.log : Int)) := by omega
      have hm' : ¬ ((n : Int) < (l2.length : Int)) := by omega
      go_enter Tryz.func118, Tryz.ntmps118
      go_wp2_with (first | (go_at_call 188; refine hSh.mono ?_; rintro e w1 ⟨⟨a3, n3, c3⟩, l3, rfl, hI3, e3⟩; have hn3 : n3 = n := (hI3.at_.len.trans (List.length_map (fun x : Tr => x.1)).symm).trans ((congrArg List.length e3).trans HN.out); subst hn3; have hC := next w1 (a3, n3, c3) l3 hI3 e3; have hslv : slV (a3, n3, c3) = Value.slice a3 n3 c3 := rfl; rw [hslv] at hC ⊢; clear hslv; have c6 := cell_below hI3.bel (hL.cell 6); have E3 : Hid _ := e3; clear e3) | (go_at_call 71; refine hC.mono ?_; rintro e w2 ⟨rfl, hp2, k2⟩))
      go_ret
      rw [HQ.out]
      exact ⟨by rw [HZ.out]; rfl, hp2, k2⟩
end Go.Proofs.YtoabedkcieindabGreatDoor

namespace Go.Proofs.YtoabedkcieindabGreatDoor
open Go.RowKit
def Sm (w w' : World) : Prop := Kp (fun _ => False) w w' ∧ w'.heap.size = w.heap.size
@[simp] theorem Sm.rfl' (w : World) : Sm w w := ⟨Kp.refl _ _, rfl⟩
@[simp] theorem Sm.drew' (w w' : World) : Sm w w'.drew ↔ Sm w w' := ⟨fun h => ⟨⟨h.1.os, h.1.tape, h.1.output, h.1.size, h.1.block⟩, h.2⟩, fun h => ⟨h.1.drew, h.2⟩⟩
theorem Sm.below {w w' : World} (h : Sm w w') : Below w.heap.size w w' := h.1.below
end Go.Proofs.YtoabedkcieindabGreatDoor
