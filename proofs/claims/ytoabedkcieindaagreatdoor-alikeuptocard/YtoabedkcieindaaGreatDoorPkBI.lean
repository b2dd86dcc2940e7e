import Derived.Test.YtoabedkcieindaaGreatDoorPkBH
namespace Go.Proofs.YtoabedkcieindaaGreatDoor
open Go.RowKit Go.Maps Go.Sort Go.Shelf
structure Al (w wr : World) (bz bv : Nat) (M : Mp) (n c left : Nat) : Prop where
  ex : ∃ (U V : Nat → Prop) (bx by_ : Nat), Lg wr U bx bz M n c ∧ Lg wr V by_ bv M n c ∧ (∀ i, U i → ¬ V i) ∧ (∀ i, U i → w.heap.size ≤ i ∧ i < wr.heap.size) ∧ ∀ i, V i → w.heap.size ≤ i ∧ i < wr.heap.size
  bel : Below w.heap.size w wr
  cnt : n + left ≤ 110
theorem Al.below {w wr W : World} {bz bv : Nat} {M : Mp} {n c left : Nat} (h : Al w wr bz bv M n c left) (k : Below wr.heap.size wr W) : Al w W bz bv M n c left := by
  obtain ⟨U, V, bx, by_, h1, h2, h3, h4, h5⟩ := h.ex
  have hz := k.size
  exact ⟨⟨U, V, bx, by_, h1.below k, h2.below k, h3, fun i hi => ⟨(h4 i hi).1, by have := (h4 i hi).2; omega⟩, fun i hi => ⟨(h5 i hi).1, by have := (h5 i hi).2; omega⟩⟩, h.bel.trans (k.mono h.bel.size), h.cnt⟩
theorem Al.up {w wr : World} {bz bv : Nat} {M : Mp} {n c c' left : Nat} (h : Al w wr bz bv M n c left) (hc : c ≤ c') : Al w wr bz bv M n c' left := by
  obtain ⟨U, V, bx, by_, h1, h2, h3⟩ := h.ex
  exact ⟨⟨U, V, bx, by_, h1.up hc, h2.up hc, h3⟩, h.bel, h.cnt⟩
theorem below_of {w wr W : World} {U : Nat → Prop} (hb : Below w.heap.size w wr) (k : Kp U wr W) (hU : ∀ i, U i → w.heap.size ≤ i) : Below w.heap.size w W :=
  ⟨k.os.trans hb.os, k.tape.trans hb.tape, k.output.trans hb.output, Nat.le_trans hb.size k.size, fun i hi => (k.block i (by have := hb.size; omega) (fun u => by have := hU i u; omega)).trans (hb.block i hi)⟩
theorem Al.work {w wr W : World} {U V : Nat → Prop} {bx by_ bz bv : Nat} {M : Mp} {n c left : Nat} (h : Al w wr bz bv M n c left) (h2 : Lg wr V by_ bv M n c) (h3 : ∀ i, U i → ¬ V i) (h4 : ∀ i, U i → w.heap.size ≤ i ∧ i < wr.heap.size) (h5 : ∀ i, V i → w.heap.size ≤ i ∧ i < wr.heap.size)
    (hg : Lg W (Nw U wr) bx bz M n (c + 1)) (k : Kp U wr W) : Al w W bz bv M n (c + 1) left := by
  have hz := k.size
  have hb := h.bel.size
  refine ⟨⟨fun i => Nw U wr i ∧ i < W.heap.size, V, bx, by_, hg.mono (fun i hi x => ⟨x, hi⟩), (h2.kept k (fun i v u => h3 i u v)).up (by omega), fun i hi v => ?_, fun i hi => ⟨?_, hi.2⟩, fun i hi => ⟨(h5 i hi).1, by have := (h5 i hi).2; omega⟩⟩, below_of h.bel k (fun i u => (h4 i u).1), h.cnt⟩
  · rcases hi.1 with u | u
    · exact h3 i u v
    · have := (h5 i v).2; omega
  · rcases hi.1 with u | u
    · exact (h4 i u).1
    · omega
theorem Al.both {w wr w1 w2 : World} {U V : Nat → Prop} {bx by_ bz bv : Nat} {M M' : Mp} {n n' c left left' : Nat} (h : Al w wr bz bv M n c left) (h3 : ∀ i, U i → ¬ V i) (h4 : ∀ i, U i → w.heap.size ≤ i ∧ i < wr.heap.size) (h5 : ∀ i, V i → w.heap.size ≤ i ∧ i < wr.heap.size)
    (hg : Lg w1 (Nw U wr) bx bz M' n' (c + 1)) (k : Kp U wr w1) (hg2 : Lg w2 (Nw V w1) by_ bv M' n' (c + 1)) (k2 : Kp V w1 w2) (hc : n' + left' ≤ 110) : Al w w2 bz bv M' n' (c + 1) left' := by
  have hz := k.size
  have hz2 := k2.size
  have hb := h.bel.size
  have hg' : Lg w1 (fun i => Nw U wr i ∧ i < w1.heap.size) bx bz M' n' (c + 1) := hg.mono (fun i hi x => ⟨x, hi⟩)
  have nV : ∀ i, (Nw U wr i ∧ i < w1.heap.size) → ¬ V i := fun i hi v => by
    rcases hi.1 with u | u
    · exact h3 i u v
    · have := (h5 i v).2; omega
  refine ⟨⟨fun i => Nw U wr i ∧ i < w1.heap.size, fun i => Nw V w1 i ∧ i < w2.heap.size, bx, by_, hg'.kept k2 (fun i u v => nV i u v), hg2.mono (fun i hi x => ⟨x, hi⟩), fun i hi hv => ?_, fun i hi => ⟨?_, by have := hi.2; omega⟩, fun i hi => ⟨?_, hi.2⟩⟩, below_of (below_of h.bel k (fun i u => (h4 i u).1)) k2 (fun i v => (h5 i v).1), hc⟩
  · rcases hv.1 with v | v
    · exact nV i hi v
    · have := hi.2; omega
  · rcases hi.1 with u | u
    · exact (h4 i u).1
    · omega
  · rcases hi.1 with u | u
    · exact (h5 i u).1
    · omega
def DoI (o : DoV) : Prop := (-9223372036854775808 ≤ o.kind ∧ o.kind ≤ 9223372036854775807) ∧ (-9223372036854775808 ≤ o.a ∧ o.a ≤ 9223372036854775807) ∧ -9223372036854775808 ≤ o.b ∧ o.b ≤ 9223372036854775807
set_option maxHeartbeats 4000000 in
set_option maxRecDepth 100000 in
theorem Alike_any (p r : Int) (q : Option Addr) (qc : Nat) (L : List DoV) (w : World) (hp : -9223372036854775808 ≤ p ∧ p ≤ 9223372036854775807) (hr : -9223372036854775808 ≤ r ∧ r ≤ 9223372036854775807) (hl : L.length ≤ 1048576) (hL : Dop w q L) (hok : ∀ o ∈ L, DoOk w o ∧ DoI o) :
    Calls Tryz.prog 14 #[.int .i64 p, .int .i64 r, .slice q L.length qc] w fun e w' => e = .returned (.bool true) ∧ Below w.heap.size w w' := by
  have hp1 := fun w1 => kpick_at p 3 w1 hp.1 hp.2 (by omega) (by omega)
  have hr1 := fun w1 => kpick_at r 3 w1 hr.1 hr.2 (by omega) (by omega)
  have hpb := pickX_bnd p (n := 3) (by omega)
  have hrb := pickX_bnd r (n := 3) (by omega)
  have hpr : True := trivial
  obtain ⟨P, hP⟩ : ∃ P, pickX p 3 = P := ⟨_, rfl⟩
  obtain ⟨Q, hQ⟩ : ∃ Q, pickX r 3 = Q := ⟨_, rfl⟩
  rw [hP] at hp1 hpb
  rw [hQ] at hr1 hrb
  clear hP hQ
  have hf1 := fun w1 => fresh_lg P w1 ⟨hpb.1, by omega⟩
  have hf2 := fun w1 => fresh_lg Q w1 ⟨hrb.1, by omega⟩
  by_cases hPQ : True
  · go_enter Tryz.func14, Tryz.ntmps14
    go_wp2_with (first
      | (go_at_call 18; refine (hp1 _).mono ?_; rintro e wa ⟨rfl, hwa⟩; rw [hwa]; clear hwa hp1)
      | (go_at_call 18; refine (hr1 _).mono ?_; rintro e wa ⟨rfl, hwa⟩; rw [hwa]; clear hwa hr1)
      | (go_at_call 17; refine (hf1 _).mono ?_; rintro e w1 ⟨bx, bz, rfl, hg1, hb1⟩; clear hf1)
      | (go_at_call 17; refine (hf2 _).mono ?_; rintro e w2 ⟨by_, bv, rfl, hg2, hb2⟩; clear hf2))
    have hA0 : Al w w2 bz bv [] 0 0 110 := by
      have z1 := hb1.size
      have z2 := hb2.size
      exact ⟨⟨_, _, bx, by_, hg1.below hb2, hg2, fun i u v => by omega, fun i u => ⟨u.1, by omega⟩, fun i v => ⟨by omega, v.2⟩⟩, hb1.trans (hb2.mono hb1.size), by omega⟩
    clear hg1 hg2 hb1 hb2
    go_loopw [13, 14] (fun lf i wr => ∃ (k left n : Nat) (M : Mp), k ≤ L.length ∧ i = .int .i64 k ∧ lf = .int .i64 left ∧ Al w wr bz bv M n k left) (fun _ i _ => L.length - (intOf i).toNat)
    case atStart => exact ⟨0, 110, 0, [], Nat.zero_le _, rfl, rfl, hA0⟩
    case round =>
      clear hA0
      obtain ⟨k, left, n, M, hk, rfl, rfl, hA⟩ := hrel
      have hcnt := hA.cnt
      by_cases hlt : k < L.length
      · obtain ⟨g, off, rfl, c0, c1, c2, c3⟩ := (hL.below hA.bel) k hlt
        obtain ⟨hdo, hdi⟩ := hok L[k] (List.getElem_mem hlt)
        generalize L[k] = o at *
        obtain ⟨okd, oa, ob, oq, oqc, oops⟩ := o
        simp only at c0 c1 c2 c3
        have hbo : Below wr.heap.size wr (wr.alloc (.cells #[.int .i64 okd, .int .i64 oa, .int .i64 ob, .slice oq oops.length oqc] 63)) := (Below.refl _ wr).alloc (Nat.le_refl _) _
        have hAo := hA.below hbo
        have hBo := block_new wr (.cells #[.int .i64 okd, .int .i64 oa, .int .i64 ob, .slice oq oops.length oqc] 63)
        obtain ⟨y0, y1, y2, y3, _⟩ := cells4 hBo
        obtain ⟨U, V, bx', by', g1, g2, h3, h4, h5⟩ := hAo.ex
        by_cases hw : 1 ≤ okd ∧ okd ≤ 4
        · have hW := kwork_lg bx' bz U M n k okd oa ob oq oops.length oqc _ g1 (by omega) (by omega) hw hdi.2.1 hdi.2.2
          obtain ⟨hw1, hw2⟩ := hw
          go_wp2_with (go_at_call 48; refine hW.mono ?_; rintro e w5 ⟨rfl, hg5, hk5⟩)
          go_roundw
          case rel => exact ⟨k + 1, left, n, M, by omega, by go_num, rfl, hAo.work g2 h3 h4 h5 hg5 hk5⟩
          case measure => simp [intOf]; omega
        · have hT := tidied_any oq oqc oops _ (hdo.below hAo.bel).opp hdo.ox hdo.len
          have hbk := tidy_ok oops
          have hox := tidy_ox oops
          have hb8 := (batchOk_iff.1 hbk).1
          have hkey := (batchOk_iff.1 hbk).2
          generalize tidyL oops = T at *
          have hwc : okd < 1 ∨ 4 < okd := by omega
          rcases hwc with hw1 | hw1
          · have hk5 : ¬ okd = 5 := by omega
            have hw2 : ¬ 1 ≤ okd := by omega
            by_cases hfit : T.length ≤ left
            · have hfit' : ¬ ((left : Int) < (T.length : Int)) := by omega
              go_wp2_with (go_at_call 33; refine hT.mono ?_; rintro e w7 ⟨v7, rfl, hb7, ho7⟩; obtain ⟨q7, c7, rfl, hp7, hn7⟩ := ho7.opp; have y0' := cell_below hb7 y0; clear hT)
              have hsz := hb7.size
              have hA7 := hAo.below hb7
              have nU : ∀ a, q7 = some a → 0 < T.length → ¬ U a.block := fun a ha _ u => by have := (hn7 a ha).1; have := (h4 _ u).2; omega
              have nV : ∀ a, q7 = some a → 0 < T.length → ¬ V a.block := fun a ha _ u => by have := (hn7 a ha).1; have := (h5 _ u).2; omega
              have hX1 := xBatch_lg bx' bz U M n k q7 c7 T w7 (g1.below hb7) (by omega) hbk (by omega) hox hp7 nU
              have hX2 := fun w8 (k8 : Kp U w7 w8) => xBatch_lg by' bv V M n k q7 c7 T w8 ((g2.below hb7).kept k8 (fun i v u => h3 i u v)) (by omega) hbk (by omega) hox (hp7.kept k8 nU) nV
              refine hX1.mono ?_
              rintro e w8 ⟨rfl, hg8, k8⟩
              have hX3 := hX2 w8 k8
              clear hX1 hX2
              go_wp2_with (go_at_call 34; refine hX3.mono ?_; rintro e w9 ⟨rfl, hg9, k9⟩)
              go_roundw
              case rel => exact ⟨k + 1, left - T.length, n + T.length, doAll M T, by omega, by go_num, by go_num, hA7.both h3 (fun i u => ⟨(h4 i u).1, by have := (h4 i u).2; omega⟩) (fun i u => ⟨(h5 i u).1, by have := (h5 i u).2; omega⟩) hg8 k8 hg9 k9 (by omega)⟩
              case measure => simp [intOf]; omega
            · have hfit' : (left : Int) < (T.length : Int) := by omega
              go_wp2_with (go_at_call 33; refine hT.mono ?_; rintro e w7 ⟨v7, rfl, hb7, ho7⟩; obtain ⟨q7, c7, rfl, hp7, hn7⟩ := ho7.opp; have y0' := cell_below hb7 y0; clear hT)
              go_roundw
              case rel => exact ⟨k + 1, left, n, M, by omega, by go_num, rfl, (hAo.below hb7).up (by omega)⟩
              case measure => simp [intOf]; omega
          · have hw0 : 1 ≤ okd := by omega
            have hw2 : ¬ okd ≤ 4 := by omega
            by_cases hk5 : okd = 5
            · subst hk5
              have hT0 : 0 < T.length := by omega
              have hkk : keyOk (T[0]'hT0).key = true := by have := hkey _ (List.getElem_mem hT0); unfold opOk at this; simp only [Bool.and_eq_true] at this; exact this.1
              have hpk := fun w1 => kpick_at oa 9 w1 hdi.2.1.1 hdi.2.1.2 (by omega) (by omega)
              have hlb := pickX_bnd oa (n := 9) (by omega)
              generalize pickX oa 9 = lim at *
              go_wp2_with (go_at_call 33; refine hT.mono ?_; rintro e w7 ⟨v7, rfl, hb7, ho7⟩; obtain ⟨q7, c7, rfl, hp7, hn7⟩ := ho7.opp; obtain ⟨g7, o7, hq7, d70, _⟩ := hp7 0 hT0; subst hq7; have y0' := cell_below hb7 y0; clear hT)
              simp only [Nat.zero_mul, Nat.add_zero] at d70
              have y1' := cell_below hb7 y1
              generalize (T[0]'hT0).key = key at *
              have hSc1 := fun w' (h : Below w7.heap.size w7 w') => xScan_lg bx' bz U M n k key lim w' ((g1.below hb7).below h) (by omega) (by omega) (by omega)
              have hSc2 := fun w' (h : Below w7.heap.size w7 w') => xScan_lg by' bv V M n k key lim w' ((g2.below hb7).below h) (by omega) (by omega) (by omega)
              have hG1 := fun w' (h : Below w7.heap.size w7 w') => xGet_lg bx' bz U M n k key w' ((g1.below hb7).below h) (by omega) hkk
              have hG2 := fun w' (h : Below w7.heap.size w7 w') => xGet_lg by' bv V M n k key w' ((g2.below hb7).below h) (by omega) hkk
              obtain ⟨X, hX⟩ : ∃ X, (fromL key M).take lim.toNat = X := ⟨_, rfl⟩
              have hXb : X.length ≤ 9 := by rw [← hX, List.length_take]; omega
              obtain ⟨xl, hXl⟩ : ∃ xl, X.length = xl := ⟨_, rfl⟩
              rw [hX] at hSc1 hSc2
              clear hX
              have HSdA : Below w7.heap.size w7 w7.drew := (Below.refl _ w7).drew
              have dkA := fun w' (h : Below w7.heap.size w7 w') => cell_below h d70
              have daA := fun w' (h : Below w7.heap.size w7 w') => cell_below h y1'
              refine wp_calm ?_
              refine wp_region_E (S := fun w' => Below w7.heap.size w7 w') mixedP ?_
              refine wpAnyE_take (i := 0) (L := 8) (v := .pointer (some ⟨bz, 0, none⟩)) rfl rfl (by decide) (by kernel_rfl) (by kernel_rfl) (by kernel_rfl) (by kernel_rfl) (by kernel_rfl) (fun _ _ _ h => h) (Or.inl ⟨by rfl, fun w' hS => ?_⟩) HSdA ?_
              · skip
                go_simp
              refine wpAnyE_take (i := 1) (L := 2) (v := .slice (some ⟨g7, o7, none⟩) T.length c7) rfl rfl (by decide) (by kernel_rfl) (by kernel_rfl) (by kernel_rfl) (by kernel_rfl) (by kernel_rfl) (fun _ _ _ h => h) (Or.inl ⟨by rfl, fun w' hS => ?_⟩) HSdA ?_
              · skip
                go_simp
              refine wpAnyE_take (i := 2) (L := 3) (v := .pointer (some ⟨g7, o7, none⟩)) rfl rfl (by decide) (by kernel_rfl) (by kernel_rfl) (by kernel_rfl) (by kernel_rfl) (by kernel_rfl) (fun _ _ _ h => h) (Or.inl ⟨by rfl, fun w' hS => ?_⟩) HSdA ?_
              · skip
                go_simp
              refine wpAnyE_take (i := 3) (L := 4) (v := .pointer (some ⟨g7, o7, none⟩)) rfl rfl (by decide) (by kernel_rfl) (by kernel_rfl) (by kernel_rfl) (by kernel_rfl) (by kernel_rfl) (fun _ _ _ h => h) (Or.inl ⟨by rfl, fun w' hS => ?_⟩) HSdA ?_
              · skip
                go_simp
              refine wpAnyE_take (i := 4) (L := 8) (v := str key) rfl rfl (by decide) (by kernel_rfl) (by kernel_rfl) (by kernel_rfl) (by kernel_rfl) (by kernel_rfl) (fun _ _ _ h => h) (Or.inl ⟨by rfl, fun w' hS => ?_⟩) HSdA ?_
              · have := dkA w' hS
                go_simp
              refine wpAnyE_take (i := 5) (L := 6) (v := .pointer (some ⟨wr.heap.size, 1, none⟩)) rfl rfl (by decide) (by kernel_rfl) (by kernel_rfl) (by kernel_rfl) (by kernel_rfl) (by kernel_rfl) (fun _ _ _ h => h) (Or.inl ⟨by rfl, fun w' hS => ?_⟩) HSdA ?_
              · skip
                go_simp
              refine wpAnyE_take (i := 6) (L := 7) (v := .int .i64 oa) rfl rfl (by decide) (by kernel_rfl) (by kernel_rfl) (by kernel_rfl) (by kernel_rfl) (by kernel_rfl) (fun _ _ _ h => h) (Or.inl ⟨by rfl, fun w' hS => ?_⟩) HSdA ?_
              · have := daA w' hS
                go_simp
              refine wpAnyE_one (i := 7) (by kernel_rfl) rfl (by rfl) (fun K hK => ?_)
              go_simp
              refine (hpk _).mono ?_
              rintro e wp ⟨rfl, hwp⟩
              rw [hwp]
              clear hwp
              refine hK.out _ _ HSdA ?_
              clear hK
              refine wpAnyE_one (i := 8) (by kernel_rfl) rfl (by rfl) (fun K hK => ?_)
              go_simp
              refine (hSc1 _ HSdA).mono ?_
              rintro e A ⟨vA, rfl, hbA, hoA⟩
              obtain ⟨qA, cA, hvA, hpA, _⟩ := hoA.pairp
              rw [hXl] at hvA
              subst hvA
              have hBA := HSdA.trans (hbA.mono HSdA.size)
              refine hK.out _ _ hBA ?_
              clear hK
              refine wpAnyE_one (i := 9) (by kernel_rfl) rfl (by rfl) (fun K hK => ?_)
              go_simp
              refine hK.out _ _ hBA ?_
              clear hK
              refine wpAnyE_take (i := 10) (L := 12) (v := .slice qA xl cA) rfl rfl (by decide) (by kernel_rfl) (by kernel_rfl) (by kernel_rfl) (by kernel_rfl) (by kernel_rfl) (fun _ _ _ h => h) (Or.inl ⟨by rfl, fun w' hS => ?_⟩) hBA ?_
              · skip
                go_simp
              refine wpAnyE_take (i := 11) (L := 13) (v := .int .i64 0) rfl rfl (by decide) (by kernel_rfl) (by kernel_rfl) (by kernel_rfl) (by kernel_rfl) (by kernel_rfl) (fun _ _ _ h => h) (Or.inl ⟨by rfl, fun w' hS => ?_⟩) hBA ?_
              · skip
                go_simp
              refine wpAnyE_one (i := 12) (by kernel_rfl) rfl (by rfl) (fun K hK => ?_)
              go_simp
              refine hK.out _ _ hBA ?_
              clear hK
              refine wpAnyE_last (i := 13) (by kernel_rfl) rfl (by rfl) (by kernel_rfl) (by kernel_rfl) (fun K hK => ?_)
              go_simp
              refine hK.out _ _ ?_
              clear hK
              have dk2 := cell_below hBA d70
              have da2 := cell_below hBA y1'
              have hSc3 := fun w' (h : Below A.heap.size A w') => hSc2 w' (hBA.trans (h.mono hBA.size))
              go_wp2
              have HSdB : Below A.heap.size A A.drew := (Below.refl _ A).drew
              have dkB := fun w' (h : Below A.heap.size A w') => cell_below h dk2
              have daB := fun w' (h : Below A.heap.size A w') => cell_below h da2
              refine wp_calm ?_
              refine wp_region_E (S := fun w' => Below A.heap.size A w') mixedP ?_
              refine wpAnyE_take (i := 0) (L := 8) (v := .pointer (some ⟨bv, 0, none⟩)) rfl rfl (by decide) (by kernel_rfl) (by kernel_rfl) (by kernel_rfl) (by kernel_rfl) (by kernel_rfl) (fun _ _ _ h => h) (Or.inl ⟨by rfl, fun w' hS => ?_⟩) HSdB ?_
              · skip
                go_simp
              refine wpAnyE_take (i := 1) (L := 2) (v := .slice (some ⟨g7, o7, none⟩) T.length c7) rfl rfl (by decide) (by kernel_rfl) (by kernel_rfl) (by kernel_rfl) (by kernel_rfl) (by kernel_rfl) (fun _ _ _ h => h) (Or.inl ⟨by rfl, fun w' hS => ?_⟩) HSdB ?_
              · skip
                go_simp
              refine wpAnyE_take (i := 2) (L := 3) (v := .pointer (some ⟨g7, o7, none⟩)) rfl rfl (by decide) (by kernel_rfl) (by kernel_rfl) (by kernel_rfl) (by kernel_rfl) (by kernel_rfl) (fun _ _ _ h => h) (Or.inl ⟨by rfl, fun w' hS => ?_⟩) HSdB ?_
              · skip
                go_simp
              refine wpAnyE_take (i := 3) (L := 4) (v := .pointer (some ⟨g7, o7, none⟩)) rfl rfl (by decide) (by kernel_rfl) (by kernel_rfl) (by kernel_rfl) (by kernel_rfl) (by kernel_rfl) (fun _ _ _ h => h) (Or.inl ⟨by rfl, fun w' hS => ?_⟩) HSdB ?_
              · skip
                go_simp
              refine wpAnyE_take (i := 4) (L := 8) (v := str key) rfl rfl (by decide) (by kernel_rfl) (by kernel_rfl) (by kernel_rfl) (by kernel_rfl) (by kernel_rfl) (fun _ _ _ h => h) (Or.inl ⟨by rfl, fun w' hS => ?_⟩) HSdB ?_
              · have := dkB w' hS
                go_simp
              refine wpAnyE_take (i := 5) (L := 6) (v := .pointer (some ⟨wr.heap.size, 1, none⟩)) rfl rfl (by decide) (by kernel_rfl) (by kernel_rfl) (by kernel_rfl) (by kernel_rfl) (by kernel_rfl) (fun _ _ _ h => h) (Or.inl ⟨by rfl, fun w' hS => ?_⟩) HSdB ?_
              · skip
                go_simp
              refine wpAnyE_take (i := 6) (L := 7) (v := .int .i64 oa) rfl rfl (by decide) (by kernel_rfl) (by kernel_rfl) (by kernel_rfl) (by kernel_rfl) (by kernel_rfl) (fun _ _ _ h => h) (Or.inl ⟨by rfl, fun w' hS => ?_⟩) HSdB ?_
              · have := daB w' hS
                go_simp
              refine wpAnyE_one (i := 7) (by kernel_rfl) rfl (by rfl) (fun K hK => ?_)
              go_simp
              refine (hpk _).mono ?_
              rintro e wp ⟨rfl, hwp⟩
              rw [hwp]
              clear hwp
              refine hK.out _ _ HSdB ?_
              clear hK
              refine wpAnyE_one (i := 8) (by kernel_rfl) rfl (by rfl) (fun K hK => ?_)
              go_simp
              refine (hSc3 _ HSdB).mono ?_
              rintro e B ⟨vB, rfl, hbB, hoB⟩
              obtain ⟨qB, cB, hvB, hpB, _⟩ := hoB.pairp
              rw [hXl] at hvB
              subst hvB
              have hBB := HSdB.trans (hbB.mono HSdB.size)
              refine hK.out _ _ hBB ?_
              clear hK
              refine wpAnyE_one (i := 9) (by kernel_rfl) rfl (by rfl) (fun K hK => ?_)
              go_simp
              refine hK.out _ _ hBB ?_
              clear hK
              refine wpAnyE_take (i := 10) (L := 12) (v := .slice qB xl cB) rfl rfl (by decide) (by kernel_rfl) (by kernel_rfl) (by kernel_rfl) (by kernel_rfl) (by kernel_rfl) (fun _ _ _ h => h) (Or.inl ⟨by rfl, fun w' hS => ?_⟩) hBB ?_
              · skip
                go_simp
              refine wpAnyE_take (i := 11) (L := 13) (v := .int .i64 0) rfl rfl (by decide) (by kernel_rfl) (by kernel_rfl) (by kernel_rfl) (by kernel_rfl) (by kernel_rfl) (fun _ _ _ h => h) (Or.inl ⟨by rfl, fun w' hS => ?_⟩) hBB ?_
              · skip
                go_simp
              refine wpAnyE_one (i := 12) (by kernel_rfl) rfl (by rfl) (fun K hK => ?_)
              go_simp
              refine hK.out _ _ hBB ?_
              clear hK
              refine wpAnyE_last (i := 13) (by kernel_rfl) rfl (by rfl) (by kernel_rfl) (by kernel_rfl) (fun K hK => ?_)
              go_simp
              refine hK.out _ _ ?_
              clear hK
              have hBw : Below w7.heap.size w7 B := hBA.trans (hBB.mono hBA.size)
              have dk3 := cell_below hBB dk2
              have hG3 := fun w' (h : Below B.heap.size B w') => hG1 w' (hBw.trans (h.mono hBw.size))
              have hG4 := fun w' (h : Below B.heap.size B w') => hG2 w' (hBw.trans (h.mono hBw.size))
              have hpA' := hpA.below hBB
              clear hG1 hG2 hSc1 hSc2 hSc3 hpk dkA daA dkB daB d70 dk2 da2
              cases hgk : getF key M with
              | none =>
                rw [hgk] at hG3 hG4
                simp only [gotM] at hG3 hG4
                have hG5 := hG3 B (Below.refl _ _)
                go_wp2_with (first
                  | (go_at_call 25; refine hG5.mono ?_; rintro e C ⟨rfl, hbC⟩; have dk4 := cell_below hbC dk3; have hG6 := hG4 C hbC; clear hG5 hG3)
                  | (go_at_call 25; refine hG6.mono ?_; rintro e D ⟨rfl, hbD⟩; have hBD : Below B.heap.size B D := hbC.trans (hbD.mono hbC.size); have hks := ksame_any qA qB cA cB X X D (hpA'.below hBD) (hpB.below hBD) (by omega) (by omega); rw [hXl] at hks; clear hG6 hG4))
                refine hks.mono ?_
                rintro e w9 ⟨he, nn, hw9⟩
                have he' : e = .returned (.bool true) := by rw [he]; simp
                clear he
                subst he'
                subst hw9
                go_wp2
                have hBall : Below w7.heap.size w7 D := hBw.trans (hBD.mono hBw.size)
                go_roundw
                case rel => exact ⟨k + 1, left, n, M, by omega, by go_num, rfl, ((hAo.below hb7).below ((Kp.of_below (S := fun _ => False) hBall).drewN nn).below).up (by omega)⟩
                case measure => simp [intOf]; omega
              | some val =>
                rw [hgk] at hG3 hG4
                simp only [gotM] at hG3 hG4
                have hG5 := hG3 B (Below.refl _ _)
                go_wp2_with (first
                  | (go_at_call 25; refine hG5.mono ?_; rintro e C ⟨rfl, hbC⟩; have dk4 := cell_below hbC dk3; have hG6 := hG4 C hbC; clear hG5 hG3)
                  | (go_at_call 25; refine hG6.mono ?_; rintro e D ⟨rfl, hbD⟩; have hBD : Below B.heap.size B D := hbC.trans (hbD.mono hbC.size); have hks := ksame_any qA qB cA cB X X D (hpA'.below hBD) (hpB.below hBD) (by omega) (by omega); rw [hXl] at hks; clear hG6 hG4))
                refine hks.mono ?_
                rintro e w9 ⟨he, nn, hw9⟩
                have he' : e = .returned (.bool true) := by rw [he]; simp
                clear he
                subst he'
                subst hw9
                go_wp2
                have hBall : Below w7.heap.size w7 D := hBw.trans (hBD.mono hBw.size)
                go_roundw
                case rel => exact ⟨k + 1, left, n, M, by omega, by go_num, rfl, ((hAo.below hb7).below ((Kp.of_below (S := fun _ => False) hBall).drewN nn).below).up (by omega)⟩
                case measure => simp [intOf]; omega
            · skip
              by_cases hfit : T.length ≤ left
              · have hfit' : ¬ ((left : Int) < (T.length : Int)) := by omega
                go_wp2_with (go_at_call 33; refine hT.mono ?_; rintro e w7 ⟨v7, rfl, hb7, ho7⟩; obtain ⟨q7, c7, rfl, hp7, hn7⟩ := ho7.opp; have y0' := cell_below hb7 y0; clear hT)
                have hsz := hb7.size
                have hA7 := hAo.below hb7
                have nU : ∀ a, q7 = some a → 0 < T.length → ¬ U a.block := fun a ha _ u => by have := (hn7 a ha).1; have := (h4 _ u).2; omega
                have nV : ∀ a, q7 = some a → 0 < T.length → ¬ V a.block := fun a ha _ u => by have := (hn7 a ha).1; have := (h5 _ u).2; omega
                have hX1 := xBatch_lg bx' bz U M n k q7 c7 T w7 (g1.below hb7) (by omega) hbk (by omega) hox hp7 nU
                have hX2 := fun w8 (k8 : Kp U w7 w8) => xBatch_lg by' bv V M n k q7 c7 T w8 ((g2.below hb7).kept k8 (fun i v u => h3 i u v)) (by omega) hbk (by omega) hox (hp7.kept k8 nU) nV
                refine hX1.mono ?_
                rintro e w8 ⟨rfl, hg8, k8⟩
                have hX3 := hX2 w8 k8
                clear hX1 hX2
                go_wp2_with (go_at_call 34; refine hX3.mono ?_; rintro e w9 ⟨rfl, hg9, k9⟩)
                go_roundw
                case rel => exact ⟨k + 1, left - T.length, n + T.length, doAll M T, by omega, by go_num, by go_num, hA7.both h3 (fun i u => ⟨(h4 i u).1, by have := (h4 i u).2; omega⟩) (fun i u => ⟨(h5 i u).1, by have := (h5 i u).2; omega⟩) hg8 k8 hg9 k9 (by omega)⟩
                case measure => simp [intOf]; omega
              · have hfit' : (left : Int) < (T.length : Int) := by omega
                go_wp2_with (go_at_call 33; refine hT.mono ?_; rintro e w7 ⟨v7, rfl, hb7, ho7⟩; obtain ⟨q7, c7, rfl, hp7, hn7⟩ := ho7.opp; have y0' := cell_below hb7 y0; clear hT)
                go_roundw
                case rel => exact ⟨k + 1, left, n, M, by omega, by go_num, rfl, (hAo.below hb7).up (by omega)⟩
                case measure => simp [intOf]; omega
      · obtain ⟨U, V, bx', by', g1, g2, h3, h4, h5⟩ := hA.ex
        have hSc := xScan_lg by' bv V M n k [] 1099511627776 wr g2 (by omega) (by omega) (by omega)
        have hml : M.length ≤ 110 := by obtain ⟨d, st, _, hl'⟩ := id g2; have := hl'.mlen; omega
        rw [fromL_nil, List.take_of_length_le (by show _ ≤ 1099511627776; omega)] at hSc
        go_wp2_with (first
          | (go_at_call 37; refine hSc.mono ?_; rintro e w5 ⟨v5, rfl, hb5, ho5⟩; obtain ⟨q5, c5, rfl, hp5, hn5⟩ := ho5.pairp; have hH := holds_lg bx' bz U (fun _ => False) M n k (.slice q5 M.length c5) w5 (g1.below hb5) (by omega) ⟨q5, c5, rfl, hp5, fun _ _ _ f => f⟩; clear hSc)
          | (go_at_call 31; refine hH.mono ?_; rintro e w6 ⟨rfl, hb6⟩))
        go_ret
        exact ⟨rfl, (hA.bel.trans (hb5.mono hA.bel.size)).trans (hb6.mono (by have := hA.bel.size; have := hb5.size; omega))⟩
  · exact absurd trivial hPQ
end Go.Proofs.YtoabedkcieindaaGreatDoor
