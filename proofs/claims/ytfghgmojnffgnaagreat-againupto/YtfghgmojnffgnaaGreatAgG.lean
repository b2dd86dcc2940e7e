/- The statements' somewhere: a map behind some of the batches. -/
import Derived.Test.YtfghgmojnffgnaaGreatAgD
import Derived.Test.YtfghgmojnffgnaaGreatAppB
namespace Go.Proofs.YtfghgmojnffgnaaGreat
open Go.RowKit Go.Maps Go.Sort

/-- A row of batches that is there, outside of a set. -/
def BRow (w : World) (V : Nat → Prop) (v : Value) (hs : List (List Ox)) : Prop := ∃ q c, v = .slice q hs.length c ∧ ∀ i (h : i < hs.length), ∃ g off qi ci, q = some ⟨g, off, none⟩ ∧ ¬ V g ∧ w.cell? ⟨g, off + i, none⟩ = some (.slice qi hs[i].length ci) ∧ Opp w qi hs[i] ∧ (∀ a, qi = some a → 0 < hs[i].length → ¬ V a.block)
theorem BRow.kept {w w' : World} {V : Nat → Prop} {v : Value} {hs : List (List Ox)} (h : BRow w V v hs) (k : Kp V w w') : BRow w' V v hs := by
  obtain ⟨q, c, e, hr⟩ := h
  refine ⟨q, c, e, fun i hi => ?_⟩
  obtain ⟨g, off, qi, ci, e1, hn, hc, ho, ha⟩ := hr i hi
  have hbk := k.block g (World.block_lt_of_cell? w ⟨g, off + i, none⟩ hc) hn
  exact ⟨g, off, qi, ci, e1, hn, by simp only [World.cell?, hbk] at hc ⊢; exact hc, ho.kept k ha, ha⟩
theorem BRow.below {w w' : World} {V : Nat → Prop} {v : Value} {hs : List (List Ox)} (h : BRow w V v hs) (hb : Below w.heap.size w w') : BRow w' V v hs := by
  obtain ⟨q, c, e, hr⟩ := h
  refine ⟨q, c, e, fun i hi => ?_⟩
  obtain ⟨g, off, qi, ci, e1, hn, hc, ho, ha⟩ := hr i hi
  exact ⟨g, off, qi, ci, e1, hn, cell_below hb hc, ho.below hb, ha⟩
theorem BRow.mono {w : World} {V V' : Nat → Prop} {v : Value} {hs : List (List Ox)} (h : BRow w V v hs) (hV : ∀ k, k < w.heap.size → V' k → V k) : BRow w V' v hs := by
  obtain ⟨q, c, e, hr⟩ := h
  refine ⟨q, c, e, fun i hi => ?_⟩
  obtain ⟨g, off, qi, ci, e1, hn, hc, ho, ha⟩ := hr i hi
  refine ⟨g, off, qi, ci, e1, fun s => hn (hV g (World.block_lt_of_cell? w ⟨g, off + i, none⟩ hc) s), hc, ho, fun a e h0 s => ha a e h0 (hV _ ?_ s)⟩
  obtain ⟨g', off', e', c0, _⟩ := ho 0 h0
  rw [e] at e'
  cases e'
  exact World.block_lt_of_cell? w _ c0

theorem doAll_take (l : Mp) {hs : List (List Ox)} {k : Nat} (h : k < hs.length) : doAll l (hs.take (k + 1)).flatten = doAll (doAll l (hs.take k).flatten) hs[k] := by
  rw [List.take_succ_eq_append_getElem h, List.flatten_append, List.flatten_singleton, doAll_append]
theorem flat_take (hs : List (List Ox)) (k : Nat) : (hs.take k).flatten.length ≤ hs.flatten.length := by
  have e := congrArg List.flatten (List.take_append_drop k hs)
  rw [List.flatten_append] at e
  have := congrArg List.length e
  rw [List.length_append] at this
  omega
theorem flatten_at {hs : List (List Ox)} {k : Nat} (h : k < hs.length) : hs[k].length ≤ hs.flatten.length := by
  have e : hs = hs.take k ++ hs[k] :: hs.drop (k + 1) := by rw [List.getElem_cons_drop, List.take_append_drop]
  have h2 := congrArg (fun l => (List.flatten l).length) e
  simp only [List.flatten_append, List.length_append, List.flatten_cons] at h2
  omega

set_option maxHeartbeats 1000000 in
set_option maxRecDepth 20000 in
theorem somewhere_any (bx bz : Nat) (d : Dk) (st : St) (U V : Nat → Prop) (lv hv : Value) (l : Mp) (hs : List (List Ox)) (w : World) (hS : Shop w U bx bz d st) (hm : MOk st.m) (hl : st.m.length ≤ 4194304) (hr : ready d.turn d.dead st = 0) (hlv : PRow w lv l) (hri : rising l) (hnum : l.length + hs.flatten.length ≤ 1000000) (hhl : hs.length ≤ 1000000) (hh : BRow w V hv hs) (n : Nat) (hn : n ≤ hs.length) (hmn : st.m = doAll l (hs.take n).flatten) :
    Calls Tryz.prog 22 #[.pointer (some ⟨bz, 0, none⟩), lv, hv, .int .i64 0] w fun e w' => e = .returned (.bool true) ∧ Below w.heap.size w w' := by
  have hsc := xScan_shop bx bz d st U 1099511627776 w hS hm hl hr (by omega) (by omega)
  rw [List.take_of_length_le (by show _ ≤ 1099511627776; omega)] at hsc
  obtain ⟨hq, hc, rfl, hb⟩ := hh
  have HM : Hid (st.m = doAll l (hs.take n).flatten) := hmn
  clear hS hm hr hmn
  generalize st.m = M at *
  go_enter Tryz.func22, Tryz.ntmps22
  go_wp2_with (go_at_call 40; refine hsc.mono ?_; rintro e w1 ⟨v1, rfl, hb1, ho1⟩; clear hsc; obtain ⟨q1, c1, rfl, hp1, _⟩ := ho1.pairp)
  go_loopw [1, 11] (fun v i wr => ∃ k : Nat, k ≤ n ∧ i = .int .i64 k ∧ PRow wr v (doAll l (hs.take k).flatten) ∧ Below w1.heap.size w1 wr) (fun _ i _ => hs.length + 1 - (intOf i).toNat)
  case atStart => exact ⟨0, Nat.zero_le _, rfl, hlv.below hb1, Below.refl _ _⟩
  case round =>
    obtain ⟨k, hk, rfl, hrow, hB⟩ := hrel
    have hs1 := hb1.size
    have hsB := hB.size
    obtain ⟨q2, c2, rfl, hp2⟩ := hrow
    have hml := doAll_len l (hs.take k).flatten
    have hft := flat_take hs k
    have hsm := ksame_any q1 q2 c1 c2 M (doAll l (hs.take k).flatten) wr (hp1.below hB) hp2 (by omega) (by omega)
    have hBw : Below w.heap.size w wr := hb1.trans (hB.mono hs1)
    by_cases he : M = doAll l (hs.take k).flatten
    · rw [decide_eq_true he] at hsm
      clear he HM hml
      generalize doAll l (hs.take k).flatten = Lk at *
      go_wp2_with (go_at_call 20; refine hsm.mono ?_; rintro e w3 ⟨rfl, n3, rfl⟩; clear hsm)
      go_ret
      exact ⟨rfl, ((Kp.of_below (S := fun _ => False) hBw).drewN n3).below⟩
    · rw [decide_eq_false he] at hsm
      have hkn : k < n := by
        rcases Nat.lt_or_ge k n with h | h
        · exact h
        · exact absurd (by rw [HM.out, show k = n by omega]) he
      have hkl : k < hs.length := by omega
      obtain ⟨g, off, qi, ci, rfl, _, hcell, hop, _⟩ := hb k hkl
      have hfa := flatten_at hkl
      have hBd : ∀ m, Below w.heap.size w (wr.drewN m) := fun m => ((Kp.of_below (S := fun _ => False) hBw).drewN m).below
      have hBe : ∀ m, Below wr.heap.size wr (wr.drewN m) := fun m => ((Kp.refl (fun _ => False) wr).drewN m).below
      have hcell3 : ∀ m, (wr.drewN m).cell? ⟨g, off + k, none⟩ = some (.slice qi hs[k].length ci) := fun m => cell_below (hBd m) hcell
      have HS : Hid (doAll l (hs.take (k + 1)).flatten = doAll (doAll l (hs.take k).flatten) hs[k]) := doAll_take l hkl
      have hbe := fun m => behind_any (.slice q2 (doAll l (hs.take k).flatten).length c2) (doAll l (hs.take k).flatten) qi ci hs[k] (wr.drewN m) ⟨q2, c2, rfl, hp2.below (hBe m)⟩ (rising_doAll _ hri) (hop.below (hBd m)) (by omega)
      clear he HM hml hft hfa
      generalize doAll l (hs.take k).flatten = Lk at *
      go_wp2_with (go_at_call 20; refine hsm.mono ?_; rintro e w3 ⟨rfl, n3, rfl⟩; clear hsm; have hcell4 := hcell3 n3)
      go_wp2_with (go_at_call 31; refine (hbe n3).mono ?_; rintro e w4 ⟨v4, rfl, hb4, hr4⟩; clear hbe)
      go_roundw
      case rel =>
        refine ⟨k + 1, by omega, by go_num, by rw [HS.out]; exact hr4, ?_⟩
        exact (kp_below ((Kp.of_below (S := fun _ => False) hB).drewN n3) hb4).below
      case measure => simp [intOf]; omega

end Go.Proofs.YtfghgmojnffgnaaGreat

/- The statements' risky, where no fuse burns and nothing is flushed. -/
namespace Go.Proofs.YtfghgmojnffgnaaGreat
open Go.RowKit Go.Maps Go.Sort

theorem Tryz.info65 : (Tryz.prog.info? 65).map (fun i => (i.zero, i.size, i.bytes)) = some (some (.slice none 0 0), 1, 24) := by kernel_rfl

/-- A row of batches of the law's own. -/
def OwnBB (w : World) (base : Nat) (U : Nat → Prop) (v : Value) (hs : List (List Ox)) : Prop := ∃ vs : List Value, w.ownsRow base 65 1 v hs.length vs ∧ (∀ g, v.ownBlock = some g → ¬ U g) ∧ ∀ i (h : i < hs.length), ∃ qi ci, vs[i]? = some (.slice qi hs[i].length ci) ∧ Opp w qi hs[i] ∧ ∀ a, qi = some a → 0 < hs[i].length → ¬ U a.block ∧ v.ownBlock ≠ some a.block
theorem OwnBB.row {w : World} {base : Nat} {U : Nat → Prop} {v : Value} {hs : List (List Ox)} (h : OwnBB w base U v hs) : BRow w U v hs := by
  obtain ⟨vs, ho, hn, he⟩ := h
  rcases ho.2 with ⟨hv, h0⟩ | ⟨g, cap, cur, hv, hb, hgg, _⟩
  · exact ⟨none, 0, by rw [hv, h0], fun i hi => by omega⟩
  · refine ⟨_, cap, hv, fun i hi => ?_⟩
    obtain ⟨qi, ci, e1, e2, e3⟩ := he i hi
    have hc := World.ownsRow.cells ho (g := g) (by rw [hv]; rfl) i _ e1
    rw [Addr.add_lit] at hc
    exact ⟨g, 0, qi, ci, rfl, hn g (by rw [hv]; rfl), hc, e2, fun a ha h0 => (e3 a ha h0).1⟩
theorem Opp.lt {w : World} {q : Option Addr} {l : List Ox} (h : Opp w q l) : ∀ a, q = some a → 0 < l.length → a.block < w.heap.size := fun a ha h0 => by
  obtain ⟨g, off, e, c0, _⟩ := h 0 h0
  rw [ha] at e
  cases e
  exact World.block_lt_of_cell? w _ c0
/-- What was taken before stays, when a set grows by new blocks alone. -/
theorem OwnBB.step {w w' : World} {base : Nat} {U : Nat → Prop} {v : Value} {hs : List (List Ox)} (h : OwnBB w base U v hs) (k : Kp U w w') : OwnBB w' base (fun i => Nw U w i ∧ i < w'.heap.size) v hs := by
  obtain ⟨vs, ho, hn, he⟩ := h
  refine ⟨vs, ownsRow_of_block ho (fun g hg => k.block g (ho.lt g hg).2 (hn g hg)), fun g hg s => s.1.elim (hn g hg) (fun h => by have := (ho.lt g hg).2; omega), fun i hi => ?_⟩
  obtain ⟨qi, ci, e1, e2, e3⟩ := he i hi
  exact ⟨qi, ci, e1, e2.kept k (fun a ha h0 => (e3 a ha h0).1), fun a ha h0 => ⟨fun s => s.1.elim (e3 a ha h0).1 (fun h => by have := e2.lt a ha h0; omega), (e3 a ha h0).2⟩⟩
theorem OwnBB.below {w w' : World} {base : Nat} {U : Nat → Prop} {v : Value} {hs : List (List Ox)} (h : OwnBB w base U v hs) (b : Below w.heap.size w w') : OwnBB w' base U v hs := by
  obtain ⟨vs, ho, hn, he⟩ := h
  refine ⟨vs, ownsRow_of_block ho (fun g hg => b.block g (ho.lt g hg).2), hn, fun i hi => ?_⟩
  obtain ⟨qi, ci, e1, e2, e3⟩ := he i hi
  exact ⟨qi, ci, e1, e2.below b, e3⟩

theorem Bq.kept {w w' : World} {U V : Nat → Prop} {bx bz : Nat} {d : Dk} {st : St} {xs bs : List (List Ox)} (h : Bq w U bx bz d st xs bs) (k : Kp V w w') (hV : ∀ i, U i → ¬ V i) : Bq w' U bx bz d st xs bs :=
  ⟨h.shop.kept k hV, fun i s => Nat.lt_of_lt_of_le (h.up i s) k.size, h.log, h.m, h.turn, h.stuck, h.alive, h.left, h.loose⟩

set_option maxHeartbeats 1000000 in
set_option maxRecDepth 20000 in
theorem risky_calm (bx bz : Nat) (d : Dk) (st : St) (left : Nat) (U : Nat → Prop) (xs : List (List Ox)) (q : Option Addr) (qc : Nat) (L : List DoV) (w : World) (hW : Bq w U bx bz d st xs []) (hroom : (logOf xs).length + 88 * left ≤ 9680) (hnum : xs.flatten.length + left ≤ 110) (hl : L.length ≤ 1048576) (hkind : ∀ o ∈ L, o.kind ≠ 1) (hL : Dop w q L) (hq : ∀ a, q = some a → 0 < L.length → ¬ U a.block) (hok : ∀ o ∈ L, DoOk w o ∧ DoOut U o) :
    Calls Tryz.prog 16 #[.pointer (some ⟨bz, 0, none⟩), .slice q L.length qc, .int .i64 left] w fun e w' => ∃ v U' d' st' bs', e = .returned (.tuple #[v, .bool true]) ∧ Bq w' U' bx bz d' st' xs bs' ∧ BRow w' U' v bs' ∧ (logOf (xs ++ bs')).length ≤ 9680 ∧ (xs ++ bs').flatten.length ≤ 110 ∧ bs'.length ≤ 110 ∧ (∀ k, U' k → Nw U w k) ∧ Kp U w w' ∧ d'.turn = d.turn := by
  obtain ⟨i0, hi0, hz0, hz1, hz2⟩ := info_parts Tryz.info65
  go_enter Tryz.func16, Tryz.ntmps16
  go_wp2
  go_loopw [2, 8, 9] (fun lf v i wr => ∃ (k left' : Nat) (U' : Nat → Prop) (d' : Dk) (st' : St) (bs' : List (List Ox)), k ≤ L.length ∧ i = .int .i64 k ∧ lf = .int .i64 left' ∧ Bq wr U' bx bz d' st' xs bs' ∧ OwnBB wr w.heap.size U' v bs' ∧ (logOf (xs ++ bs')).length + 88 * left' ≤ 9680 ∧ (xs ++ bs').flatten.length + left' ≤ 110 ∧ bs'.length + left' ≤ left ∧ (∀ k, U' k → Nw U w k) ∧ Kp U w wr ∧ d'.turn = d.turn) (fun _ _ i _ => L.length - (intOf i).toNat)
  case atStart => exact ⟨0, left, U, d, st, [], Nat.zero_le _, rfl, rfl, hW, ⟨[], World.ownsRow_nil _ _ _ _, fun g hg => (by simp [Value.ownBlock] at hg), fun i hi => (by simp at hi)⟩, by simpa using hroom, by simpa using hnum, by simp, fun k s => .inl s, Kp.refl _ _, rfl⟩
  case round =>
    obtain ⟨k, left', U', d', st', bs', hk, rfl, rfl, hC, hO, hro, hnu, hbl, hU, kp, ht⟩ := hrel
    have hs := kp.size
    by_cases hlt : k < L.length
    · obtain ⟨g, off, rfl, c0, c1, c2, c3⟩ := (hL.kept kp hq) k hlt
      obtain ⟨hdo, hout⟩ := hok L[k] (List.getElem_mem hlt)
      have hkd := hkind L[k] (List.getElem_mem hlt)
      have hT := tidied_any L[k].q L[k].qc L[k].ops wr (hdo.opp.kept kp hout) hdo.ox (by have := hdo.len; omega)
      have hbk := tidy_ok L[k].ops
      have hox := tidy_ox L[k].ops
      have hb8 := (batchOk_iff.1 hbk).1
      have hen := enc88 hbk
      generalize tidyL L[k].ops = T at *
      have hlen := hC.len
      have hus := hC.log.used
      by_cases hfit : T.length ≤ left'
      · go_wp2_with (go_at_call 29; refine hT.mono ?_; rintro e w7 ⟨v7, rfl, hb7, ho7⟩; obtain ⟨q7, c7, rfl, hp7, hn7⟩ := ho7.opp; clear hT)
        have hC7 := hC.below hb7
        have hk7 := kp_below kp hb7
        have hsz := hb7.size
        have hnU : ∀ a, q7 = some a → 0 < T.length → ¬ U' a.block := fun a ha _ s => by have := (hn7 a ha).1; have := hC.up _ s; omega
        have hXB := xBatch_any bx bz d' st' U' q7 c7 T w7 hC7.shop hC7.log.ok (by have := hC7.log.files; omega) (by omega) (by omega) hox hp7 hnU
        obtain ⟨f, hx, hD', hf'⟩ := hC.batchX hbk (by omega)
        rw [hx] at hXB
        refine hXB.mono ?_
        rintro e w8 ⟨rfl, hS8, k8⟩
        clear hXB
        have hO8 := (hO.below hb7).step k8
        have hp8 := hp7.kept k8 hnU
        have hk8 : Kp U w w8 := hk7.trans k8 (fun i hi s => (hU i s).elim id (fun h => by omega))
        have hC8 := hC7.next hS8 hD'
        have hs8 := k8.size
        have hnT : ∀ a, q7 = some a → 0 < T.length → ¬ (fun i => Nw U' w7 i ∧ i < w8.heap.size) a.block := fun a ha h0 s => s.1.elim (hnU a ha h0) (fun h => by have := hp7.lt a ha h0; omega)
        obtain ⟨vs, ho8, hn8, he8⟩ := hO8
        have hVU : ∀ i, (fun i => Nw U' w7 i ∧ i < w8.heap.size) i → Nw U w i := fun i s => s.1.elim (fun u => hU i u) (fun u => .inr (by omega))
        generalize (fun i => Nw U' w7 i ∧ i < w8.heap.size) = V at *
        have hb110 : bs'.length ≤ 110 := by omega
        go_wp2_with (first
          | (at_builtin; refine wpList_app2 _ rfl _ _ 40 rfl 65 i0 _ 1 24 Tryz.underlying40 hi0 hz0 hz1 hz2 rfl (by decide) _ bs'.length vs rfl (ownsRow_up (World.ownsRow.alloc ho8 _) (fun _ _ => Nat.zero_le _)) ⟨w8.heap.size, 0, none⟩ 1 1 [.slice q7 T.length c7] rfl rfl (one_at w8 _ _) (by simp [Value.oneCell']) (by unfold maxLen; omega) (by omega) ?_; intro v' w9 hA)
          | go_in)
        have hkq : Kp (fun i => u8.ownBlock = some i) w8 w9 := ((Kp.refl _ w8).alloc (.cells #[.slice q7 T.length c7] 65)).trans (T := fun i => u8.ownBlock = some i) (by
          rcases hA.how with ⟨_, h⟩ | ⟨h, _⟩
          · exact h
          · exact Kp.of_below h) (fun _ _ e => e)
        have hng : ∀ g, v'.ownBlock = some g → (u8.ownBlock = some g) ∨ w8.heap.size + 1 ≤ g := fun g hg => by
          rcases hA.how with ⟨h, _⟩ | ⟨_, h⟩
          · exact .inl (h ▸ hg)
          · have := h g hg; rw [World.size_alloc] at this; exact .inr this
        have hq8 : ∀ a, q7 = some a → 0 < T.length → u8.ownBlock ≠ some a.block := fun a ha h0 e => by have := (hn7 a ha).1; have := (hO.choose_spec.1.lt _ e).2; omega
        go_roundw
        case rel =>
          refine ⟨k + 1, left' - T.length, V, _, _, bs' ++ [T], by omega, by go_num, by go_num, hC8.kept hkq (fun i s e => hn8 i e s), ⟨vs ++ [.slice q7 T.length c7], ownsRow_up (by rw [List.length_append]; exact hA.new) (fun g hg => ?_), fun g hg s => ?_, fun i hi => ?_⟩, ?_, ?_, ?_, fun i s => ?_, hk8.trans hkq (fun i hi e => ?_), ht⟩
          · rcases hng g hg with h | h
            · exact (ho8.lt g h).1
            · omega
          · rcases hng g hg with h | h
            · exact hn8 g h s
            · have := hC8.up g s; omega
          · rw [List.length_append, List.length_singleton] at hi
            by_cases hlast : i < bs'.length
            · obtain ⟨qi, ci, e1, e2, e3⟩ := he8 i hlast
              refine ⟨qi, ci, ?_, ?_, ?_⟩
              · rw [List.getElem?_append_left (by have := ho8.1; omega), List.getElem_append_left hlast]; exact e1
              · rw [List.getElem_append_left hlast]; exact e2.kept hkq (fun a ha h0 => (e3 a ha h0).2)
              · rw [List.getElem_append_left hlast]
                exact fun a ha h0 => ⟨(e3 a ha h0).1, fun e => (hng _ e).elim (e3 a ha h0).2 (fun h => by have := e2.lt a ha h0; omega)⟩
            · obtain rfl : i = bs'.length := by omega
              have hvl : vs.length = bs'.length := by have := ho8.1; omega
              refine ⟨q7, c7, ?_, ?_, ?_⟩
              · rw [List.getElem?_append_right (by omega), hvl, List.getElem_append_right (by omega)]; simp
              · rw [List.getElem_append_right (by omega)]; simp only [Nat.sub_self, List.getElem_singleton]; exact hp8.kept hkq hq8
              · rw [List.getElem_append_right (by omega)]
                simp only [Nat.sub_self, List.getElem_singleton]
                exact fun a ha h0 => ⟨hnT a ha h0, fun e => (hng _ e).elim (hq8 a ha h0) (fun h => by have := hp8.lt a ha h0; omega)⟩
          · rw [← List.append_assoc, logOf_append, logOf_one, List.length_append]; omega
          · have hfl : (xs ++ (bs' ++ [T])).flatten.length = (xs ++ bs').flatten.length + T.length := by rw [← List.append_assoc, List.flatten_append, List.length_append, List.flatten_singleton]
            omega
          · rw [List.length_append, List.length_singleton]; omega
          · exact hVU i s
          · have := (ho8.lt i e).1; omega
        case measure => simp [intOf]; omega
      · have hfit' : left' < T.length := by omega
        go_wp2_with (go_at_call 29; refine hT.mono ?_; rintro e w7 ⟨v7, rfl, hb7, ho7⟩; obtain ⟨q7, c7, rfl, hp7, hn7⟩ := ho7.opp; clear hT)
        go_ret2
        exact ⟨_, U', d', st', bs', rfl, hC.below hb7, (hO.below hb7).row, by omega, by omega, by omega, hU, kp_below kp hb7, ht⟩
    · go_wp2
      go_ret2
      exact ⟨_, U', d', st', bs', rfl, hC, hO.row, by omega, by omega, by omega, hU, kp, ht⟩

end Go.Proofs.YtfghgmojnffgnaaGreat
