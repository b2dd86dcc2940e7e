/- The statements' somewhere: a map behind some of the batches. -/
import Derived.Test.YtfghgmojnffgnaaGreatAgD
import Derived.Test.YtfghgmojnffgnaaGreatAppB
import Derived.Test.YtfghgmojnffgnaaGreatKeepR
namespace Go.Proofs.YtfghgmojnffgnaaGreat
open Go.RowKit Go.Maps Go.Sort

/-- A row of batches that is there, outside of a set. -/
def BRow (w : World) (V : Nat → Prop) (v : Value) (hs : List (List Ox)) : Prop := ∃ q c, v = .slice q hs.length c ∧ ∀ i (h : i < hs.length), ∃ g off qi ci, q = some ⟨g, off, none⟩ ∧ ¬ V g ∧ w.cell? ⟨g, off + i, none⟩ = some (.slice qi hs[i].length ci) ∧ Opp w qi hs[i] ∧ (∀ a, qi = some a → 0 < hs[i].length → ¬ V a.block)
theorem BRow.kept {w w' : World} {V : Nat → Prop} {v : Value} {hs : List (List Ox)} (h : BRow w V v hs) (k : Kp V w w') : BRow w' V v hs := by
  obtain ⟨q, c, e, hr⟩ := h
  refine ⟨q, c, e, fun i hi => ?_⟩
  obtain ⟨g, off, qi, ci, e1, hn, hc, ho, ha⟩ := hr i hi
  have hbk := k.block g (World.block_lt_of_cell? w ⟨g, off + i, none⟩ hc) hn
  exact ⟨g, off, qi, ci, e1, hn, by simp only [World.cell?, hbk] at hc ⊢; exact hc, ho.kept k ha, ha⟩
theorem BRow.below {w w' : World} {V : Nat → Prop} {v : Value} {hs : List (List Ox)} (h : BRow w V v hs) (hb : Below w.heap.size w w') : BRow w' V v hs := by
  obtain ⟨q, c, e, hr⟩ := h
  refine ⟨q, c, e, fun i hi => ?_⟩
  obtain ⟨g, off, qi, ci, e1, hn, hc, ho, ha⟩ := hr i hi
  exact ⟨g, off, qi, ci, e1, hn, cell_below hb hc, ho.below hb, ha⟩
theorem BRow.mono {w : World} {V V' : Nat → Prop} {v : Value} {hs : List (List Ox)} (h : BRow w V v hs) (hV : ∀ k, k < w.heap.size → V' k → V k) : BRow w V' v hs := by
  obtain ⟨q, c, e, hr⟩ := h
  refine ⟨q, c, e, fun i hi => ?_⟩
  obtain ⟨g, off, qi, ci, e1, hn, hc, ho, ha⟩ := hr i hi
  refine ⟨g, off, qi, ci, e1, fun s => hn (hV g (World.block_lt_of_cell? w ⟨g, off + i, none⟩ hc) s), hc, ho, fun a e h0 s => ha a e h0 (hV _ ?_ s)⟩
  obtain ⟨g', off', e', c0, _⟩ := ho 0 h0
  rw [e] at e'
  cases e'
  exact World.block_lt_of_cell? w _ c0

theorem doAll_take (l : Mp) {hs : List (List Ox)} {k : Nat} (h : k < hs.length) : doAll l (hs.take (k + 1)).flatten = doAll (doAll l (hs.take k).flatten) hs[k] := by
  rw [List.take_succ_eq_append_getElem h, List.flatten_append, List.flatten_singleton, doAll_append]
theorem flat_take (hs : List (List Ox)) (k : Nat) : (hs.take k).flatten.length ≤ hs.flatten.length := by
  have e := congrArg List.flatten (List.take_append_drop k hs)
  rw [List.flatten_append] at e
  have := congrArg List.length e
  rw [List.length_append] at this
  omega
theorem flatten_at {hs : List (List Ox)} {k : Nat} (h : k < hs.length) : hs[k].length ≤ hs.flatten.length := by
  have e : hs = hs.take k ++ hs[k] :: hs.drop (k + 1) := by rw [List.getElem_cons_drop, List.take_append_drop]
  have h2 := congrArg (fun l => (List.flatten l).length) e
  simp only [List.flatten_append, List.length_append, List.flatten_cons] at h2
  omega

set_option maxHeartbeats 1000000 in
set_option maxRecDepth 20000 in
theorem somewhere_any (bx bz : Nat) (d : Dk) (st : St) (U V : Nat → Prop) (lv hv : Value) (l : Mp) (hs : List (List Ox)) (w : World) (hS : Shop w U bx bz d st) (hm : MOk st.m) (hl : st.m.length ≤ 4194304) (hr : ready d.turn d.dead st = 0) (hlv : PRow w lv l) (hri : rising l) (hnum : l.length + hs.flatten.length ≤ 1000000) (hhl : hs.length ≤ 1000000) (hh : BRow w V hv hs) (n : Nat) (hn : n ≤ hs.length) (hmn : st.m = doAll l (hs.take n).flatten) :
    Calls Tryz.prog 22 #[.pointer (some ⟨bz, 0, none⟩), lv, hv, .int .i64 0] w fun e w' => e = .returned (.bool true) ∧ Below w.heap.size w w' := by
  have hsc := xScan_shop bx bz d st U 1099511627776 w hS hm hl hr (by omega) (by omega)
  rw [List.take_of_length_le (by show _ ≤ 1099511627776; omega)] at hsc
  obtain ⟨hq, hc, rfl, hb⟩ := hh
  have HM : Hid (st.m = doAll l (hs.take n).flatten) := hmn
  clear hS hm hr hmn
  generalize st.m = M at *
  go_enter Tryz.func22, Tryz.ntmps22
  go_wp2_with (go_at_call 40; refine hsc.mono ?_; rintro e w1 ⟨v1, rfl, hb1, ho1⟩; clear hsc; obtain ⟨q1, c1, rfl, hp1, _⟩ := ho1.pairp)
  go_loopw [1, 11] (fun v i wr => ∃ k : Nat, k ≤ n ∧ i = .int .i64 k ∧ PRow wr v (doAll l (hs.take k).flatten) ∧ Below w1.heap.size w1 wr) (fun _ i _ => hs.length + 1 - (intOf i).toNat)
  case atStart => exact ⟨0, Nat.zero_le _, rfl, hlv.below hb1, Below.refl _ _⟩
  case round =>
    obtain ⟨k, hk, rfl, hrow, hB⟩ := hrel
    have hs1 := hb1.size
    have hsB := hB.size
    obtain ⟨q2, c2, rfl, hp2⟩ := hrow
    have hml := doAll_len l (hs.take k).flatten
    have hft := flat_take hs k
    have hsm := ksame_any q1 q2 c1 c2 M (doAll l (hs.take k).flatten) wr (hp1.below hB) hp2 (by omega) (by omega)
    have hBw : Below w.heap.size w wr := hb1.trans (hB.mono hs1)
    by_cases he : M = doAll l (hs.take k).flatten
    · rw [decide_eq_true he] at hsm
      clear he HM hml
      generalize doAll l (hs.take k).flatten = Lk at *
      go_wp2_with (go_at_call 20; refine hsm.mono ?_; rintro e w3 ⟨rfl, n3, rfl⟩; clear hsm)
      go_ret
      exact ⟨rfl, ((Kp.of_below (S := fun _ => False) hBw).drewN n3).below⟩
    · rw [decide_eq_false he] at hsm
      have hkn : k < n := by
        rcases Nat.lt_or_ge k n with h | h
        · exact h
        · exact absurd (by rw [HM.out, show k = n by omega]) he
      have hkl : k < hs.length := by omega
      obtain ⟨g, off, qi, ci, rfl, _, hcell, hop, _⟩ := hb k hkl
      have hfa := flatten_at hkl
      have hBd : ∀ m, Below w.heap.size w (wr.drewN m) := fun m => ((Kp.of_below (S := fun _ => False) hBw).drewN m).below
      have hBe : ∀ m, Below wr.heap.size wr (wr.drewN m) := fun m => ((Kp.refl (fun _ => False) wr).drewN m).below
      have hcell3 : ∀ m, (wr.drewN m).cell? ⟨g, off + k, none⟩ = some (.slice qi hs[k].length ci) := fun m => cell_below (hBd m) hcell
      have HS : Hid (doAll l (hs.take (k + 1)).flatten = doAll (doAll l (hs.take k).flatten) hs[k]) := doAll_take l hkl
      have hbe := fun m => behind_any (.slice q2 (doAll l (hs.take k).flatten).length c2) (doAll l (hs.take k).flatten) qi ci hs[k] (wr.drewN m) ⟨q2, c2, rfl, hp2.below (hBe m)⟩ (rising_doAll _ hri) (hop.below (hBd m)) (by omega)
      clear he HM hml hft hfa
      generalize doAll l (hs.take k).flatten = Lk at *
      go_wp2_with (go_at_call 20; refine hsm.mono ?_; rintro e w3 ⟨rfl, n3, rfl⟩; clear hsm; have hcell4 := hcell3 n3)
      go_wp2_with (go_at_call 31; refine (hbe n3).mono ?_; rintro e w4 ⟨v4, rfl, hb4, hr4⟩; clear hbe)
      go_roundw
      case rel =>
        refine ⟨k + 1, by omega, by go_num, by rw [HS.out]; exact hr4, ?_⟩
        exact (kp_below ((Kp.of_below (S := fun _ => False) hB).drewN n3) hb4).below
      case measure => simp [intOf]; omega

end Go.Proofs.YtfghgmojnffgnaaGreat

/- The statements' risky, where no fuse burns and nothing is flushed. -/
namespace Go.Proofs.YtfghgmojnffgnaaGreat
open Go.RowKit Go.Maps Go.Sort

theorem Tryz.info65 : (Tryz.prog.info? 65).map (fun i => (i.zero, i.size, i.bytes)) = some (some (.slice none 0 0), 1, 24) := by kernel_rfl

/-- A row of batches of the law's own. -/
def OwnBB (w : World) (base : Nat) (U : Nat → Prop) (v : Value) (hs : List (List Ox)) : Prop := ∃ vs : List Value, w.ownsRow base 65 1 v hs.length vs ∧ (∀ g, v.ownBlock = some g → ¬ U g) ∧ ∀ i (h : i < hs.length), ∃ qi ci, vs[i]? = some (.slice qi hs[i].length ci) ∧ Opp w qi hs[i] ∧ ∀ a, qi = some a → 0 < hs[i].length → ¬ U a.block ∧ v.ownBlock ≠ some a.block
theorem OwnBB.row {w : World} {base : Nat} {U : Nat → Prop} {v : Value} {hs : List (List Ox)} (h : OwnBB w base U v hs) : BRow w U v hs := by
  obtain ⟨vs, ho, hn, he⟩ := h
  rcases ho.2 with ⟨hv, h0⟩ | ⟨g, cap, cur, hv, hb, hgg, _⟩
  · exact ⟨none, 0, by rw [hv, h0], fun i hi => by omega⟩
  · refine ⟨_, cap, hv, fun i hi => ?_⟩
    obtain ⟨qi, ci, e1, e2, e3⟩ := he i hi
    have hc := World.ownsRow.cells ho (g := g) (by rw [hv]; rfl) i _ e1
    rw [Addr.add_lit] at hc
    exact ⟨g, 0, qi, ci, rfl, hn g (by rw [hv]; rfl), hc, e2, fun a ha h0 => (e3 a ha h0).1⟩
theorem Opp.lt {w : World} {q : Option Addr} {l : List Ox} (h : Opp w q l) : ∀ a, q = some a → 0 < l.length → a.block < w.heap.size := fun a ha h0 => by
  obtain ⟨g, off, e, c0, _⟩ := h 0 h0
  rw [ha] at e
  cases e
  exact World.block_lt_of_cell? w _ c0
/-- What was taken before stays, when a set grows by new blocks alone. -/
theorem OwnBB.step {w w' : World} {base : Nat} {U : Nat → Prop} {v : Value} {hs : List (List Ox)} (h : OwnBB w base U v hs) (k : Kp U w w') : OwnBB w' base (fun i => Nw U w i ∧ i < w'.heap.size) v hs := by
  obtain ⟨vs, ho, hn, he⟩ := h
  refine ⟨vs, ownsRow_of_block ho (fun g hg => k.block g (ho.lt g hg).2 (hn g hg)), fun g hg s => s.1.elim (hn g hg) (fun h => by have := (ho.lt g hg).2; omega), fun i hi => ?_⟩
  obtain ⟨qi, ci, e1, e2, e3⟩ := he i hi
  exact ⟨qi, ci, e1, e2.kept k (fun a ha h0 => (e3 a ha h0).1), fun a ha h0 => ⟨fun s => s.1.elim (e3 a ha h0).1 (fun h => by have := e2.lt a ha h0; omega), (e3 a ha h0).2⟩⟩
theorem OwnBB.below {w w' : World} {base : Nat} {U : Nat → Prop} {v : Value} {hs : List (List Ox)} (h : OwnBB w base U v hs) (b : Below w.heap.size w w') : OwnBB w' base U v hs := by
  obtain ⟨vs, ho, hn, he⟩ := h
  refine ⟨vs, ownsRow_of_block ho (fun g hg => b.block g (ho.lt g hg).2), hn, fun i hi => ?_⟩
  obtain ⟨qi, ci, e1, e2, e3⟩ := he i hi
  exact ⟨qi, ci, e1, e2.below b, e3⟩

theorem Bq.kept {w w' : World} {U V : Nat → Prop} {bx bz : Nat} {d : Dk} {st : St} {xs bs : List (List Ox)} (h : Bq w U bx bz d st xs bs) (k : Kp V w w') (hV : ∀ i, U i → ¬ V i) : Bq w' U bx bz d st xs bs :=
  ⟨h.shop.kept k hV, fun i s => Nat.lt_of_lt_of_le (h.up i s) k.size, h.log, h.m, h.turn, h.stuck, h.alive, h.left, h.loose⟩

set_option maxHeartbeats 1000000 in
set_option maxRecDepth 20000 in
theorem risky_calm (bx bz : Nat) (d : Dk) (st : St) (left : Nat) (U : Nat → Prop) (xs : List (List Ox)) (q : Option Addr) (qc : Nat) (L : List DoV) (w : World) (hW : Bq w U bx bz d st xs []) (hroom : (logOf xs).length + 88 * left ≤ 9680) (hnum : xs.flatten.length + left ≤ 110) (hl : L.length ≤ 1048576) (hkind : ∀ o ∈ L, o.kind ≠ 1) (hL : Dop w q L) (hq : ∀ a, q = some a → 0 < L.length → ¬ U a.block) (hok : ∀ o ∈ L, DoOk w o ∧ DoOut U o) :
    Calls Tryz.prog 16 #[.pointer (some ⟨bz, 0, none⟩), .slice q L.length qc, .int .i64 left] w fun e w' => ∃ v U' d' st' bs', e = .returned (.tuple #[v, .bool true]) ∧ Bq w' U' bx bz d' st' xs bs' ∧ BRow w' U' v bs' ∧ (logOf (xs ++ bs')).length ≤ 9680 ∧ (xs ++ bs').flatten.length ≤ 110 ∧ bs'.length ≤ 110 ∧ (∀ k, U' k → Nw U w k) ∧ Kp U w w' ∧ d'.turn = d.turn := by
  obtain ⟨i0, hi0, hz0, hz1, hz2⟩ := info_parts Tryz.info65
  go_enter Tryz.func16, Tryz.ntmps16
  go_wp2
  go_loopw [2, 8, 9] (fun lf v i wr => ∃ (k left' : Nat) (U' : Nat → Prop) (d' : Dk) (st' : St) (bs' : List (List Ox)), k ≤ L.length ∧ i = .int .i64 k ∧ lf = .int .i64 left' ∧ Bq wr U' bx bz d' st' xs bs' ∧ OwnBB wr w.heap.size U' v bs' ∧ (logOf (xs ++ bs')).length + 88 * left' ≤ 9680 ∧ (xs ++ bs').flatten.length + left' ≤ 110 ∧ bs'.length + left' ≤ left ∧ (∀ k, U' k → Nw U w k) ∧ Kp U w wr ∧ d'.turn = d.turn) (fun _ _ i _ => L.length - (intOf i).toNat)
  case atStart => exact ⟨0, left, U, d, st, [], Nat.zero_le _, rfl, rfl, hW, ⟨[], World.ownsRow_nil _ _ _ _, fun g hg => (by simp [Value.ownBlock] at hg), fun i hi => (by simp at hi)⟩, by simpa using hroom, by simpa using hnum, by simp, fun k s => .inl s, Kp.refl _ _, rfl⟩
  case round =>
    obtain ⟨k, left', U', d', st', bs', hk, rfl, rfl, hC, hO, hro, hnu, hbl, hU, kp, ht⟩ := hrel
    have hs := kp.size
    by_cases hlt : k < L.length
    · obtain ⟨g, off, rfl, c0, c1, c2, c3⟩ := (hL.kept kp hq) k hlt
      obtain ⟨hdo, hout⟩ := hok L[k] (List.getElem_mem hlt)
      have hkd := hkind L[k] (List.getElem_mem hlt)
      have hT := tidied_any L[k].q L[k].qc L[k].ops wr (hdo.opp.kept kp hout) hdo.ox (by have := hdo.len; omega)
      have hbk := tidy_ok L[k].ops
      have hox := tidy_ox L[k].ops
      have hb8 := (batchOk_iff.1 hbk).1
      have hen := enc88 hbk
      generalize tidyL L[k].ops = T at *
      have hlen := hC.len
      have hus := hC.log.used
      by_cases hfit : T.length ≤ left'
      · go_wp2_with (go_at_call 29; refine hT.mono ?_; rintro e w7 ⟨v7, rfl, hb7, ho7⟩; obtain ⟨q7, c7, rfl, hp7, hn7⟩ := ho7.opp; clear hT)
        have hC7 := hC.below hb7
        have hk7 := kp_below kp hb7
        have hsz := hb7.size
        have hnU : ∀ a, q7 = some a → 0 < T.length → ¬ U' a.block := fun a ha _ s => by have := (hn7 a ha).1; have := hC.up _ s; omega
        have hXB := xBatch_any bx bz d' st' U' q7 c7 T w7 hC7.shop hC7.log.ok (by have := hC7.log.files; omega) (by omega) (by omega) hox hp7 hnU
        obtain ⟨f, hx, hD', hf'⟩ := hC.batchX hbk (by omega)
        rw [hx] at hXB
        refine hXB.mono ?_
        rintro e w8 ⟨rfl, hS8, k8⟩
        clear hXB
        have hO8 := (hO.below hb7).step k8
        have hp8 := hp7.kept k8 hnU
        have hk8 : Kp U w w8 := hk7.trans k8 (fun i hi s => (hU i s).elim id (fun h => by omega))
        have hC8 := hC7.next hS8 hD'
        have hs8 := k8.size
        have hnT : ∀ a, q7 = some a → 0 < T.length → ¬ (fun i => Nw U' w7 i ∧ i < w8.heap.size) a.block := fun a ha h0 s => s.1.elim (hnU a ha h0) (fun h => by have := hp7.lt a ha h0; omega)
        obtain ⟨vs, ho8, hn8, he8⟩ := hO8
        have hVU : ∀ i, (fun i => Nw U' w7 i ∧ i < w8.heap.size) i → Nw U w i := fun i s => s.1.elim (fun u => hU i u) (fun u => .inr (by omega))
        generalize (fun i => Nw U' w7 i ∧ i < w8.heap.size) = V at *
        have hb110 : bs'.length ≤ 110 := by omega
        go_wp2_with (first
          | (at_builtin; refine wpList_app2 _ rfl _ _ 40 rfl 65 i0 _ 1 24 Tryz.underlying40 hi0 hz0 hz1 hz2 rfl (by decide) _ bs'.length vs rfl (ownsRow_up (World.ownsRow.alloc ho8 _) (fun _ _ => Nat.zero_le _)) ⟨w8.heap.size, 0, none⟩ 1 1 [.slice q7 T.length c7] rfl rfl (one_at w8 _ _) (by simp [Value.oneCell']) (by unfold maxLen; omega) (by omega) ?_; intro v' w9 hA)
          | go_in)
        have hkq : Kp (fun i => u8.ownBlock = some i) w8 w9 := ((Kp.refl _ w8).alloc (.cells #[.slice q7 T.length c7] 65)).trans (T := fun i => u8.ownBlock = some i) (by
          rcases hA.how with ⟨_, h⟩ | ⟨h, _⟩
          · exact h
          · exact Kp.of_below h) (fun _ _ e => e)
        have hng : ∀ g, v'.ownBlock = some g → (u8.ownBlock = some g) ∨ w8.heap.size + 1 ≤ g := fun g hg => by
          rcases hA.how with ⟨h, _⟩ | ⟨_, h⟩
          · exact .inl (h ▸ hg)
          · have := h g hg; rw [World.size_alloc] at this; exact .inr this
        have hq8 : ∀ a, q7 = some a → 0 < T.length → u8.ownBlock ≠ some a.block := fun a ha h0 e => by have := (hn7 a ha).1; have := (hO.choose_spec.1.lt _ e).2; omega
        go_roundw
        case rel =>
          refine ⟨k + 1, left' - T.length, V, _, _, bs' ++ [T], by omega, by go_num, by go_num, hC8.kept hkq (fun i s e => hn8 i e s), ⟨vs ++ [.slice q7 T.length c7], ownsRow_up (by rw [List.length_append]; exact hA.new) (fun g hg => ?_), fun g hg s => ?_, fun i hi => ?_⟩, ?_, ?_, ?_, fun i s => ?_, hk8.trans hkq (fun i hi e => ?_), ht⟩
          · rcases hng g hg with h | h
            · exact (ho8.lt g h).1
            · omega
          · rcases hng g hg with h | h
            · exact hn8 g h s
            · have := hC8.up g s; omega
          · rw [List.length_append, List.length_singleton] at hi
            by_cases hlast : i < bs'.length
            · obtain ⟨qi, ci, e1, e2, e3⟩ := he8 i hlast
              refine ⟨qi, ci, ?_, ?_, ?_⟩
              · rw [List.getElem?_append_left (by have := ho8.1; omega), List.getElem_append_left hlast]; exact e1
              · rw [List.getElem_append_left hlast]; exact e2.kept hkq (fun a ha h0 => (e3 a ha h0).2)
              · rw [List.getElem_append_left hlast]
                exact fun a ha h0 => ⟨(e3 a ha h0).1, fun e => (hng _ e).elim (e3 a ha h0).2 (fun h => by have := e2.lt a ha h0; omega)⟩
            · obtain rfl : i = bs'.length := by omega
              have hvl : vs.length = bs'.length := by have := ho8.1; omega
              refine ⟨q7, c7, ?_, ?_, ?_⟩
              · rw [List.getElem?_append_right (by omega), hvl, List.getElem_append_right (by omega)]; simp
              · rw [List.getElem_append_right (by omega)]; simp only [Nat.sub_self, List.getElem_singleton]; exact hp8.kept hkq hq8
              · rw [List.getElem_append_right (by omega)]
                simp only [Nat.sub_self, List.getElem_singleton]
                exact fun a ha h0 => ⟨hnT a ha h0, fun e => (hng _ e).elim (hq8 a ha h0) (fun h => by have := hp8.lt a ha h0; omega)⟩
          · rw [← List.append_assoc, logOf_append, logOf_one, List.length_append]; omega
          · have hfl : (xs ++ (bs' ++ [T])).flatten.length = (xs ++ bs').flatten.length + T.length := by rw [← List.append_assoc, List.flatten_append, List.length_append, List.flatten_singleton]
            omega
          · rw [List.length_append, List.length_singleton]; omega
          · exact hVU i s
          · have := (ho8.lt i e).1; omega
        case measure => simp [intOf]; omega
      · have hfit' : left' < T.length := by omega
        go_wp2_with (go_at_call 29; refine hT.mono ?_; rintro e w7 ⟨v7, rfl, hb7, ho7⟩; obtain ⟨q7, c7, rfl, hp7, hn7⟩ := ho7.opp; clear hT)
        go_ret2
        exact ⟨_, U', d', st', bs', rfl, hC.below hb7, (hO.below hb7).row, by omega, by omega, by omega, hU, kp_below kp hb7, ht⟩
    · go_wp2
      go_ret2
      exact ⟨_, U', d', st', bs', rfl, hC, hO.row, by omega, by omega, by omega, hU, kp, ht⟩

end Go.Proofs.YtfghgmojnffgnaaGreat

/- The statements' twin. -/
namespace Go.Proofs.YtfghgmojnffgnaaGreat
open Go.RowKit Go.Maps Go.Sort

theorem getF_map {α β : Type} (n : Nm) (f : α → β) : ∀ fs : List (Nm × α), getF n (fs.map fun x => (x.1, f x.2)) = (getF n fs).map f
  | [] => rfl
  | x :: r => by
    simp only [List.map_cons, getF]
    by_cases e : x.1 = n
    · rw [if_pos e, if_pos e]; rfl
    · rw [if_neg e, if_neg e]; exact getF_map n f r
theorem SLog.copy {d : Dk} {m : Mp} (h : SLog d m) : SLog (copyOf d) m ∧ Calm (copyOf d) := by
  obtain ⟨g, hp, hg⟩ := h
  have hc := cpk_calm hp.ok d.files.length
  rw [cpk_all d (Nat.le_refl _)] at hc
  refine ⟨⟨g, ⟨hc.ok, rfl, fun x hx => ?_, ?_⟩, hg⟩, hc⟩
  · obtain ⟨y, hy, rfl⟩ := List.mem_map.1 hx
    exact hp.ours y hy
  · show getF logN (d.files.map fun x => (x.1, (⟨x.2.bytes, x.2.bytes.length⟩ : Fl))) = g
    rw [getF_map logN (fun f : Fl => (⟨f.bytes, f.bytes.length⟩ : Fl)), hp.log]
    rcases hg with ⟨rfl, _⟩ | ⟨cs, p, f, rfl, _, _, _, _, hs⟩
    · rfl
    · rw [Option.map_some, ← hs]
theorem ours_name {n : Nm} (h : oursB n = true) : nameOk n = true := by
  simp only [oursB, Bool.or_eq_true, beq_iff_eq] at h
  rcases h with rfl | rfl
  · exact logName
  · exact newName
theorem ours_two {fs : List (Nm × Fl)} (hr : rising fs) (ho : ∀ x ∈ fs, oursB x.1 = true) : fs.length ≤ 2 := by
  match fs, hr, ho with
  | [], _, _ => simp
  | [_], _, _ => simp
  | [_, _], _, _ => simp
  | x :: y :: z :: r, hr, ho =>
    have hx := ho x (by simp)
    have hy := ho y (by simp)
    have hz := ho z (by simp)
    have h1 := (List.pairwise_cons.1 hr).1 y (by simp)
    have h2 := (List.pairwise_cons.1 hr).1 z (by simp)
    have h3 := (List.pairwise_cons.1 (List.pairwise_cons.1 hr).2).1 z (by simp)
    have n1 := before_ne h1
    have n2 := before_ne h2
    have n3 := before_ne h3
    simp only [oursB, Bool.or_eq_true, beq_iff_eq] at hx hy hz
    rcases hx with hx | hx <;> rcases hy with hy | hy <;> rcases hz with hz | hz <;> simp_all
theorem SLog.small {d : Dk} {m : Mp} (h : SLog d m) : d.files.length ≤ 2 ∧ ∀ x ∈ d.files, nameOk x.1 = true := by
  obtain ⟨g, hp, _⟩ := h
  exact ⟨ours_two hp.ok.rise hp.ours, fun x hx => ours_name (hp.ours x hx)⟩

/-- Open, where no fuse burns and the log is a store's. -/
theorem xOpen_slog (bx : Nat) (d : Dk) (m : Mp) (p : Int) (S : Nat → Prop) (w : World) (hX : XAt w S bx d) (hL : SLog d m) (hC : Calm d) (hml : m.length ≤ 110) (hu : used d.files + 9680 ≤ 1048576) (ht0 : 0 ≤ d.turn) (ht1 : d.turn ≤ 1000000) (hp0 : 0 ≤ p) (hp2 : p ≤ 2) :
    Calls Tryz.prog 21 #[.pointer (some ⟨bx, 0, none⟩), .int .i64 p] w fun e w' => ∃ bz d2 st2, e = .returned (.tuple #[.pointer (some ⟨bz, 0, none⟩), .int .i64 0]) ∧ Shop w' (Nw S w) bx bz d2 st2 ∧ Kp S w w' ∧ st2.m = m ∧ st2.turn = d2.turn ∧ Calm d2 ∧ d2.files.length ≤ 2 := by
  refine (xOpen_any bx d p S w hX hL.ok (by have := hL.small.1; omega) ht0 (by omega) hp0 hp2).mono ?_
  obtain ⟨h1, h2, h3, h4⟩ := hL.open hC.alive hml hu
  have hc := hC.open.2.1
  rintro e w' ⟨k, (⟨hz, bz, st2, rfl, hS, g1, g2, g3⟩ | ⟨hne, rfl, hX'⟩)⟩
  · rcases h4 with ⟨_, hm, _⟩ | ⟨h, _⟩
    · exact ⟨bz, _, st2, rfl, hS, k, g3.trans hm, g1.trans h2.symm, hc, h1.small.1⟩
    · rw [hz] at h; cases h
  · rcases h4 with ⟨h, _⟩ | ⟨_, h⟩
    · exact absurd h hne
    · rw [hc.alive] at h; cases h

set_option maxHeartbeats 1000000 in
set_option maxRecDepth 20000 in
theorem twin_calm (bx : Nat) (d : Dk) (m l : Mp) (hs : List (List Ox)) (n : Nat) (p : Int) (S V : Nat → Prop) (lv hv : Value) (w : World) (hX : XAt w S bx d) (hSl : ∀ k, S k → k < w.heap.size) (hL : SLog d m) (hC : Calm d) (hml : m.length ≤ 110) (hu : used d.files + 9680 ≤ 1048576) (ht0 : 0 ≤ d.turn) (ht1 : d.turn ≤ 1000000) (hp0 : 0 ≤ p) (hp2 : p ≤ 2) (hlv : PRow w lv l) (hri : rising l) (hnum : l.length + hs.flatten.length ≤ 1000000) (hhl : hs.length ≤ 1000000) (hh : BRow w V hv hs) (hn : n ≤ hs.length) (hmn : m = doAll l (hs.take n).flatten) :
    Calls Tryz.prog 19 #[.pointer (some ⟨bx, 0, none⟩), .int .i64 p, lv, hv] w fun e w' => ∃ sv pv, e = .returned (.tuple #[sv, pv, .bool true]) ∧ Kp S w w' := by
  obtain ⟨hfl, hnm⟩ := hL.small
  have hCp := copied_all bx d S w hX hL.ok hC.alive hnm (by omega)
  obtain ⟨hLc, hCc⟩ := hL.copy
  have huc : used (copyOf d).files = used d.files := used_copy d.files
  have htc : (copyOf d).turn = 0 := rfl
  generalize copyOf d = dc at *
  have HM : Hid (m = doAll l (hs.take n).flatten) := hmn
  have hmo := hL.mok
  clear hmn
  go_enter Tryz.func19, Tryz.ntmps19
  go_wp2_with (go_at_call 39; refine hCp.mono ?_; rintro e w1 ⟨bc, rfl, hX1, hb1⟩; clear hCp)
  have hs1 := hb1.size
  have hO1 := xOpen_slog bc dc m p _ w1 hX1 hLc hCc hml (by omega) (by omega) (by omega) hp0 hp2
  go_wp2_with (go_at_call 21; refine hO1.mono ?_; rintro e w2 ⟨bu, du, su, rfl, hS2, k2, hm2, ht2, hc2, hf2⟩; clear hO1)
  have hB2 : Below w.heap.size w w2 := below_kp hb1 k2
  have hS2' : Shop w2 (fun k => w.heap.size ≤ k ∧ k < w2.heap.size) bc bu du su := hS2.mono (fun k hk s => ⟨s.elim id (fun h => Nat.le_trans hs1 h), hk⟩)
  have hsc := xScan_shop bc bu du su _ 1099511627776 w2 hS2' (by rw [hm2]; exact hmo) (by rw [hm2]; omega) (ready_open hc2.alive ht2) (by omega) (by omega)
  rw [hm2, List.take_of_length_le (by show m.length ≤ 1099511627776; omega)] at hsc
  go_wp2_with (go_at_call 40; refine hsc.mono ?_; rintro e w3 ⟨pv, rfl, hb3, ho3⟩; clear hsc)
  have hB3 := hB2.trans (hb3.mono hB2.size)
  have hso := somewhere_any bc bu du su _ V lv hv l hs w3 (hS2'.below hb3) (by rw [hm2]; exact hmo) (by rw [hm2]; omega) (ready_open hc2.alive ht2) (hlv.below hB3) hri hnum hhl (hh.below hB3) n hn (by rw [hm2]; exact HM.out)
  go_wp2_with (go_at_call 22; refine hso.mono ?_; rintro e w4 ⟨rfl, hb4⟩; clear hso)
  have hB4 := hB3.trans (hb4.mono hB3.size)
  have hs34 := hb3.size
  have hs44 := hb4.size
  have hPu := xPut_any bc bu du su _ [116, 114, 105, 97, 108] [120] w4 ((hS2'.below hb3).below hb4) (fun i s => by omega) hc2.ok (by omega) (by rw [hm2]; omega) (by decide) (by decide)
  go_wp2_with (go_at_call 28; refine hPu.mono ?_; rintro e w5 ⟨⟨r5, rfl⟩, k5⟩; clear hPu)
  have hB5 : Below w.heap.size w w5 := below_kp2 hB4 k5 (fun i s => s.1)
  have hX5 := hX.kept (T := fun _ => False) (Kp.of_below hB5) (fun _ _ f => f)
  have hO5 := xOpen_slog bx d m p S w5 hX5 hL hC hml hu ht0 ht1 hp0 hp2
  go_wp2_with (go_at_call 21; refine hO5.mono ?_; rintro e w6 ⟨bz, d6, s6, rfl, hS6, k6, hm6, ht6, hc6, hf6⟩; clear hO5)
  obtain ⟨q3, c3, rfl, hp3, hn3⟩ := ho3.pairp
  have hs2w := hB2.size
  have hrow4 : PRowS w4 (fun k => w.heap.size ≤ k ∧ k < w2.heap.size) (.slice q3 m.length c3) m := ⟨q3, c3, rfl, hp3.below hb4, fun a ha _ s => by have := (hn3 a ha).1; omega⟩
  have hrow5 := hrow4.kept k5
  have hrow5' : PRowS w5 S (.slice q3 m.length c3) m := by
    obtain ⟨q', c', e', hp', _⟩ := hrow5
    cases e'
    exact ⟨q3, c3, rfl, hp', fun a ha _ s => by have := (hn3 a ha).1; have := hSl _ s; omega⟩
  have hrow6 := hrow5'.kept k6
  have hH := holds_any bx bz d6 s6 _ S _ w6 hS6 (by rw [hm6]; exact hmo) (by rw [hm6]; omega) (ready_open hc6.alive ht6) (by rw [hm6]; exact hrow6)
  go_wp2_with (go_at_call 41; refine hH.mono ?_; rintro e w7 ⟨rfl, hb7⟩; clear hH)
  go_ret3
  exact ⟨_, _, rfl, kp_below ((Kp.of_below hB5).trans k6 (fun _ _ s => s)) hb7⟩

end Go.Proofs.YtfghgmojnffgnaaGreat

/- Again. -/
namespace Go.Proofs.YtfghgmojnffgnaaGreat
open Go.RowKit Go.Maps Go.Sort

theorem SLog.fuse {d : Dk} {m : Mp} (h : SLog d m) (n : Int) (hn : n ≤ 9223372036854775807) : SLog (d.fuse n) m ∧ (d.fuse n).files = d.files ∧ (d.fuse n).turn = d.turn ∧ (d.fuse n).dead = d.dead := by
  obtain ⟨g, hp, hg⟩ := h
  have hok := (fuse_ok hp.ok n hn).1
  have hf : (d.fuse n).files = d.files := by unfold Dk.fuse; split <;> rfl
  have hq : (d.fuse n).quota = d.quota := by unfold Dk.fuse; split <;> rfl
  refine ⟨⟨g, ⟨hok, by rw [hq]; exact hp.quota, by rw [hf]; exact hp.ours, by rw [hf]; exact hp.log⟩, hg⟩, hf, ?_, ?_⟩
  · unfold Dk.fuse; split <;> rfl
  · unfold Dk.fuse; split <;> rfl
theorem crash_calm {d : Dk} (h : d.Ok) (ks : List Int) : Calm (d.crash ks) := ⟨(crash_ok h ks).1, rfl, rfl⟩
theorem crash_turn {d : Dk} (h0 : 0 ≤ d.turn) (h1 : d.turn ≤ 1000000) (ks : List Int) : (d.crash ks).turn = d.turn + 1 := by
  show wrap64 (d.turn + 1) = _
  unfold wrap64; omega
theorem Intp.below {w w' : World} {q : Option Addr} {ks : List Int} (h : Intp w q ks) (hb : Below w.heap.size w w') : Intp w' q ks := fun i hi => by
  obtain ⟨g, off, e, hc⟩ := h i hi
  exact ⟨g, off, e, cell_below hb hc⟩
theorem isB_kind {o : DoV} (h : isB o = true) : o.kind ≠ 1 := by
  simp only [isB, Bool.or_eq_true, decide_eq_true_eq] at h
  omega

/-- What is so behind each crash. -/
structure Ag (base : Nat) (w : World) (bx : Nat) (lv hv : Value) (l m : Mp) (hs : List (List Ox)) (k : Nat) (V : Nat → Prop) (d : Dk) : Prop where
  x : XAt w V bx d
  up : ∀ i, V i → base ≤ i ∧ i < w.heap.size
  log : SLog d m
  calm : Calm d
  t0 : 0 ≤ d.turn
  t1 : d.turn ≤ 2 + 2 * k
  room : used d.files ≤ 9680 + 9680 * k
  row : PRowS w V lv l
  bat : BRow w V hv hs

theorem Nw.in {U : Nat → Prop} {w w' : World} {base : Nat} (hU : ∀ i, U i → base ≤ i ∧ i < w.heap.size) (hw : base ≤ w.heap.size) : ∀ i, (fun i => Nw U w i ∧ i < w'.heap.size) i → base ≤ i ∧ i < w'.heap.size := fun i s => ⟨s.1.elim (fun u => (hU i u).1) (fun h => by omega), s.2⟩
theorem BRow.step {w w' : World} {V : Nat → Prop} {v : Value} {hs : List (List Ox)} (h : BRow w V v hs) (k : Kp V w w') : BRow w' (fun i => Nw V w i ∧ i < w'.heap.size) v hs := by
  obtain ⟨q, c, e, hr⟩ := h
  refine ⟨q, c, e, fun i hi => ?_⟩
  obtain ⟨g, off, qi, ci, e1, hn, hc, ho, ha⟩ := hr i hi
  have hlt := World.block_lt_of_cell? w ⟨g, off + i, none⟩ hc
  have hbk := k.block g hlt hn
  exact ⟨g, off, qi, ci, e1, fun s => s.1.elim hn (fun h => by simp only at hlt; omega), by simp only [World.cell?, hbk] at hc ⊢; exact hc, ho.kept k ha, fun a e h0 s => s.1.elim (ha a e h0) (fun h => by have := ho.lt a e h0; omega)⟩

set_option maxHeartbeats 2000000 in
set_option maxRecDepth 20000 in
theorem again_any (p : Int) (q1 q2 q3 q4 : Option Addr) (c1 c2 c3 c4 : Nat) (L M : List DoV) (F ks : List Int) (w : World) (hp0 : -9223372036854775808 ≤ p) (hp1 : p ≤ 9223372036854775807) (hl : L.length ≤ 1048576) (hl2 : M.length ≤ 1048576) (_ : F.length ≤ 1048576) (hl4 : ks.length ≤ 1048576) (hL : Dop w q1 L) (hM : Dop w q2 M) (hF : Intp w q3 F) (hFb : ∀ z ∈ F, -9223372036854775808 ≤ z ∧ z ≤ 9223372036854775807) (hK : Intp w q4 ks) (hKb : ∀ a, q4 = some a → 0 < ks.length → a.block < w.heap.size)
    (hok : ∀ o ∈ L, DoOk w o ∧ ∀ b, o.q = some b → 0 < o.ops.length → b.block < w.heap.size) (hok2 : ∀ o ∈ M, DoOk w o ∧ ∀ b, o.q = some b → 0 < o.ops.length → b.block < w.heap.size) :
    Calls Tryz.prog 6 #[.int .i64 p, .slice q1 L.length c1, .slice q2 M.length c2, .slice q3 F.length c3, .slice q4 ks.length c4] w fun e w' => e = .returned (.bool true) ∧ Below w.heap.size w w' := by
  have hpick := fun w => kpick_any p 3 w hp0 hp1 (by omega) (by omega)
  have hfl : (L.filter isB).length ≤ 1048576 := Nat.le_trans (List.length_filter_le _ _) hl
  have hfm : (M.filter isB).length ≤ 1048576 := Nat.le_trans (List.length_filter_le _ _) hl2
  go_enter Tryz.func6, Tryz.ntmps6
  go_wp2_with (go_at_call 11; refine (hpick _).mono ?_; rintro e w' ⟨r0, rfl, hr0, hr1, hw⟩; subst w')
  go_wp2_with (go_at_call 10; refine (fresh_new r0 _ hr0 (by omega)).mono ?_; rintro e w1 ⟨bx, bz, d1, U1, rfl, hQ1, hU1, hb1, ht1, hf1⟩)
  have hs1 := hb1.size
  go_wp2_with (go_at_call 13; refine (batches_any q1 c1 L w1 (hL.below hb1) hl).mono ?_; rintro e w2 ⟨v2, rfl, hb2, ho2⟩; obtain ⟨q2', c2', rfl, hD2, hn2⟩ := ho2.dop)
  have hs2 := hb2.size
  have hB2 : Below w.heap.size w w2 := hb1.trans (hb2.mono hs1)
  have hWr := wrote_all bx bz (.slice none 0 0) d1 _ 110 U1 [] q2' c2' _ w2 (hQ1.below hb2) (PRowS.nil _ _ _) (by simp [logOf]) (by simp) (.inr ⟨hf1, rfl⟩) hfl hD2 (fun a ha _ s => by have := (hn2 a ha).1; have := hQ1.up _ s; omega) (do_in hok hB2 hU1)
  refine hWr.mono ?_
  rintro e w3 ⟨lv, left, U3, d3, st3, bs, rfl, hQ3, hr3, hro3, hnu3, hlo3, hU3, k3, ht3⟩
  clear hWr
  have hUb : ∀ k, U3 k → w.heap.size ≤ k := fun k s => (hU3 k s).elim (hU1 k) (fun s => by omega)
  have hB3 : Below w.heap.size w w3 := below_kp2 hB2 k3 hU1
  obtain ⟨d4, hsy, hR4, ha4, hl4', ht4⟩ := hQ3.sync hlo3
  have hSy := xSSync_any bx bz d3 st3 U3 w3 hQ3.shop hQ3.log.ok
  rw [hsy] at hSy
  go_wp2_with (go_at_call 14; refine hSy.mono ?_; rintro e w4 ⟨rfl, hS4, k4⟩; clear hSy)
  have hs3 := hB3.size
  have hQ4 : Bq w4 (fun i => Nw U3 w3 i ∧ i < w4.heap.size) bx bz d4 { st3 with loose := false } bs [] :=
    ⟨hS4.mono (fun i hi s => ⟨s, hi⟩), fun i s => s.2, hR4, by show st3.m = _; rw [hQ3.m]; simp, by show st3.turn = _; rw [hQ3.turn, ht4], hQ3.stuck, ha4, hl4', .inr (.inr rfl)⟩
  have hr4 := hr3.step k4
  have hU4b : ∀ k, (fun i => Nw U3 w3 i ∧ i < w4.heap.size) k → w.heap.size ≤ k := fun k s => s.1.elim (hUb k) (fun h => by omega)
  have hB4 := below_kp2 hB3 k4 hUb
  have hm3 : st3.m = doAll [] bs.flatten := by rw [hQ3.m]; simp
  have hmok3 := hQ3.mok
  clear hQ3 hS4 hr3 hQ1
  generalize (fun i => Nw U3 w3 i ∧ i < w4.heap.size) = U4 at *
  go_wp2_with (go_at_call 13; refine (batches_any q2 c2 M w4 (hM.below hB4) hl2).mono ?_; rintro e w5 ⟨v5, rfl, hb5, ho5⟩; obtain ⟨q5, c5, rfl, hD5, hn5⟩ := ho5.dop)
  have hB5 := hB4.trans (hb5.mono hB4.size)
  have hRk := risky_calm bx bz d4 _ left U4 bs q5 c5 _ w5 (hQ4.below hb5) hro3 hnu3 hfm (fun o ho => isB_kind (List.mem_filter.1 ho).2) hD5 (fun a ha _ s => by have := (hn5 a ha).1; have := hQ4.up _ s; omega) (do_in hok2 hB5 hU4b)
  refine hRk.mono ?_
  rintro e w6 ⟨hv, U6, d6, st6, hs, rfl, hQ6, hbr6, hlo6, hnu6, hhl6, hU6, k6, ht6⟩
  clear hRk
  have hs5 := hB5.size
  have hU6b : ∀ k, U6 k → w.heap.size ≤ k := fun k s => (hU6 k s).elim (hU4b k) (fun h => by omega)
  have hB6 := below_kp2 hB5 k6 hU4b
  have hr6 : PRowS w6 U6 lv st3.m := ((hr4.below hb5).step k6).mono (fun k hk s => ⟨hU6 k s, hk⟩)
  have hCr := xCrash_any bx d6 q4 c4 ks U6 w6 hQ6.shop.x hQ6.log.ok (by have := hQ6.log.files; omega) (by omega) (hK.below hB6) (fun a ha h0 s => by have := hU6b _ s; have := hKb a ha h0; omega)
  go_wp2_with (go_at_call 17; refine hCr.mono ?_; rintro e w7 ⟨rfl, hX7, k7⟩; clear hCr)
  obtain ⟨n, hn, hSL⟩ := hQ6.log.crash ks
  have hB7 := below_kp2 hB6 k7 hU6b
  have hs6 := hB6.size
  have hml : (doAll [] (bs ++ hs.take n).flatten).length ≤ 110 := by
    have h1 := doAll_len [] (bs ++ hs.take n).flatten
    have h2 : (bs ++ hs.take n).flatten.length ≤ (bs ++ hs).flatten.length := by
      rw [List.flatten_append, List.length_append, List.flatten_append, List.length_append]
      have := flat_take hs n
      omega
    simp only [List.length_nil] at h1
    omega
  have hmn : doAll [] (bs ++ hs.take n).flatten = doAll st3.m (hs.take n).flatten := by rw [hm3, List.flatten_append, doAll_append]
  have hnum : st3.m.length + hs.flatten.length ≤ 1000000 := by
    have h1 := doAll_len [] bs.flatten
    rw [List.flatten_append, List.length_append] at hnu6
    rw [hm3]
    simp only [List.length_nil] at h1
    omega
  have hAg : ∃ (V : Nat → Prop) (dk : Dk), Ag w.heap.size w7 bx lv hv st3.m (doAll [] (bs ++ hs.take n).flatten) hs 0 V dk :=
    ⟨fun i => Nw U6 w6 i ∧ i < w7.heap.size, _, hX7.mono (fun i hi s => ⟨s, hi⟩), Nw.in (fun i s => ⟨hU6b i s, hQ6.up i s⟩) hs6, hSL, crash_calm hQ6.log.ok ks, by rw [crash_turn (by omega) (by omega)]; omega, by rw [crash_turn (by omega) (by omega)]; omega, by
      have h1 := crash_used hQ6.log.ok ks
      rw [hQ6.log.used] at h1
      omega, hr6.step k7, hbr6.step k7⟩
  have hri := hmok3.rise
  clear hX7 hQ6 hbr6 hr6 hr4 hQ4 hSL hm3 hmok3 hR4
  generalize doAll [] (bs ++ hs.take n).flatten = m at *
  generalize st3.m = l at *
  go_loopw [12, 13, 16, 18] (fun _ _ _ i wr => ∃ k : Nat, k ≤ F.length ∧ k ≤ 20 ∧ i = .int .i64 k ∧ (∃ (V : Nat → Prop) (dk : Dk), Ag w.heap.size wr bx lv hv l m hs k V dk) ∧ Below w.heap.size w wr) (fun _ _ _ i _ => F.length - (intOf i).toNat)
  case atStart => exact ⟨0, Nat.zero_le _, by omega, rfl, hAg, hB7⟩
  case round =>
    obtain ⟨k, hk, hk20, rfl, ⟨V, dk, hA⟩, hB⟩ := hrel
    have hsB := hB.size
    have hVb : ∀ i, V i → w.heap.size ≤ i := fun i s => (hA.up i s).1
    have hrm := hA.room
    have ht1' := hA.t1
    have ht0' := hA.t0
    by_cases hlt : k < F.length ∧ k < 20
    · obtain ⟨hlt1, hlt2⟩ := hlt
      obtain ⟨g, off, rfl, hcell⟩ := (hF.below hB) k hlt1
      obtain ⟨z0, z1⟩ := hFb F[k] (List.getElem_mem hlt1)
      have hpf := fun w => kpick_any F[k] 9 w z0 z1 (by omega) (by omega)
      have hwb : -9223372036854775808 ≤ wrap64 (p + k) ∧ wrap64 (p + k) ≤ 9223372036854775807 := by unfold wrap64; omega
      have hpk := fun w => kpick_any (wrap64 (p + k)) 3 w hwb.1 hwb.2 (by omega) (by omega)
      clear hwb z0 z1
      go_wp2_with (go_at_call 11; refine (hpf _).mono ?_; rintro e w' ⟨r1, rfl, hr10, hr11, hw⟩; subst w'; clear hpf)
      have hFu := xFuse_any bx dk r1 V wr hA.x
      obtain ⟨hSf, hff, hft, hfd⟩ := hA.log.fuse r1 (by omega)
      generalize dk.fuse r1 = df at *
      go_wp2_with (go_at_call 15; refine hFu.mono ?_; rintro e w8 ⟨rfl, hX8, k8⟩; clear hFu)
      have hs8 := k8.size
      have hB8 := below_kp2 hB k8 hVb
      have hX8' := hX8.mono (T := fun i => Nw V wr i ∧ i < w8.heap.size) (fun i hi s => ⟨s, hi⟩)
      have hV8 := Nw.in (w' := w8) hA.up hsB
      have hrow8 := hA.row.step k8
      have hbat8 := hA.bat.step k8
      generalize (fun i => Nw V wr i ∧ i < w8.heap.size) = V8 at *
      go_wp2_with (go_at_call 11; refine (hpk _).mono ?_; rintro e w' ⟨r2, rfl, hr20, hr21, hw⟩; subst w'; clear hpk)
      have hsB8 := hB8.size
      have hOp := xOpen_any bx df r2 V8 w8 hX8' hSf.ok (by have := hSf.small.1; omega) (by omega) (by omega) hr20 (by omega)
      obtain ⟨o1, o2, o3, o4⟩ := hSf.open (by rw [hfd]; exact hA.calm.alive) hml (by rw [hff]; omega)
      go_wp2_with (go_at_call 21; refine hOp.mono ?_)
      have hend : ∀ (w9 : World) (W : Nat → Prop), XAt w9 W bx (openX df).2.1 → (∀ i, W i → w.heap.size ≤ i ∧ i < w9.heap.size) → PRowS w9 W lv l → BRow w9 W hv hs → Below w.heap.size w w9 → Calls Tryz.prog 17 #[.pointer (some ⟨bx, 0, none⟩), .slice q4 ks.length c4] w9 fun e w' => e = .returned (.tuple #[]) ∧ (∃ (V : Nat → Prop) (dk : Dk), Ag w.heap.size w' bx lv hv l m hs (k + 1) V dk) ∧ Below w.heap.size w w' := fun w9 W hX9 hW hrow hbat hB9 => by
        refine (xCrash_any bx (openX df).2.1 q4 c4 ks W w9 hX9 o1.ok (by have := o1.small.1; omega) (by omega) (hK.below hB9) (fun a ha h0 s => by have := (hW _ s).1; have := hKb a ha h0; omega)).mono ?_
        rintro e w' ⟨rfl, hX', k'⟩
        have hcu := crash_used o1.ok ks
        refine ⟨rfl, ⟨fun i => Nw W w9 i ∧ i < w'.heap.size, _, hX'.mono (fun i hi s => ⟨s, hi⟩), Nw.in hW hB9.size, o1.crash ks, crash_calm o1.ok ks, ?_, ?_, ?_, hrow.step k', hbat.step k'⟩, below_kp2 hB9 k' (fun i s => (hW i s).1)⟩
        · rw [crash_turn (by omega) (by omega)]; omega
        · rw [crash_turn (by omega) (by omega)]; omega
        · rw [hff] at o3; omega
      rintro e w9 ⟨k9, (⟨hz, bz2, st2, rfl, hS9, g1, g2, g3⟩ | ⟨hne, rfl, hX9⟩)⟩
      · obtain ⟨hm9, ha9⟩ : (openX df).2.2 = m ∧ (openX df).2.1.dead = false := by
          rcases o4 with ⟨_, h1, h2⟩ | ⟨h, _⟩
          · exact ⟨h1, h2⟩
          · rw [hz] at h; cases h
        have hB9 := below_kp2 hB8 k9 (fun i s => (hV8 i s).1)
        have hrow9 := hrow8.step k9
        have hbat9 := hbat8.step k9
        have hS9' := hS9.mono (V := fun i => Nw V8 w8 i ∧ i < w9.heap.size) (fun i hi s => ⟨s, hi⟩)
        have hV9 := Nw.in (w' := w9) hV8 hsB8
        generalize (fun i => Nw V8 w8 i ∧ i < w9.heap.size) = V9 at *
        have hmo := hSf.mok
        have hPR : PRow w9 lv l := by obtain ⟨q, c, e, hp, _⟩ := hrow9; exact ⟨q, c, e, hp⟩
        have hso := somewhere_any bx bz2 (openX df).2.1 st2 V9 V9 lv hv l hs w9 hS9' (by rw [g3, hm9]; exact hmo) (by rw [g3, hm9]; omega) (ready_open ha9 (by rw [g1, o2])) hPR hri hnum (by omega) hbat9 n hn (by rw [g3, hm9]; exact hmn)
        go_wp2_with (go_at_call 22; refine hso.mono ?_; rintro e w10 ⟨rfl, hb10⟩; clear hso)
        have hB10 := hB9.trans (hb10.mono hB9.size)
        have hCr := hend w10 V9 (hS9'.below hb10).x (fun i s => ⟨(hV9 i s).1, Nat.lt_of_lt_of_le (hV9 i s).2 hb10.size⟩) (hrow9.below hb10) (hbat9.below hb10) hB10
        go_wp2_with (go_at_call 17; refine hCr.mono ?_; rintro e w11 ⟨rfl, hA11, hB11⟩; clear hCr)
        go_roundw
        case rel => exact ⟨k + 1, by omega, by omega, by go_num, hA11, hB11⟩
        case measure => simp [intOf]; omega
      · obtain ⟨he4, hd4⟩ : (openX df).1 = 4 ∧ (openX df).2.1.dead = true := by
          rcases o4 with ⟨h, _⟩ | h
          · exact absurd h hne
          · exact h
        rw [he4]
        have hB9 := below_kp2 hB8 k9 (fun i s => (hV8 i s).1)
        have hV9 := Nw.in (w' := w9) hV8 hsB8
        have hCr := hend w9 _ (hX9.mono (T := fun i => Nw V8 w8 i ∧ i < w9.heap.size) (fun i hi s => ⟨s, hi⟩)) hV9 (hrow8.step k9) (hbat8.step k9) hB9
        clear hend
        go_wp2_with (go_at_call 17; refine hCr.mono ?_; rintro e w11 ⟨rfl, hA11, hB11⟩; clear hCr)
        go_roundw
        case rel => exact ⟨k + 1, by omega, by omega, by go_num, hA11, hB11⟩
        case measure => simp [intOf]; omega
    · have hcase : Hid (¬ k < F.length ∨ (k < F.length ∧ ¬ k < 20)) := by show _ ∨ _; omega
      clear hlt
      have hPR : PRow wr lv l := by obtain ⟨q, c, e, hp, _⟩ := hA.row; exact ⟨q, c, e, hp⟩
      have hTw := fun r h0 h2 => twin_calm bx dk m l hs n r V V lv hv wr hA.x (fun i s => (hA.up i s).2) hA.log hA.calm hml (by omega) ht0' (by omega) h0 h2 hPR hri hnum (by omega) hA.bat hn hmn
      rcases hcase.out with hlt | ⟨hlt, hlt'⟩
      all_goals
        go_wp2_with (go_at_call 11; refine (hpick _).mono ?_; rintro e w' ⟨r8, rfl, hr80, hr81, hw⟩; subst w'; clear hpick)
        go_wp2_with (go_at_call 19; refine (hTw r8 hr80 (by omega)).mono ?_; rintro e w9 ⟨sv, pv, rfl, k9⟩)
        go_ret
        exact ⟨rfl, below_kp2 hB k9 hVb⟩

end Go.Proofs.YtfghgmojnffgnaaGreat

/- The statement of Again, for what is of bulk at most the given number. -/
namespace Go.Proofs.YtfghgmojnffgnaaGreat
open Go.ChangeShapes Go.WideShapes Go.ChangeAt Go.RowKit

section
variable {H : Type} {enc : TypeId × Value → H}

theorem trodAll_five {P : Program} {w : World} {base : Nat} {spare : Nat → Bool} {held : Bool} {t1 t2 t3 t4 t5 : TypeId} {args : Array Value} {ds : List (DataW H)} {ps : List MemPlace} (h : DataW.TrodAll enc P w base spare held [t1, t2, t3, t4, t5] args.toList ds ps) :
    ∃ v1 v2 v3 v4 v5 d1 d2 d3 d4 d5 p1 p2 p3 p4 p5, args = #[v1, v2, v3, v4, v5] ∧ ds = [d1, d2, d3, d4, d5] ∧ ps = p1 ++ (p2 ++ (p3 ++ (p4 ++ p5))) ∧ DataW.Trod enc P w base spare held t1 v1 d1 p1 ∧ DataW.Trod enc P w base spare held t2 v2 d2 p2 ∧ DataW.Trod enc P w base spare held t3 v3 d3 p3 ∧ DataW.Trod enc P w base spare held t4 v4 d4 p4 ∧ DataW.Trod enc P w base spare held t5 v5 d5 p5 := by
  obtain ⟨v1, a1, d1, e1, p1, q1, hargs, rfl, rfl, h1, r1⟩ := trodAll_cons h
  obtain ⟨v2, a2, d2, e2, p2, q2, rfl, rfl, rfl, h2, r2⟩ := trodAll_cons r1
  obtain ⟨v3, a3, d3, e3, p3, q3, rfl, rfl, rfl, h3, r3⟩ := trodAll_cons r2
  obtain ⟨v4, a4, d4, e4, p4, q4, rfl, rfl, rfl, h4, r4⟩ := trodAll_cons r3
  obtain ⟨v5, a5, d5, e5, p5, q5, rfl, rfl, rfl, h5, r5⟩ := trodAll_cons r4
  obtain ⟨rfl, rfl, rfl⟩ := trodAll_nil r5
  exact ⟨v1, v2, v3, v4, v5, d1, d2, d3, d4, d5, p1, p2, p3, p4, p5, by cases args; simp_all, rfl, by simp, h1, h2, h3, h4, h5⟩

/-- The argument is a list of numbers. -/
theorem kints_open {W : World} {a0 : Option Addr} {len cap : Nat} {d : DataW H} {ps : List MemPlace} (h : DataW.Trod enc Tryz.prog W 0 (fun _ => true) true 27 (.slice a0 len cap) d ps) (hb : Rows.uptoBulk d ≤ 1048576) :
    ∃ ks : List Int, ks.length = len ∧ ks.length ≤ 1048576 ∧ Intp W a0 ks ∧ (∀ z ∈ ks, -9223372036854775808 ≤ z ∧ z ≤ 9223372036854775807) ∧ ∀ a, a0 = some a → 0 < ks.length → a.block < W.heap.size := by
  obtain ⟨fuel, hf⟩ := h
  rcases open_ints Tryz.underlying27 Tryz.underlying3 Tryz.cellsk3 hf with ⟨hcs, hx⟩ | ⟨a, len', cap', zs, hcs, _, hl, hm, hz, hx, hcell, hwz⟩
  · simp [Value.cells] at hcs
    obtain ⟨rfl, rfl, rfl⟩ := hcs
    exact ⟨[], rfl, Nat.zero_le _, fun i hi => absurd hi (Nat.not_lt_zero _), fun z hz => (by cases hz), fun a ha => (by cases ha)⟩
  · simp [Value.cells] at hcs
    obtain ⟨rfl, rfl, rfl⟩ := hcs
    simp only [if_true] at hz
    have hlen : (zs.take len).length = len := by simp; omega
    have hsp : 0 < len → a.spot = none ∧ a.block < W.heap.size := fun h0 => by
      have hc := hcell 0 (by omega)
      have e0 : a.add 0 = a := by simp [Addr.add]
      rw [e0] at hc
      exact ⟨World.cell?_spot hc, World.block_lt_of_cell? W a hc⟩
    have hd : d = .slice (lits .i64 (zs.take len)) (lits .i64 (zs.drop len)) := (Prod.mk.inj hx).1
    refine ⟨zs.take len, hlen, ?_, ?_, fun z hz' => bounds_i64 (hwz z (List.mem_of_mem_take hz')), fun b hb' h0 => ?_⟩
    · rw [hd] at hb
      have := (kbulk_list (lits (H := H) .i64 (zs.take len))).1
      simp only [Rows.uptoBulk] at hb
      simp only [lits, List.length_map, hlen] at this
      simp only [lits] at this hb
      omega
    · intro i hi
      rw [hlen] at hi
      obtain ⟨g, off, sp⟩ := a
      obtain rfl : sp = none := (hsp (by omega)).1
      refine ⟨g, off, rfl, ?_⟩
      have hc := hcell i (by omega)
      rw [Addr.add_lit] at hc
      rw [hc]
      simp [List.getD, List.getElem?_eq_getElem (show i < zs.length by omega)]
    · cases hb'
      rw [hlen] at h0
      exact (hsp h0).2

set_option maxRecDepth 100000 in
theorem again_contract (W : World) (base : Nat) (args : Array Value) (ds gs : List (DataW H)) (before : List MemPlace)
    (hval : ∀ (j : Nat) t v, Tryz.f6.params[j]? = some t → args[j]? = some v → Value.okWide Tryz.prog W .any base t v)
    (hW : DataW.Whole enc Tryz.prog Tryz.f6.params.toList Rows.againSpec.vars false W args.toList ds gs before) (hk : Rows.uptoSmall H (ds ++ gs) = true) :
    Calls Tryz.prog 6 args W fun e W' => ∃ v, e = .returned v ∧ Rows.againSpec.post enc Tryz.prog Tryz.f6 false true false false W args v W' := by
  have hW' := hW
  obtain ⟨p, q, hA0, hV, rfl, hfz, hnd⟩ := hW
  have hA : DataW.TrodAll enc Tryz.prog W 0 (fun _ => true) true Tryz.f6.params.toList args.toList ds p := hA0
  rw [Tryz.params6] at hA hval
  obtain ⟨v0, v1, v2, v3, v4, d0, d1, d2, d3, d4, p0, p1, p2, p3, p4, rfl, rfl, rfl, h0, h1, h2, h3, h4⟩ := trodAll_five hA
  obtain ⟨rfl, rfl⟩ := trodVars_none hV
  obtain ⟨n0, rfl⟩ := okWide_int Tryz.underlying3 (hval 0 3 v0 rfl rfl)
  obtain ⟨a1, len1, cap1, rfl⟩ := okWide_slice Tryz.underlying26 (hval 1 26 v1 rfl rfl)
  obtain ⟨a2, len2, cap2, rfl⟩ := okWide_slice Tryz.underlying26 (hval 2 26 v2 rfl rfl)
  obtain ⟨a3, len3, cap3, rfl⟩ := okWide_slice Tryz.underlying27 (hval 3 27 v3 rfl rfl)
  obtain ⟨a4, len4, cap4, rfl⟩ := okWide_slice Tryz.underlying27 (hval 4 27 v4 rfl rfl)
  clear hA0
  simp only [List.append_nil] at hW' hk
  have hb : Rows.uptoBulkAll [d0, d1, d2, d3, d4] ≤ 1048576 := of_decide_eq_true hk
  simp only [Rows.uptoBulkAll, Nat.add_zero] at hb
  obtain ⟨os1, rfl, hl1, hops1, _, hok1⟩ := dos_open h1 (by omega)
  obtain ⟨os2, rfl, hl2, hops2, _, hok2⟩ := dos_open h2 (by omega)
  obtain ⟨ks3, rfl, hl3, hi3, hz3, _⟩ := kints_open h3 (by omega)
  obtain ⟨ks4, rfl, hl4, hi4, _, hb4⟩ := kints_open h4 (by omega)
  obtain ⟨b0, b0'⟩ := int_open h0
  have hlt : ∀ x ∈ p0 ++ (p1 ++ (p2 ++ (p3 ++ p4))), x.block < W.heap.size := fun x hx => by simpa using hW'.lt x hx
  refine (again_any n0 a1 a2 a3 a4 cap1 cap2 cap3 cap4 os1 os2 ks3 ks4 W b0 b0' hl1 hl2 hl3 hl4 hops1 hops2 hi3 hz3 hi4 hb4 hok1 hok2).mono fun e W' ⟨he, hbl⟩ => ?_
  subst he
  exact ⟨_, rfl, ⟨_, _, _, [], _, [], hW', trodAll_mk1 (shut_bool Tryz.underlying4 _), ⟨_, _, Below.trod Tryz.laidOutK (by kernel_rfl) (of_decide_eq_true (by kernel_rfl)) h0 hbl (fun x hx => hlt x (by simp [hx])), ⟨_, _, Below.trod Tryz.laidOutK (by kernel_rfl) (of_decide_eq_true (by kernel_rfl)) h1 hbl (fun x hx => hlt x (by simp [hx])), trodAll_mk3 (Below.trod Tryz.laidOutK (by kernel_rfl) (of_decide_eq_true (by kernel_rfl)) h2 hbl (fun x hx => hlt x (by simp [hx]))) (Below.trod Tryz.laidOutK (by kernel_rfl) (of_decide_eq_true (by kernel_rfl)) h3 hbl (fun x hx => hlt x (by simp [hx]))) (Below.trod Tryz.laidOutK (by kernel_rfl) (of_decide_eq_true (by kernel_rfl)) h4 hbl (fun x hx => hlt x (by simp [hx]))), rfl⟩, rfl⟩, rfl, hbl.frame _, fun h => by cases h⟩⟩

set_option maxRecDepth 100000 in
theorem again_lifted (os : Os) (started : os.Started) (H : Type) (enc : TypeId × Value → H) (F : Stop.Interp) :
    ReturnsInHanded {} Tryz.checked os 6 .any ((Rows.OpenSpec.upto Rows.againSpec).pre6 enc Tryz.prog Tryz.f6 Rows.againUptoRow.domain false) (((Rows.OpenSpec.upto Rows.againSpec).at F).post enc Tryz.prog Tryz.f6 false true false false) := by
  refine returnsInHanded_of_cond (C := Tryz.checked) (s := Rows.OpenSpec.upto Rows.againSpec) (k := Rows.uptoSmall) rfl Tryz.ownK started (by kernel_rfl) Tryz.func6
    (OpenSpec.witness (enc := enc) (C := Tryz.checked) (s := Rows.OpenSpec.upto Rows.againSpec) (k := Rows.uptoSmall) rfl false ⟨#[], #[.int .i64 0, .slice none 0 0, .slice none 0 0, .slice none 0 0, .slice none 0 0], []⟩ 8 (by kernel_rfl) (by kernel_rfl) (by kernel_rfl)
      (x := ([.lit (.int .i64 0), .nil, .nil, .nil, .nil], [], [])) (by kernel_rfl) rfl (by kernel_rfl)) ?_
  intro W base args ds gs before hval hW _ hk _
  exact again_contract W base args ds gs before hval hW hk

/-- The statement. -/
theorem again_upto_holds : Rows.AgainUptoSaid :=
  OpenClaim.holds_of_cond 6 Tryz.f6 rfl rfl rfl rfl rfl rfl rfl ⟨rfl, rfl, rfl, rfl, rfl⟩ rfl rfl rfl rfl rfl (by kernel_rfl) Tryz.func6 (by kernel_rfl)
    (of_decide_eq_true (by kernel_rfl)) (by unfold Func.isWrapper; first | (rw [if_pos (by decide +kernel)]; kernel_rfl) | (rw [if_neg (by decide +kernel)]; exact ⟨rfl, rfl⟩))
    (fun os started H enc _ F => again_lifted os started H enc F)
end
end Go.Proofs.YtfghgmojnffgnaaGreat
