/- The statements' wrote: batches, as long as there are ops left. -/
import Derived.Test.YtfghgmojnffgnaaKeepI
namespace Go.Proofs.Ytfghgmojnffgnaa
open Go.RowKit Go.Maps Go.Sort

/-- A store that has room for so many ops more. -/
structure Wr (w : World) (U : Nat → Prop) (bx bz : Nat) (lv : Value) (d : Dk) (st : St) (left : Nat) : Prop where
  shop : Shop w U bx bz d st
  up : ∀ k, U k → k < w.heap.size
  row : PRowS w U lv st.m
  inv : DInv d st.m
  turn : st.turn = d.turn
  stuck : st.stuck = false
  quota : d.quota = 1048576
  room : used d.files + 88 * left ≤ 1048576
theorem Wr.below {w w' : World} {bx bz : Nat} {lv : Value} {U : Nat → Prop} {d : Dk} {st : St} {left : Nat} (h : Wr w U bx bz lv d st left) (hb : Below w.heap.size w w') : Wr w' U bx bz lv d st left :=
  ⟨h.shop.below hb, fun k s => Nat.lt_of_lt_of_le (h.up k s) hb.size, h.row.below hb, h.inv, h.turn, h.stuck, h.quota, h.room⟩
theorem Wr.kept {w w' : World} {bx bz : Nat} {lv : Value} {U V : Nat → Prop} {d : Dk} {st : St} {left : Nat} (h : Wr w U bx bz lv d st left) (k : Kp V w w') (hV : ∀ i, U i → ¬ V i) (hr : PRowS w' U lv st.m) : Wr w' U bx bz lv d st left :=
  ⟨h.shop.kept k hV, fun i s => Nat.lt_of_lt_of_le (h.up i s) k.size, hr, h.inv, h.turn, h.stuck, h.quota, h.room⟩

/-- What is done, outside of a set. -/
def DoOut (U : Nat → Prop) (o : DoV) : Prop := ∀ a, o.q = some a → 0 < o.ops.length → ¬ U a.block

theorem enc_room {l : List Ox} (h : batchOk l = true) : (encode l).length ≤ 88 * l.length := by
  have h1 := (batchOk_iff.1 h).1
  have h2 := (encBody_len l (batchOk_iff.1 h).2).2
  rw [encode_len]
  omega

set_option maxHeartbeats 1000000 in
set_option maxRecDepth 20000 in
theorem wrote_any (bx bz : Nat) (lv : Value) (d : Dk) (st : St) (left : Nat) (U : Nat → Prop) (q : Option Addr) (qc : Nat) (L : List DoV) (w : World) (hW : Wr w U bx bz lv d st left) (hleft : left ≤ 1000000) (hl : L.length ≤ 1048576) (hL : Dop w q L) (hq : ∀ a, q = some a → 0 < L.length → ¬ U a.block) (hok : ∀ o ∈ L, DoOk w o ∧ DoOut U o) :
    Calls Try.prog 10 #[.pointer (some ⟨bz, 0, none⟩), lv, .slice q L.length qc, .int .i64 left] w fun e w' => ∃ v left' U' d' st', e = .returned (.tuple #[v, .int .i64 ((left' : Nat) : Int), .bool true]) ∧ Wr w' U' bx bz v d' st' left' ∧ (∀ k, U' k → Nw U w k) ∧ Kp U w w' ∧ d'.turn = d.turn ∧ left' ≤ left := by
  go_enter Try.func10, Try.ntmps10
  go_wp2
  go_loopw [1, 3, 11] (fun v lf i wr => ∃ (k left' : Nat) (U' : Nat → Prop) (d' : Dk) (st' : St), k ≤ L.length ∧ i = .int .i64 k ∧ lf = .int .i64 left' ∧ Wr wr U' bx bz v d' st' left' ∧ (∀ k, U' k → Nw U w k) ∧ Kp U w wr ∧ d'.turn = d.turn ∧ left' ≤ left) (fun _ _ i _ => L.length - (intOf i).toNat)
  case atStart => exact ⟨0, left, U, d, st, Nat.zero_le _, rfl, rfl, hW, fun k s => .inl s, Kp.refl _ _, rfl, Nat.le_refl _⟩
  case round =>
    obtain ⟨k, left', U', d', st', hk, rfl, rfl, hC, hU, kp, ht, hle⟩ := hrel
    have hs := kp.size
    by_cases hlt : k < L.length
    · obtain ⟨g, off, rfl, c0, c1, c2, c3⟩ := (hL.kept kp hq) k hlt
      obtain ⟨hdo, hout⟩ := hok L[k] (List.getElem_mem hlt)
      have hT := tidied_any L[k].q L[k].qc L[k].ops wr (hdo.opp.kept kp hout) hdo.ox (by have := hdo.len; omega)
      have hbk := tidy_ok L[k].ops
      have hox := tidy_ox L[k].ops
      have hb8 := (batchOk_iff.1 hbk).1
      have hen := enc_room hbk
      generalize tidyL L[k].ops = T at *
      have hlen := hC.inv.len
      by_cases hfit : T.length ≤ left'
      · go_wp2_with (go_at_call 16; refine hT.mono ?_; rintro e w7 ⟨v7, rfl, hb7, ho7⟩; obtain ⟨q7, c7, rfl, hp7, hn7⟩ := ho7.opp; clear hT)
        have hC7 := hC.below hb7
        have hk7 := kp_below kp hb7
        have hsz := hb7.size
        have hnU : ∀ a, q7 = some a → 0 < T.length → ¬ U' a.block := fun a ha _ s => by have := (hn7 a ha).1; have := hC.up _ s; omega
        have hXB := xBatch_any bx bz d' st' U' q7 c7 T w7 hC7.shop hC7.inv.ok (by have := hC7.inv.files; omega) (by omega) (by omega) hox hp7 hnU
        have hroom := hC.room
        obtain ⟨f, hx, hD', hf'⟩ := batchX_done hC.inv hC.turn hC.stuck hbk (by rw [hC.quota]; omega)
        rw [hx] at hXB
        refine hXB.mono ?_
        rintro e w8 ⟨rfl, hS8, k8⟩
        clear hXB
        have hrow8 := hC7.row.step k8
        have hp8 := hp7.kept k8 hnU
        have hk8 : Kp U w w8 := hk7.trans k8 (fun i hi s => (hU i s).elim id (fun h => by omega))
        go_wp2_with (go_at_call 18; refine (behind_row (fun i => Nw U' w7 i ∧ i < w8.heap.size) _ st'.m q7 c7 T w8 (fun k s => s.2) hrow8 hC.inv.mok.rise hp8 (by omega)).mono ?_; rintro e w9 ⟨v9, rfl, hb9, hr9⟩)
        go_roundw
        case rel =>
          refine ⟨k + 1, left' - T.length, _, _, _, by omega, by go_num, by go_num, ⟨(hS8.mono (V := fun i => Nw U' w7 i ∧ i < w8.heap.size) (fun i hi s => ⟨s, hi⟩)).below hb9, fun i s => Nat.lt_of_lt_of_le s.2 hb9.size, hr9, hD', hC.turn, hC.stuck, hC.quota, ?_⟩, fun i s => s.1.elim (fun u => hU i u) (fun u => .inr (by omega)), kp_below hk8 hb9, ht, by omega⟩
          show used [(logN, f)] + _ ≤ _
          rw [used_one, hf']
          omega
        case measure => simp [intOf]; omega
      · have hfit' : left' < T.length := by omega
        go_wp2_with (go_at_call 16; refine hT.mono ?_; rintro e w7 ⟨v7, rfl, hb7, ho7⟩; obtain ⟨q7, c7, rfl, hp7, hn7⟩ := ho7.opp; clear hT)
        go_ret3
        exact ⟨_, left', U', d', st', rfl, hC.below hb7, hU, kp_below kp hb7, ht, hle⟩
    · go_wp2
      go_ret3
      exact ⟨_, left', U', d', st', rfl, hC, hU, kp, ht, hle⟩

end Go.Proofs.Ytfghgmojnffgnaa
