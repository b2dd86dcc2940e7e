/- The statements' batches, wrote. -/
import Derived.Test.YtfghgmojnffgnaaGreatKeepG
namespace Go.Proofs.YtfghgmojnffgnaaGreat
open Go.RowKit Go.Maps Go.Sort

theorem Tryz.info74 : (Tryz.prog.info? 74).map (fun i => (i.zero, i.size, i.bytes)) = some (some (.agg #[.int .i64 0, .int .i64 0, .int .i64 0, .slice none 0 0]), 4, 48) := by kernel_rfl

def flatD (l : List DoV) : List Value := l.flatMap fun o => [.int .i64 o.kind, .int .i64 o.a, .int .i64 o.b, .slice o.q o.ops.length o.qc]
theorem flatD_snoc (l : List DoV) (o : DoV) : flatD (l ++ [o]) = flatD l ++ [.int .i64 o.kind, .int .i64 o.a, .int .i64 o.b, .slice o.q o.ops.length o.qc] := by simp [flatD]
theorem flatD_len (l : List DoV) : (flatD l).length = l.length * 4 := by
  induction l with
  | nil => rfl
  | cons x r ih => show (Value.int .i64 x.kind :: .int .i64 x.a :: .int .i64 x.b :: .slice x.q x.ops.length x.qc :: flatD r).length = _; simp [ih]; omega
def OwnD (w : World) (base : Nat) (v : Value) (l : List DoV) : Prop := w.ownsRow base 74 4 v l.length (flatD l)
theorem flatD_at : ∀ (l : List DoV) (i : Nat) (h : i < l.length), (flatD l)[i * 4]? = some (.int .i64 l[i].kind) ∧ (flatD l)[i * 4 + 1]? = some (.int .i64 l[i].a) ∧ (flatD l)[i * 4 + 2]? = some (.int .i64 l[i].b) ∧ (flatD l)[i * 4 + 3]? = some (.slice l[i].q l[i].ops.length l[i].qc)
  | x :: r, 0, _ => by simp [flatD]
  | x :: r, i + 1, h => by
    obtain ⟨h0, h1, h2, h3⟩ := flatD_at r i (by simpa using h)
    have e : flatD (x :: r) = [.int .i64 x.kind, .int .i64 x.a, .int .i64 x.b, .slice x.q x.ops.length x.qc] ++ flatD r := by simp [flatD]
    rw [e]
    refine ⟨?_, ?_, ?_, ?_⟩
    · rw [show (i + 1) * 4 = i * 4 + 4 by omega, List.getElem?_append_right (by simp)]; simpa using h0
    · rw [show (i + 1) * 4 + 1 = i * 4 + 1 + 4 by omega, List.getElem?_append_right (by simp)]; simpa using h1
    · rw [show (i + 1) * 4 + 2 = i * 4 + 2 + 4 by omega, List.getElem?_append_right (by simp)]; simpa using h2
    · rw [show (i + 1) * 4 + 3 = i * 4 + 3 + 4 by omega, List.getElem?_append_right (by simp)]; simpa using h3
theorem OwnD.dop {w : World} {base : Nat} {v : Value} {l : List DoV} (h : OwnD w base v l) : ∃ q cap, v = .slice q l.length cap ∧ Dop w q l ∧ ∀ a, q = some a → base ≤ a.block ∧ a.block < w.heap.size := by
  rcases h.2 with ⟨hv, hn⟩ | ⟨g, cap, cur, hv, hb, hgg, _⟩
  · exact ⟨none, 0, by rw [hv, hn], fun i hi => by omega, fun a ha => by cases ha⟩
  · refine ⟨_, cap, hv, fun i hi => ?_, fun a ha => by cases ha; exact ⟨hb, lt_of_block hgg⟩⟩
    have hc := World.ownsRow.cells h (g := g) (by rw [hv]; rfl)
    obtain ⟨k0, k1, k2, k3⟩ := flatD_at l i hi
    refine ⟨g, 0, rfl, ?_, ?_, ?_, ?_⟩
    · have := hc _ _ k0; rwa [Addr.add_lit] at this
    · have := hc _ _ k1; rwa [Addr.add_lit, ← Nat.add_assoc] at this
    · have := hc _ _ k2; rwa [Addr.add_lit, ← Nat.add_assoc] at this
    · have := hc _ _ k3; rwa [Addr.add_lit, ← Nat.add_assoc] at this
theorem do_new {W : World} {n : Nat} (h : W.heap.size = n) {a b c d : Value} : ∀ j u, [a, b, c, d][j]? = some u → (W.alloc (.cells #[a, b, c, d] 74)).cell? ((⟨n, 0, none⟩ : Addr).add j) = some u := by
  intro j u hu
  subst h
  rw [Addr.add_lit, Nat.zero_add, cell_block (block_new W _)]
  simpa using hu
theorem Dop.kept {w w' : World} {U : Nat → Prop} {q : Option Addr} {l : List DoV} (h : Dop w q l) (k : Kp U w w') (hq : ∀ a, q = some a → 0 < l.length → ¬ U a.block) : Dop w' q l := fun i hi => by
  obtain ⟨g, off, rfl, c0, c1, c2, c3⟩ := h i hi
  have hgl := World.block_lt_of_cell? w ⟨g, off + i * 4, none⟩ c0
  have hbk := k.block g hgl (hq _ rfl (by omega))
  exact ⟨g, off, rfl, by simp only [World.cell?, hbk] at c0 ⊢; exact c0, by simp only [World.cell?, hbk] at c1 ⊢; exact c1, by simp only [World.cell?, hbk] at c2 ⊢; exact c2, by simp only [World.cell?, hbk] at c3 ⊢; exact c3⟩

def isB (o : DoV) : Bool := decide (o.kind < 1) || decide (5 < o.kind)
theorem filter_snoc {L : List DoV} {k : Nat} (h : k < L.length) : (isB L[k] = true → (L.take (k + 1)).filter isB = (L.take k).filter isB ++ [L[k]]) ∧ (isB L[k] = false → (L.take (k + 1)).filter isB = (L.take k).filter isB) := by
  rw [List.take_succ_eq_append_getElem h, List.filter_append]
  constructor
  · intro e; rw [List.filter_cons_of_pos e]; rfl
  · intro e; rw [List.filter_cons_of_neg (by simp [e])]; simp

set_option maxHeartbeats 2000000 in
set_option maxRecDepth 20000 in
theorem batches_any (q : Option Addr) (qc : Nat) (L : List DoV) (w : World) (hp : Dop w q L) (hl : L.length ≤ 1048576) :
    Calls Tryz.prog 13 #[.slice q L.length qc] w fun e w' => ∃ v, e = .returned v ∧ Below w.heap.size w w' ∧ OwnD w' w.heap.size v (L.filter isB) := by
  obtain ⟨i0, hi0, hz0, hz1, hz2⟩ := info_parts Tryz.info74
  go_enter Tryz.func13, Tryz.ntmps13
  go_wp2
  go_loopw [3, 4] (fun v i wr => ∃ k : Nat, k ≤ L.length ∧ i = .int .i64 k ∧ OwnD wr w.heap.size v ((L.take k).filter isB) ∧ Below w.heap.size w wr) (fun _ i _ => L.length - (intOf i).toNat)
  case atStart => exact ⟨0, Nat.zero_le _, rfl, World.ownsRow_nil _ _ _ _, Below.refl _ _⟩
  case round =>
    obtain ⟨k, hk, rfl, hown, hB⟩ := hrel
    have hs := hB.size
    by_cases hlt : k < L.length
    · obtain ⟨g, off, rfl, c0, c1, c2, c3⟩ := (hp.below hB) k hlt
      obtain ⟨hy, hn⟩ := filter_snoc hlt
      have hml : ((L.take k).filter isB).length ≤ 1048576 := Nat.le_trans (List.length_filter_le _ _) (by rw [List.length_take]; omega)
      cases hb : isB L[k]
      · have HM : Hid ((L.take (k + 1)).filter isB = (L.take k).filter isB) := hn hb
        simp only [isB, Bool.or_eq_false_iff, decide_eq_false_iff_not] at hb
        obtain ⟨b1, b2⟩ := hb
        clear hy hn
        go_wp2
        go_roundw
        case rel => exact ⟨k + 1, by omega, by go_num, by rw [HM.out]; exact hown, hB⟩
        case measure => simp [intOf]; omega
      · have HM : Hid ((L.take (k + 1)).filter isB = (L.take k).filter isB ++ [L[k]]) := hy hb
        clear hy hn
        generalize (L.take k).filter isB = M at *
        have HC : Hid (L[k].kind < 1 ∨ (¬ L[k].kind < 1 ∧ 5 < L[k].kind)) := by
          simp only [isB, Bool.or_eq_true, decide_eq_true_eq] at hb
          show _ ∨ _
          omega
        clear hb
        rcases HC.out with b1 | ⟨b1, b2⟩
        all_goals
          go_wp2_with (first
            | (at_builtin; refine wpList_append_own _ rfl (.tmp 25) (.tmp 30) 26 rfl w.heap.size 74 i0 _ 4 48 Tryz.underlying26 hi0 hz0 hz1 hz2 rfl (by decide) _ M.length (flatD M) rfl (World.ownsRow.alloc hown _) ⟨wr.heap.size, 0, none⟩ 1 1 [.int .i64 L[k].kind, .int .i64 L[k].a, .int .i64 L[k].b, .slice L[k].q L[k].ops.length L[k].qc] rfl rfl (do_new rfl) (by simp [Value.oneCell']) (by unfold maxLen; omega) (by omega) (by simp; omega) ?_; intro v' w2 hown' hgrow _)
            | go_in)
          go_roundw
          case rel =>
            refine ⟨k + 1, by omega, by go_num, ?_, (hB.alloc hs _).grown hgrow (by simp; omega) (fun k hk => (World.ownsRow.lt hown k hk).1)⟩
            unfold OwnD
            rw [HM.out, flatD_snoc, List.length_append]
            exact hown'
          case measure => simp [intOf]; omega
    · have hkl : k = L.length := by omega
      rw [hkl, List.take_of_length_le (Nat.le_refl _)] at hown
      go_wp2
      go_ret
      exact ⟨_, rfl, hB, hown⟩

end Go.Proofs.YtfghgmojnffgnaaGreat

/- The statements' wrote: batches, as long as there are ops left. -/
namespace Go.Proofs.YtfghgmojnffgnaaGreat
open Go.RowKit Go.Maps Go.Sort

/-- A store that has room for so many ops more. -/
structure Wr (w : World) (U : Nat → Prop) (bx bz : Nat) (lv : Value) (d : Dk) (st : St) (left : Nat) : Prop where
  shop : Shop w U bx bz d st
  up : ∀ k, U k → k < w.heap.size
  row : PRowS w U lv st.m
  inv : DInv d st.m
  turn : st.turn = d.turn
  stuck : st.stuck = false
  quota : d.quota = 1048576
  room : used d.files + 88 * left ≤ 1048576
theorem Wr.below {w w' : World} {bx bz : Nat} {lv : Value} {U : Nat → Prop} {d : Dk} {st : St} {left : Nat} (h : Wr w U bx bz lv d st left) (hb : Below w.heap.size w w') : Wr w' U bx bz lv d st left :=
  ⟨h.shop.below hb, fun k s => Nat.lt_of_lt_of_le (h.up k s) hb.size, h.row.below hb, h.inv, h.turn, h.stuck, h.quota, h.room⟩
theorem Wr.kept {w w' : World} {bx bz : Nat} {lv : Value} {U V : Nat → Prop} {d : Dk} {st : St} {left : Nat} (h : Wr w U bx bz lv d st left) (k : Kp V w w') (hV : ∀ i, U i → ¬ V i) (hr : PRowS w' U lv st.m) : Wr w' U bx bz lv d st left :=
  ⟨h.shop.kept k hV, fun i s => Nat.lt_of_lt_of_le (h.up i s) k.size, hr, h.inv, h.turn, h.stuck, h.quota, h.room⟩

/-- What is done, outside of a set. -/
def DoOut (U : Nat → Prop) (o : DoV) : Prop := ∀ a, o.q = some a → 0 < o.ops.length → ¬ U a.block

theorem enc_room {l : List Ox} (h : batchOk l = true) : (encode l).length ≤ 88 * l.length := by
  have h1 := (batchOk_iff.1 h).1
  have h2 := (encBody_len l (batchOk_iff.1 h).2).2
  rw [encode_len]
  omega

set_option maxHeartbeats 1000000 in
set_option maxRecDepth 20000 in
theorem wrote_any (bx bz : Nat) (lv : Value) (d : Dk) (st : St) (left : Nat) (U : Nat → Prop) (q : Option Addr) (qc : Nat) (L : List DoV) (w : World) (hW : Wr w U bx bz lv d st left) (hleft : left ≤ 1000000) (hl : L.length ≤ 1048576) (hL : Dop w q L) (hq : ∀ a, q = some a → 0 < L.length → ¬ U a.block) (hok : ∀ o ∈ L, DoOk w o ∧ DoOut U o) :
    Calls Tryz.prog 12 #[.pointer (some ⟨bz, 0, none⟩), lv, .slice q L.length qc, .int .i64 left] w fun e w' => ∃ v left' U' d' st', e = .returned (.tuple #[v, .int .i64 ((left' : Nat) : Int), .bool true]) ∧ Wr w' U' bx bz v d' st' left' ∧ (∀ k, U' k → Nw U w k) ∧ Kp U w w' ∧ d'.turn = d.turn ∧ left' ≤ left := by
  go_enter Tryz.func12, Tryz.ntmps12
  go_wp2
  go_loopw [1, 3, 11] (fun v lf i wr => ∃ (k left' : Nat) (U' : Nat → Prop) (d' : Dk) (st' : St), k ≤ L.length ∧ i = .int .i64 k ∧ lf = .int .i64 left' ∧ Wr wr U' bx bz v d' st' left' ∧ (∀ k, U' k → Nw U w k) ∧ Kp U w wr ∧ d'.turn = d.turn ∧ left' ≤ left) (fun _ _ i _ => L.length - (intOf i).toNat)
  case atStart => exact ⟨0, left, U, d, st, Nat.zero_le _, rfl, rfl, hW, fun k s => .inl s, Kp.refl _ _, rfl, Nat.le_refl _⟩
  case round =>
    obtain ⟨k, left', U', d', st', hk, rfl, rfl, hC, hU, kp, ht, hle⟩ := hrel
    have hs := kp.size
    by_cases hlt : k < L.length
    · obtain ⟨g, off, rfl, c0, c1, c2, c3⟩ := (hL.kept kp hq) k hlt
      obtain ⟨hdo, hout⟩ := hok L[k] (List.getElem_mem hlt)
      have hT := tidied_any L[k].q L[k].qc L[k].ops wr (hdo.opp.kept kp hout) hdo.ox (by have := hdo.len; omega)
      have hbk := tidy_ok L[k].ops
      have hox := tidy_ox L[k].ops
      have hb8 := (batchOk_iff.1 hbk).1
      have hen := enc_room hbk
      generalize tidyL L[k].ops = T at *
      have hlen := hC.inv.len
      by_cases hfit : T.length ≤ left'
      · go_wp2_with (go_at_call 29; refine hT.mono ?_; rintro e w7 ⟨v7, rfl, hb7, ho7⟩; obtain ⟨q7, c7, rfl, hp7, hn7⟩ := ho7.opp; clear hT)
        have hC7 := hC.below hb7
        have hk7 := kp_below kp hb7
        have hsz := hb7.size
        have hnU : ∀ a, q7 = some a → 0 < T.length → ¬ U' a.block := fun a ha _ s => by have := (hn7 a ha).1; have := hC.up _ s; omega
        have hXB := xBatch_any bx bz d' st' U' q7 c7 T w7 hC7.shop hC7.inv.ok (by have := hC7.inv.files; omega) (by omega) (by omega) hox hp7 hnU
        have hroom := hC.room
        obtain ⟨f, hx, hD', hf'⟩ := batchX_done hC.inv hC.turn hC.stuck hbk (by rw [hC.quota]; omega)
        rw [hx] at hXB
        refine hXB.mono ?_
        rintro e w8 ⟨rfl, hS8, k8⟩
        clear hXB
        have hrow8 := hC7.row.step k8
        have hp8 := hp7.kept k8 hnU
        have hk8 : Kp U w w8 := hk7.trans k8 (fun i hi s => (hU i s).elim id (fun h => by omega))
        go_wp2_with (go_at_call 31; refine (behind_row (fun i => Nw U' w7 i ∧ i < w8.heap.size) _ st'.m q7 c7 T w8 (fun k s => s.2) hrow8 hC.inv.mok.rise hp8 (by omega)).mono ?_; rintro e w9 ⟨v9, rfl, hb9, hr9⟩)
        go_roundw
        case rel =>
          refine ⟨k + 1, left' - T.length, _, _, _, by omega, by go_num, by go_num, ⟨(hS8.mono (V := fun i => Nw U' w7 i ∧ i < w8.heap.size) (fun i hi s => ⟨s, hi⟩)).below hb9, fun i s => Nat.lt_of_lt_of_le s.2 hb9.size, hr9, hD', hC.turn, hC.stuck, hC.quota, ?_⟩, fun i s => s.1.elim (fun u => hU i u) (fun u => .inr (by omega)), kp_below hk8 hb9, ht, by omega⟩
          show used [(logN, f)] + _ ≤ _
          rw [used_one, hf']
          omega
        case measure => simp [intOf]; omega
      · have hfit' : left' < T.length := by omega
        go_wp2_with (go_at_call 29; refine hT.mono ?_; rintro e w7 ⟨v7, rfl, hb7, ho7⟩; obtain ⟨q7, c7, rfl, hp7, hn7⟩ := ho7.opp; clear hT)
        go_ret3
        exact ⟨_, left', U', d', st', rfl, hC.below hb7, hU, kp_below kp hb7, ht, hle⟩
    · go_wp2
      go_ret3
      exact ⟨_, left', U', d', st', rfl, hC, hU, kp, ht, hle⟩

theorem do_in {L : List DoV} {w w' : World} {U : Nat → Prop} (hok : ∀ o ∈ L, DoOk w o ∧ ∀ b, o.q = some b → 0 < o.ops.length → b.block < w.heap.size) (hb : Below w.heap.size w w') (hU : ∀ k, U k → w.heap.size ≤ k) : ∀ o ∈ L.filter isB, DoOk w' o ∧ DoOut U o := fun o ho => by
  obtain ⟨h1, h2⟩ := hok o (List.mem_filter.1 ho).1
  exact ⟨h1.below hb, fun a ha h0 s => by have := h2 a ha h0; have := hU _ s; omega⟩

end Go.Proofs.YtfghgmojnffgnaaGreat
