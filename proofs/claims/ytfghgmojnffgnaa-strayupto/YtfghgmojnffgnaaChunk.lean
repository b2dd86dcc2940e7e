/- slices.Chunk of a list of ops: a function of the program's own. -/
import Derived.Test.YtfghgmojnffgnaaOps
namespace Go.Proofs.Ytfghgmojnffgnaa
open Go.RowKit Go.Maps Go.Sort Go.Shelf

/-- Some blocks are as they were, and none is taken away. -/
structure Kz (Z : Nat → Prop) (w w' : World) : Prop where
  size : w.heap.size ≤ w'.heap.size
  block : ∀ i, i < w.heap.size → Z i → w'.heap[i]? = w.heap[i]?
theorem Kz.refl (Z : Nat → Prop) (w : World) : Kz Z w w := ⟨Nat.le_refl _, fun _ _ _ => rfl⟩
theorem Kz.trans {Z : Nat → Prop} {A B C : World} (h : Kz Z A B) (k : Kz Z B C) : Kz Z A C := ⟨Nat.le_trans h.size k.size, fun i hi z => (k.block i (Nat.lt_of_lt_of_le hi h.size) z).trans (h.block i hi z)⟩
theorem Kz.of_kp {Z S : Nat → Prop} {A B : World} (h : Kp S A B) (hs : ∀ i, Z i → ¬ S i) : Kz Z A B := ⟨h.size, fun i hi z => h.block i hi (hs i z)⟩
theorem Kz.box {Z : Nat → Prop} {A B : World} (h : Kz Z A B) {b : Nat} {t : TypeId} {v : Value} (hb : Boxed A b t v) (hz : Z b) : Boxed B b t v := (h.block b hb.lt hz).trans hb

/-- A piece of a list: from where on, and how many. -/
abbrev CX (n : Nat) := { x : Nat × Nat // x.1 + x.2 ≤ n ∧ 1 ≤ x.2 ∧ x.2 ≤ 8 }
def cuts (n : Nat) : List (CX n) := (List.finRange ((n + 7) / 8)).map fun j => ⟨(8 * j.1, min 8 (n - 8 * j.1)), by have := j.2; simp only; omega⟩
theorem cuts_len (n : Nat) : (cuts n).length = (n + 7) / 8 := by simp [cuts]
theorem cuts_at {n k : Nat} (h : k < (cuts n).length) : (cuts n)[k].1 = (8 * k, min 8 (n - 8 * k)) := by simp [cuts]
def encX (g off : Nat) {n : Nat} (x : CX n) : Array Value := #[.slice (some ⟨g, off + x.1.1 * 3, none⟩) x.1.2 x.1.2]

theorem Try.cellsc66 : Try.prog.cellsOf 66 = 3 := by kernel_rfl

set_option maxRecDepth 100000 in
set_option maxHeartbeats 1000000 in
theorem chunk1_in (l B1 B2 g off n cap : Nat) (q : Option Addr) (hq0 : 0 < n → q = some ⟨g, off, none⟩) (hn : n ≤ 4194304) (hnc : n ≤ cap) (Z : Nat → Prop) (z1 : Z B1) (z2 : Z B2) (J Jx : List (CX n) → World → Prop) (W : World) (hJ : AbidesFrom W.heap.size J)
    (hY : ∀ pre x W1, J pre W1 → pre.length < (cuts n).length → YieldAt Fence.wide 4 Try.prog l (encX g off x) W1 fun e W' =>
      (e = .returned (.bool true) ∧ J (pre ++ [x]) W' ∧ Kz Z W1 W') ∨ (e = .returned (.bool false) ∧ Jx (pre ++ [x]) W'))
    (b1 : Boxed W B1 41 (.slice q n cap)) (b2 : Boxed W B2 3 (.int .i64 8)) (h0 : J [] W) :
    CallsIn Fence.wide 5 Try.prog 98 #[.func (.yield l) #[] #[], .pointer (some ⟨B1, 0, none⟩), .pointer (some ⟨B2, 0, none⟩)] W fun e W' => (∃ v, e = .returned v) ∧
      ((∃ ys, ys = cuts n ∧ J ys W') ∨ (∃ pre, pre <+: cuts n ∧ Jx pre W')) := by
  have hcl := cuts_len n
  refine callsIn_of_wp Try.func98 rfl trivial ?_ rfl
  simp only [Try.ntmps98, List.size_toArray, List.length_cons, List.length_nil, Nat.reduceAdd, Nat.reduceSub, Array.replicate_succ, Array.replicate_zero, List.push_toArray, List.append_toArray, List.nil_append, List.cons_append]
  gi_wp2
  gi_loopw [4] (fun i wr => ∃ k : Nat, k ≤ (cuts n).length ∧ i = .int .i64 ((8 * k : Nat) : Int) ∧ J ((cuts n).take k) wr ∧ Kz Z W wr) (fun i _ => n + 8 - (intOf i).toNat)
  case atStart => exact ⟨0, Nat.zero_le _, rfl, h0, Kz.refl _ _⟩
  case round =>
    obtain ⟨k, hk, rfl, hJk, hq⟩ := hrel
    have c1 := (hq.box b1 z1).cell
    have c2 := (hq.box b2 z2).cell
    by_cases hlt : k < (cuts n).length
    · have h8 : 8 * k < n := by omega
      obtain rfl := hq0 (by omega)
      have e1 := cuts_at hlt
      obtain ⟨M, hM⟩ : ∃ M : Nat, min 8 (n - 8 * k) = M := ⟨_, rfl⟩
      rw [hM] at e1
      have em : min (8 : Int) ((n - 8 * k : Nat) : Int) = (M : Int) := by omega
      have hM1 : M ≤ n - 8 * k := by omega
      have hM2 : M ≤ 8 := by omega
      have et : (8 * (k : Int) + (M : Int)).toNat - 8 * k = M := by omega
      have hJd := hJ _ wr wr.drew none hJk (below_grown ((Below.refl wr.heap.size wr).drew)) (fun r e => by cases e)
      obtain ⟨fn, tmps, assign, body, hy, hR⟩ := hY ((cuts n).take k) (cuts n)[k] wr.drew hJd (by rw [List.length_take]; omega)
      unfold encX at hy
      rw [e1] at hy
      simp only at hy
      have hqd : Kz Z W wr.drew := ⟨hq.size, hq.block⟩
      clear hY hM
      gi_wp2
      gi_region
      gi_wp2
      refine hR.mono ?_
      rintro e W3 (⟨rfl, hJ3, hk3⟩ | ⟨rfl, hJx3⟩)
      · have hq3 := hqd.trans hk3
        have d2 := (hq3.box b2 z2).cell
        gi_wp2
        go_roundw
        case rel => exact ⟨k + 1, by omega, by go_num, by rw [List.take_succ_eq_append_getElem hlt]; exact hJ3, hq3⟩
        case measure => simp [intOf]; omega
      · gi_wp2
        refine bodyPost_ret (results_none rfl _ _ _) rfl ?_
        refine ⟨⟨_, rfl⟩, .inr ⟨_, ⟨(cuts n).drop (k + 1), ?_⟩, hJx3⟩⟩
        rw [← List.take_succ_eq_append_getElem hlt, List.take_append_drop]
    · have h8 : ¬ 8 * k < n := by omega
      rw [List.take_of_length_le (by omega)] at hJk
      gi_wp2
      go_end0
      exact ⟨⟨_, rfl⟩, .inl ⟨_, rfl, hJk⟩⟩

set_option maxHeartbeats 400000 in
theorem chunk_in (q : Option Addr) (n cap : Nat) (w : World) :
    CallsIn Fence.wide 5 Try.prog 88 #[.slice q n cap, .int .i64 8] w fun e w' => e = .returned (.func (.func 98) #[] #[.pointer (some ⟨w.heap.size, 0, none⟩), .pointer (some ⟨w.heap.size + 1, 0, none⟩)]) ∧ w' = (w.alloc (.cells #[.slice q n cap] 41)).alloc (.cells #[.int .i64 8] 3) := by
  refine callsIn_of_wp Try.func88 rfl trivial ?_ rfl
  simp only [Try.ntmps88, List.size_toArray, List.length_cons, List.length_nil, Nat.reduceAdd, Nat.reduceSub, Array.replicate_succ, Array.replicate_zero, List.push_toArray, List.append_toArray, List.nil_append, List.cons_append]
  gi_wp2
  go_ret
  exact ⟨rfl, rfl⟩

theorem chunk_stops (B1 B2 g off n cap : Nat) (q : Option Addr) (hq0 : 0 < n → q = some ⟨g, off, none⟩) (hn : n ≤ 4194304) (hnc : n ≤ cap) (Z : Nat → Prop) (z1 : Z B1) (z2 : Z B2) (w : World) (b1 : Boxed w B1 41 (.slice q n cap)) (b2 : Boxed w B2 3 (.int .i64 8)) :
    SeqStopsK Fence.wide 5 Try.prog 98 #[.pointer (some ⟨B1, 0, none⟩), .pointer (some ⟨B2, 0, none⟩)] (encX g off) (Kz Z) (fun ys => ys = cuts n) (fun pre => pre <+: cuts n) (cuts n).length w := fun l J Jx W hW hJ _ hY h0 => by
  have k : Kz Z w W := ⟨hW.size, fun i hi _ => hW.block i hi⟩
  exact chunk1_in l B1 B2 g off n cap q hq0 hn hnc Z z1 z2 J Jx W hJ hY (k.box b1 z1) (k.box b2 z2) h0

end Go.Proofs.Ytfghgmojnffgnaa
