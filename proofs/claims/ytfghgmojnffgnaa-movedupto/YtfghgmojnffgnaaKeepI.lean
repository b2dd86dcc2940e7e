/- The statements' batches, wrote. -/
import Derived.Test.YtfghgmojnffgnaaKeepH
namespace Go.Proofs.Ytfghgmojnffgnaa
open Go.RowKit Go.Maps Go.Sort

theorem Try.info44 : (Try.prog.info? 44).map (fun i => (i.zero, i.size, i.bytes)) = some (some (.agg #[.int .i64 0, .int .i64 0, .int .i64 0, .slice none 0 0]), 4, 48) := by kernel_rfl

def flatD (l : List DoV) : List Value := l.flatMap fun o => [.int .i64 o.kind, .int .i64 o.a, .int .i64 o.b, .slice o.q o.ops.length o.qc]
theorem flatD_snoc (l : List DoV) (o : DoV) : flatD (l ++ [o]) = flatD l ++ [.int .i64 o.kind, .int .i64 o.a, .int .i64 o.b, .slice o.q o.ops.length o.qc] := by simp [flatD]
theorem flatD_len (l : List DoV) : (flatD l).length = l.length * 4 := by
  induction l with
  | nil => rfl
  | cons x r ih => show (Value.int .i64 x.kind :: .int .i64 x.a :: .int .i64 x.b :: .slice x.q x.ops.length x.qc :: flatD r).length = _; simp [ih]; omega
def OwnD (w : World) (base : Nat) (v : Value) (l : List DoV) : Prop := w.ownsRow base 44 4 v l.length (flatD l)
theorem flatD_at : ∀ (l : List DoV) (i : Nat) (h : i < l.length), (flatD l)[i * 4]? = some (.int .i64 l[i].kind) ∧ (flatD l)[i * 4 + 1]? = some (.int .i64 l[i].a) ∧ (flatD l)[i * 4 + 2]? = some (.int .i64 l[i].b) ∧ (flatD l)[i * 4 + 3]? = some (.slice l[i].q l[i].ops.length l[i].qc)
  | x :: r, 0, _ => by simp [flatD]
  | x :: r, i + 1, h => by
    obtain ⟨h0, h1, h2, h3⟩ := flatD_at r i (by simpa using h)
    have e : flatD (x :: r) = [.int .i64 x.kind, .int .i64 x.a, .int .i64 x.b, .slice x.q x.ops.length x.qc] ++ flatD r := by simp [flatD]
    rw [e]
    refine ⟨?_, ?_, ?_, ?_⟩
    · rw [show (i + 1) * 4 = i * 4 + 4 by omega, List.getElem?_append_right (by simp)]; simpa using h0
    · rw [show (i + 1) * 4 + 1 = i * 4 + 1 + 4 by omega, List.getElem?_append_right (by simp)]; simpa using h1
    · rw [show (i + 1) * 4 + 2 = i * 4 + 2 + 4 by omega, List.getElem?_append_right (by simp)]; simpa using h2
    · rw [show (i + 1) * 4 + 3 = i * 4 + 3 + 4 by omega, List.getElem?_append_right (by simp)]; simpa using h3
theorem OwnD.dop {w : World} {base : Nat} {v : Value} {l : List DoV} (h : OwnD w base v l) : ∃ q cap, v = .slice q l.length cap ∧ Dop w q l ∧ ∀ a, q = some a → base ≤ a.block ∧ a.block < w.heap.size := by
  rcases h.2 with ⟨hv, hn⟩ | ⟨g, cap, cur, hv, hb, hgg, _⟩
  · exact ⟨none, 0, by rw [hv, hn], fun i hi => by omega, fun a ha => by cases ha⟩
  · refine ⟨_, cap, hv, fun i hi => ?_, fun a ha => by cases ha; exact ⟨hb, lt_of_block hgg⟩⟩
    have hc := World.ownsRow.cells h (g := g) (by rw [hv]; rfl)
    obtain ⟨k0, k1, k2, k3⟩ := flatD_at l i hi
    refine ⟨g, 0, rfl, ?_, ?_, ?_, ?_⟩
    · have := hc _ _ k0; rwa [Addr.add_lit] at this
    · have := hc _ _ k1; rwa [Addr.add_lit, ← Nat.add_assoc] at this
    · have := hc _ _ k2; rwa [Addr.add_lit, ← Nat.add_assoc] at this
    · have := hc _ _ k3; rwa [Addr.add_lit, ← Nat.add_assoc] at this
theorem do_new {W : World} {n : Nat} (h : W.heap.size = n) {a b c d : Value} : ∀ j u, [a, b, c, d][j]? = some u → (W.alloc (.cells #[a, b, c, d] 44)).cell? ((⟨n, 0, none⟩ : Addr).add j) = some u := by
  intro j u hu
  subst h
  rw [Addr.add_lit, Nat.zero_add, cell_block (block_new W _)]
  simpa using hu
theorem Dop.kept {w w' : World} {U : Nat → Prop} {q : Option Addr} {l : List DoV} (h : Dop w q l) (k : Kp U w w') (hq : ∀ a, q = some a → 0 < l.length → ¬ U a.block) : Dop w' q l := fun i hi => by
  obtain ⟨g, off, rfl, c0, c1, c2, c3⟩ := h i hi
  have hgl := World.block_lt_of_cell? w ⟨g, off + i * 4, none⟩ c0
  have hbk := k.block g hgl (hq _ rfl (by omega))
  exact ⟨g, off, rfl, by simp only [World.cell?, hbk] at c0 ⊢; exact c0, by simp only [World.cell?, hbk] at c1 ⊢; exact c1, by simp only [World.cell?, hbk] at c2 ⊢; exact c2, by simp only [World.cell?, hbk] at c3 ⊢; exact c3⟩

def isB (o : DoV) : Bool := decide (o.kind < 1) || decide (5 < o.kind)
theorem filter_snoc {L : List DoV} {k : Nat} (h : k < L.length) : (isB L[k] = true → (L.take (k + 1)).filter isB = (L.take k).filter isB ++ [L[k]]) ∧ (isB L[k] = false → (L.take (k + 1)).filter isB = (L.take k).filter isB) := by
  rw [List.take_succ_eq_append_getElem h, List.filter_append]
  constructor
  · intro e; rw [List.filter_cons_of_pos e]; rfl
  · intro e; rw [List.filter_cons_of_neg (by simp [e])]; simp

set_option maxHeartbeats 2000000 in
set_option maxRecDepth 20000 in
theorem batches_any (q : Option Addr) (qc : Nat) (L : List DoV) (w : World) (hp : Dop w q L) (hl : L.length ≤ 1048576) :
    Calls Try.prog 11 #[.slice q L.length qc] w fun e w' => ∃ v, e = .returned v ∧ Below w.heap.size w w' ∧ OwnD w' w.heap.size v (L.filter isB) := by
  obtain ⟨i0, hi0, hz0, hz1, hz2⟩ := info_parts Try.info44
  go_enter Try.func11, Try.ntmps11
  go_wp2
  go_loopw [3, 4] (fun v i wr => ∃ k : Nat, k ≤ L.length ∧ i = .int .i64 k ∧ OwnD wr w.heap.size v ((L.take k).filter isB) ∧ Below w.heap.size w wr) (fun _ i _ => L.length - (intOf i).toNat)
  case atStart => exact ⟨0, Nat.zero_le _, rfl, World.ownsRow_nil _ _ _ _, Below.refl _ _⟩
  case round =>
    obtain ⟨k, hk, rfl, hown, hB⟩ := hrel
    have hs := hB.size
    by_cases hlt : k < L.length
    · obtain ⟨g, off, rfl, c0, c1, c2, c3⟩ := (hp.below hB) k hlt
      obtain ⟨hy, hn⟩ := filter_snoc hlt
      have hml : ((L.take k).filter isB).length ≤ 1048576 := Nat.le_trans (List.length_filter_le _ _) (by rw [List.length_take]; omega)
      cases hb : isB L[k]
      · have HM : Hid ((L.take (k + 1)).filter isB = (L.take k).filter isB) := hn hb
        simp only [isB, Bool.or_eq_false_iff, decide_eq_false_iff_not] at hb
        obtain ⟨b1, b2⟩ := hb
        clear hy hn
        go_wp2
        go_roundw
        case rel => exact ⟨k + 1, by omega, by go_num, by rw [HM.out]; exact hown, hB⟩
        case measure => simp [intOf]; omega
      · have HM : Hid ((L.take (k + 1)).filter isB = (L.take k).filter isB ++ [L[k]]) := hy hb
        clear hy hn
        generalize (L.take k).filter isB = M at *
        have HC : Hid (L[k].kind < 1 ∨ (¬ L[k].kind < 1 ∧ 5 < L[k].kind)) := by
          simp only [isB, Bool.or_eq_true, decide_eq_true_eq] at hb
          show _ ∨ _
          omega
        clear hb
        rcases HC.out with b1 | ⟨b1, b2⟩
        all_goals
          go_wp2_with (first
            | (at_builtin; refine wpList_append_own _ rfl (.tmp 25) (.tmp 30) 22 rfl w.heap.size 44 i0 _ 4 48 Try.underlying22 hi0 hz0 hz1 hz2 rfl (by decide) _ M.length (flatD M) rfl (World.ownsRow.alloc hown _) ⟨wr.heap.size, 0, none⟩ 1 1 [.int .i64 L[k].kind, .int .i64 L[k].a, .int .i64 L[k].b, .slice L[k].q L[k].ops.length L[k].qc] rfl rfl (do_new rfl) (by simp [Value.oneCell']) (by unfold maxLen; omega) (by omega) (by simp; omega) ?_; intro v' w2 hown' hgrow _)
            | go_in)
          go_roundw
          case rel =>
            refine ⟨k + 1, by omega, by go_num, ?_, (hB.alloc hs _).grown hgrow (by simp; omega) (fun k hk => (World.ownsRow.lt hown k hk).1)⟩
            unfold OwnD
            rw [HM.out, flatD_snoc, List.length_append]
            exact hown'
          case measure => simp [intOf]; omega
    · have hkl : k = L.length := by omega
      rw [hkl, List.take_of_length_le (Nat.le_refl _)] at hown
      go_wp2
      go_ret
      exact ⟨_, rfl, hB, hown⟩

end Go.Proofs.Ytfghgmojnffgnaa
