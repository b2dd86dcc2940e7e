/- The statements without the document's answer: behind. -/
import Derived.Test.YtfghgmojnffgnaaKeepB
namespace Go.Proofs.Ytfghgmojnffgnaa
open Go.RowKit Go.Maps Go.Sort

theorem all_after {k : Nm} {v : Nm} {r : List (Nm × Nm)} (h : ∀ y ∈ r, bytesBefore k y.1 = true) : (r.filter fun x => bytesBefore k x.1) = r ∧ del k r = r ∧ ins (k, v) r = (k, v) :: r := by
  refine ⟨List.filter_eq_self.2 h, List.filter_eq_self.2 (fun y hy => ?_), ?_⟩
  · have := before_ne (h y hy)
    simpa using fun e => this e.symm
  · cases r with
    | nil => rfl
    | cons y r => simp only [ins]; rw [if_pos (h y (by simp))]
theorem before_asymm {a b : Nm} (h : bytesBefore a b = true) : bytesBefore b a = false := by
  cases h2 : bytesBefore b a
  · rfl
  · have := before_trans h h2; rw [WideAt.bytes_irrefl] at this; cases this

theorem kdoneL_doOp : ∀ {l : List (Nm × Nm)} (o : Ox), rising l → kdoneL l o = doOp l o
  | [], o, _ => by unfold kdoneL doOp; cases o.gone <;> rfl
  | x :: r, o, hr => by
    have hr1 : ∀ y ∈ r, bytesBefore x.1 y.1 = true := (List.pairwise_cons.1 hr).1
    have hr2 : rising r := (List.pairwise_cons.1 hr).2
    cases hb : bytesBefore x.1 o.key
    · by_cases e : x.1 = o.key
      · obtain ⟨a1, a2, a3⟩ := all_after (k := o.key) (v := o.val) (r := r) (by rw [← e]; exact hr1)
        have hd : del o.key (x :: r) = r := by
          unfold del at a2 ⊢
          rw [List.filter_cons_of_neg (by simp [e])]; exact a2
        have ht : ((x :: r).takeWhile fun y => bytesBefore y.1 o.key) = [] := by rw [List.takeWhile_cons_of_neg (by simp [hb])]
        have hf : ((x :: r).filter fun y => bytesBefore o.key y.1) = r := by
          rw [List.filter_cons_of_neg (by rw [e, WideAt.bytes_irrefl]; simp)]; exact a1
        unfold kdoneL doOp
        rw [ht, hf, hd]
        cases o.gone
        · simp [a3]
        · simp
      · have hk : bytesBefore o.key x.1 = true := by
          rcases WideAt.bytes_total x.1 o.key e with c | c
          · rw [hb] at c; cases c
          · exact c
        obtain ⟨a1, a2, a3⟩ := all_after (k := o.key) (v := o.val) (r := x :: r) (by
          intro y hy
          rcases List.mem_cons.1 hy with rfl | hy
          · exact hk
          · exact before_trans hk (hr1 y hy))
        have ht : ((x :: r).takeWhile fun y => bytesBefore y.1 o.key) = [] := by rw [List.takeWhile_cons_of_neg (by simp [hb])]
        unfold kdoneL doOp
        rw [ht, a1, a2]
        cases o.gone
        · simp [a3]
        · simp
    · have ih := kdoneL_doOp o hr2
      have hk := before_asymm hb
      have ht : ((x :: r).takeWhile fun y => bytesBefore y.1 o.key) = x :: r.takeWhile fun y => bytesBefore y.1 o.key := List.takeWhile_cons_of_pos (by exact hb)
      have hf : ((x :: r).filter fun y => bytesBefore o.key y.1) = r.filter fun y => bytesBefore o.key y.1 := by rw [List.filter_cons_of_neg (by simp [hk])]
      have hd : del o.key (x :: r) = x :: del o.key r := by
        unfold del
        rw [List.filter_cons_of_pos (by simpa using before_ne hb)]
      unfold kdoneL doOp at ih ⊢
      rw [ht, hf, hd]
      cases hg : o.gone
      · rw [hg] at ih
        simp only [Bool.false_eq_true, if_false] at ih ⊢
        show _ = ins (o.key, o.val) (x :: del o.key r)
        rw [ins, if_neg (by simp [hk]), ← ih]
        simp
      · rw [hg] at ih
        simp only [if_true] at ih ⊢
        rw [← ih]
        simp
theorem rising_doOp {l : List (Nm × Nm)} (o : Ox) (h : rising l) : rising (doOp l o) := by
  unfold doOp
  split
  · exact rising_del h
  · exact rising_ins (rising_del h) (getF_del _ _)
theorem rising_doAll {l : List (Nm × Nm)} (ops : List Ox) (h : rising l) : rising (doAll l ops) := by
  induction ops generalizing l with
  | nil => exact h
  | cons o r ih => exact ih (rising_doOp o h)

/-- A row of pairs that is there, in a world. -/
def PRow (w : World) (v : Value) (l : List (Nm × Nm)) : Prop := ∃ q c, v = .slice q l.length c ∧ Pairp w q l
theorem PRow.below {w w' : World} {v : Value} {l : List (Nm × Nm)} (h : PRow w v l) (hb : Below w.heap.size w w') : PRow w' v l := by
  obtain ⟨q, c, e, hp⟩ := h
  exact ⟨q, c, e, hp.below hb⟩
theorem OwnP.row {w : World} {base : Nat} {v : Value} {l : List (Nm × Nm)} (h : OwnP w base v l) : PRow w v l := by
  obtain ⟨q, c, e, hp, _⟩ := h.pairp
  exact ⟨q, c, e, hp⟩

set_option maxHeartbeats 2000000 in
set_option maxRecDepth 20000 in
theorem behind_any (v0 : Value) (l : List (Nm × Nm)) (qo : Option Addr) (oc : Nat) (ops : List Ox) (w : World) (hv : PRow w v0 l) (hr : rising l) (ho : Opp w qo ops) (hl : l.length + ops.length ≤ 4190000) :
    Calls Try.prog 18 #[v0, .slice qo ops.length oc] w fun e w' => ∃ v, e = .returned v ∧ Below w.heap.size w w' ∧ PRow w' v (doAll l ops) := by
  go_enter Try.func18, Try.ntmps18
  go_wp2
  go_loopw [0, 5] (fun v i wr => ∃ k : Nat, k ≤ ops.length ∧ i = .int .i64 k ∧ PRow wr v (doAll l (ops.take k)) ∧ Below w.heap.size w wr) (fun _ i _ => ops.length - (intOf i).toNat)
  case atStart => exact ⟨0, Nat.zero_le _, rfl, hv, Below.refl _ _⟩
  case round =>
    obtain ⟨k, hk, rfl, hrow, hB⟩ := hrel
    have hs := hB.size
    by_cases hlt : k < ops.length
    · obtain ⟨g, off, rfl, c0, c1, c2⟩ := (ho.below hB) k hlt
      obtain ⟨q, c, rfl, hp⟩ := hrow
      have hml := doAll_len l (ops.take k)
      rw [List.length_take] at hml
      have HS : Hid (doAll l (ops.take (k + 1)) = kdoneL (doAll l (ops.take k)) ops[k]) := by show _ = _; rw [doAll_snoc l hlt, kdoneL_doOp _ (rising_doAll _ hr)]
      generalize doAll l (ops.take k) = M at *
      go_wp2_with (go_at_call 38; refine (kdone_any q c M ops[k] _ hp (by omega)).mono ?_; rintro e w1 ⟨v, rfl, hb, hown⟩)
      go_roundw
      case rel => exact ⟨k + 1, by omega, by go_num, by rw [HS.out]; exact hown.row, hB.trans (hb.mono hs)⟩
      case measure => simp [intOf]; omega
    · rw [List.take_of_length_le (by omega)] at hrow
      go_wp2
      go_ret
      exact ⟨_, rfl, hB, hrow⟩

end Go.Proofs.Ytfghgmojnffgnaa
