/- The store as plain mathematics: what is always so of a map; a log that is written anew. -/
import Derived.Test.YtfghgmojnffgnaaGreatStoreA
import Derived.Test.YtfghgmojnffgnaaGreatLawF
namespace Go.Proofs.YtfghgmojnffgnaaGreat
open Go.RowKit

structure MOk (m : Mp) : Prop where
  rise : rising m
  key : ∀ x ∈ m, keyOk x.1 = true
  val : ∀ x ∈ m, x.2.length ≤ 64

theorem MOk.nil : MOk [] := ⟨List.Pairwise.nil, fun _ h => (by cases h), fun _ h => (by cases h)⟩
theorem mem_ins {α : Type} {x y : Nm × α} {l : List (Nm × α)} : y ∈ ins x l ↔ y = x ∨ y ∈ l := by rw [(ins_perm x l).mem_iff, List.mem_cons]
theorem ins_len {α : Type} (x : Nm × α) (l : List (Nm × α)) : (ins x l).length = l.length + 1 := by rw [(ins_perm x l).length_eq]; rfl
theorem del_len {α : Type} (n : Nm) (l : List (Nm × α)) : (del n l).length ≤ l.length := List.length_filter_le _ _
theorem opOk_keyOk {o : Ox} (h : opOk o = true) : keyOk o.key = true := by simp only [opOk, Bool.and_eq_true] at h; exact h.1
theorem MOk.doOp {m : Mp} (h : MOk m) {o : Ox} (ho : opOk o = true) : MOk (doOp m o) := by
  unfold Go.Proofs.YtfghgmojnffgnaaGreat.doOp
  split
  · exact ⟨rising_del h.rise, fun x hx => h.key x (mem_del hx), fun x hx => h.val x (mem_del hx)⟩
  · rename_i hg
    refine ⟨rising_ins (rising_del h.rise) (getF_del _ _), fun x hx => ?_, fun x hx => ?_⟩
    · rcases mem_ins.1 hx with rfl | hx
      · exact opOk_keyOk ho
      · exact h.key x (mem_del hx)
    · rcases mem_ins.1 hx with rfl | hx
      · exact opOk_val ho (by simpa using hg)
      · exact h.val x (mem_del hx)
theorem MOk.doAll {m : Mp} (h : MOk m) {l : List Ox} (hl : ∀ o ∈ l, opOk o = true) : MOk (doAll m l) := by
  induction l generalizing m with
  | nil => exact h
  | cons o r ih => exact ih (h.doOp (hl o (by simp))) (fun o' h' => hl o' (by simp [h']))
theorem doOp_len (m : Mp) (o : Ox) : (doOp m o).length ≤ m.length + 1 := by
  unfold doOp
  split
  · have := del_len o.key m; omega
  · rw [ins_len]; have := del_len o.key m; omega
theorem doAll_len (m : Mp) (l : List Ox) : (doAll m l).length ≤ m.length + l.length := by
  induction l generalizing m with
  | nil => exact Nat.le_refl _
  | cons o r ih => have := ih (doOp m o); have := doOp_len m o; simp only [doAll, List.foldl_cons, List.length_cons] at *; omega

theorem decOp_ok {l : List UInt8} {o : Ox} {n : Nat} (h : decOp l = some (o, n)) : opOk o = true ∧ 2 ≤ n ∧ n ≤ l.length := by
  unfold decOp at h
  split at h
  · simp only at h
    split at h
    · rename_i h2
      simp only [Option.some.injEq, Prod.mk.injEq] at h
      obtain ⟨rfl, rfl⟩ := h
      refine ⟨?_, by omega, by omega⟩
      simp [opOk, keyOk]; omega
    · cases h
  · simp only at h
    split at h
    · rename_i h2
      simp only [Option.some.injEq, Prod.mk.injEq] at h
      obtain ⟨rfl, rfl⟩ := h
      refine ⟨?_, by omega, by omega⟩
      simp [opOk, keyOk]; omega
    · cases h
theorem decOps_ok : ∀ (k : Nat) (l : List UInt8) (ops : List Ox), decOps k l = some ops → (∀ o ∈ ops, opOk o = true) ∧ 2 * ops.length ≤ l.length ∧ (l ≠ [] → ops ≠ [])
  | k, [], ops, h => by
    have : ops = [] := by unfold decOps at h; simpa using h.symm
    subst this
    exact ⟨fun _ h => (by cases h), by simp, fun h => absurd rfl h⟩
  | 0, c :: r, ops, h => by simp [decOps] at h
  | k + 1, c :: r, ops, h => by
    rw [decOps] at h
    cases hd : decOp (c :: r) with
    | none => rw [hd] at h; cases h
    | some x =>
      obtain ⟨o, n⟩ := x
      rw [hd] at h
      simp only at h
      obtain ⟨h1, h2, h3⟩ := decOp_ok hd
      cases hr : decOps k ((c :: r).drop n) with
      | none => rw [hr] at h; cases h
      | some rest =>
        rw [hr] at h
        simp only [Option.map_some, Option.some.injEq] at h
        subst h
        obtain ⟨k1, k2, k3⟩ := decOps_ok k _ rest hr
        refine ⟨fun o' ho' => ?_, ?_, fun _ => by simp⟩
        · rcases List.mem_cons.1 ho' with rfl | ho'
          · exact h1
          · exact k1 o' ho'
        · rw [List.length_drop] at k2
          simp only [List.length_cons] at *
          omega
theorem decode_ok {t : List UInt8} {ops : List Ox} {n : Nat} (h : decode t = some (some (ops, n))) : (∀ o ∈ ops, opOk o = true) ∧ 8 ≤ n ∧ n ≤ t.length ∧ 2 * ops.length ≤ n := by
  unfold decode at h
  split at h
  · cases h
  · simp only at h
    split at h
    · cases h
    · split at h
      · cases h
      · rename_i h1 h2 h3
        split at h
        · cases h
        · rename_i ops' hd
          split at h
          · simp only [Option.some.injEq, Prod.mk.injEq] at h
            obtain ⟨rfl, rfl⟩ := h
            obtain ⟨k1, k2, k3⟩ := decOps_ok 8 _ _ hd
            rw [List.length_take, List.length_drop] at k2
            refine ⟨k1, by omega, by omega, by omega⟩
          · cases h
theorem replay_ok : ∀ (f : Nat) (t : List UInt8) (m : Mp) (m' : Mp) (n : Nat), replay f t m = some (m', n) → MOk m → MOk m' ∧ n ≤ t.length ∧ 2 * m'.length ≤ 2 * m.length + n
  | 0, t, m, m', n, h, hm => by
    simp only [replay, Option.some.injEq, Prod.mk.injEq] at h
    obtain ⟨rfl, rfl⟩ := h
    exact ⟨hm, Nat.zero_le _, by omega⟩
  | f + 1, t, m, m', n, h, hm => by
    rw [replay] at h
    split at h
    · simp only [Option.some.injEq, Prod.mk.injEq] at h
      obtain ⟨rfl, rfl⟩ := h
      exact ⟨hm, Nat.zero_le _, by omega⟩
    · split at h
      · cases h
      · simp only [Option.some.injEq, Prod.mk.injEq] at h
        obtain ⟨rfl, rfl⟩ := h
        exact ⟨hm, Nat.zero_le _, by omega⟩
      · rename_i ops k hd
        obtain ⟨h1, h2, h3, h4⟩ := decode_ok hd
        cases hr : replay f (t.drop k) (doAll m ops) with
        | none => rw [hr] at h; cases h
        | some x =>
          obtain ⟨m2, n2⟩ := x
          rw [hr] at h
          simp only [Option.map_some, Option.some.injEq, Prod.mk.injEq] at h
          obtain ⟨rfl, rfl⟩ := h
          obtain ⟨k1, k2, k3⟩ := replay_ok f _ _ _ _ hr (hm.doAll h1)
          rw [List.length_drop] at k2
          have := doAll_len m ops
          exact ⟨k1, by omega, by omega⟩

/-- Ops that make an empty map this one. -/
def opsOf (m : Mp) : List Ox := m.map fun x => ⟨x.1, x.2, false⟩
theorem ins_last {α : Type} {x : Nm × α} : ∀ {l : List (Nm × α)}, (∀ y ∈ l, bytesBefore y.1 x.1 = true) → ins x l = l ++ [x]
  | [], _ => rfl
  | y :: r, h => by
    rw [ins, if_neg, ins_last (fun z hz => h z (by simp [hz]))]
    · rfl
    · have h1 := h y (by simp)
      intro h2
      exact absurd rfl (before_ne (before_trans h1 h2))
theorem doAll_opsOf : ∀ (m a : Mp), rising (a ++ m) → doAll a (opsOf m) = a ++ m
  | [], a, _ => by simp [opsOf, doAll]
  | x :: r, a, h => by
    have hb : ∀ y ∈ a, bytesBefore y.1 x.1 = true := fun y hy => by
      have := List.pairwise_append.1 h
      exact this.2.2 y hy x (by simp)
    have hd : del x.1 a = a := del_none (getF_none (fun k hk => before_ne (hb _ (List.getElem_mem hk))))
    have e : doOp a ⟨x.1, x.2, false⟩ = a ++ [x] := by simp [doOp, hd, ins_last hb]
    show doAll (doOp a ⟨x.1, x.2, false⟩) (opsOf r) = _
    rw [e, doAll_opsOf r (a ++ [x]) (by simpa using h)]
    simp

def chunks8 : Nat → List Ox → List (List Ox)
  | 0, _ => []
  | f + 1, l => if l.length = 0 then [] else l.take 8 :: chunks8 f (l.drop 8)
theorem chunks8_flat : ∀ (f : Nat) (l : List Ox), l.length ≤ f → (chunks8 f l).flatten = l
  | 0, l, h => by have : l = [] := List.eq_nil_of_length_eq_zero (by omega); subst this; rfl
  | f + 1, l, h => by
    rw [chunks8]
    split
    · rename_i h0; have : l = [] := List.eq_nil_of_length_eq_zero h0; subst this; rfl
    · rw [List.flatten_cons, chunks8_flat f _ (by rw [List.length_drop]; omega), List.take_append_drop]
theorem chunks8_ok : ∀ (f : Nat) (l : List Ox), (∀ o ∈ l, opOk o = true) → ∀ b ∈ chunks8 f l, batchOk b = true
  | 0, l, _, b, hb => by cases hb
  | f + 1, l, h, b, hb => by
    rw [chunks8] at hb
    split at hb
    · cases hb
    · rename_i h0
      rcases List.mem_cons.1 hb with rfl | hb
      · rw [batchOk_iff]
        refine ⟨⟨by rw [List.length_take]; omega, by rw [List.length_take]; omega⟩, fun o ho => h o (List.mem_of_mem_take ho)⟩
      · exact chunks8_ok f _ (fun o ho => h o (List.mem_of_mem_drop ho)) b hb
theorem opsOf_ok {m : Mp} (h : MOk m) : ∀ o ∈ opsOf m, opOk o = true := by
  intro o ho
  obtain ⟨x, hx, rfl⟩ := List.mem_map.1 ho
  have h1 := h.key x hx
  have h2 := h.val x hx
  simp [opOk, h1, h2]

end Go.Proofs.YtfghgmojnffgnaaGreat
