/- The store as plain mathematics: what was written is read again; a text that was cut off. -/
import Derived.Test.YtfghgmojnffgnaaGreatStore
namespace Go.Proofs.YtfghgmojnffgnaaGreat

theorem byte_nat {n : Nat} (h : n < 256) : (UInt8.ofNat n).toNat = n := by simp [UInt8.toNat_ofNat']; omega
theorem byteAt_zero (c : UInt8) (r : List UInt8) : byteAt (c :: r) 0 = c.toNat := rfl
theorem byteAt_succ (c : UInt8) (r : List UInt8) (i : Nat) : byteAt (c :: r) (i + 1) = byteAt r i := rfl
theorem byteAt_lt (l : List UInt8) (i : Nat) : byteAt l i < 256 := by unfold byteAt; exact UInt8.toNat_lt _

theorem opOk_key {o : Ox} (h : opOk o = true) : 1 ≤ o.key.length ∧ o.key.length ≤ 16 := by
  simp only [opOk, keyOk, Bool.and_eq_true, decide_eq_true_eq] at h; exact h.1
theorem opOk_val {o : Ox} (h : opOk o = true) (hg : o.gone = false) : o.val.length ≤ 64 := by
  simp only [opOk, hg, Bool.false_or, Bool.and_eq_true, decide_eq_true_eq] at h; exact h.2

theorem decOp_enc {o : Ox} (h : opOk o = true) (r : List UInt8) : decOp (encOp o ++ r) = some (bare o, (encOp o).length) := by
  obtain ⟨k1, k2⟩ := opOk_key h
  cases hg : o.gone with
  | true =>
    have e : encOp o ++ r = UInt8.ofNat (o.key.length + 128) :: (o.key ++ r) := by simp [encOp, hg]
    rw [e]
    have hb : byteAt (UInt8.ofNat (o.key.length + 128) :: (o.key ++ r)) 0 = o.key.length + 128 := byte_nat (by omega)
    simp only [decOp, hb]
    rw [if_pos (by omega), if_pos (by simp; omega)]
    simp [bare, hg, encOp, Nat.add_comm]
  | false =>
    have hv := opOk_val h hg
    have e : encOp o ++ r = UInt8.ofNat o.key.length :: UInt8.ofNat o.val.length :: (o.key ++ (o.val ++ r)) := by simp [encOp, hg]
    rw [e]
    have hb : byteAt (UInt8.ofNat o.key.length :: UInt8.ofNat o.val.length :: (o.key ++ (o.val ++ r))) 0 = o.key.length := byte_nat (by omega)
    have hb1 : byteAt (UInt8.ofNat o.key.length :: UInt8.ofNat o.val.length :: (o.key ++ (o.val ++ r))) 1 = o.val.length := byte_nat (by omega)
    simp only [decOp, hb, hb1]
    rw [if_neg (by omega), if_pos (by simp; omega)]
    have h2 : List.drop (2 + o.key.length) (UInt8.ofNat o.key.length :: UInt8.ofNat o.val.length :: (o.key ++ (o.val ++ r))) = o.val ++ r := by
      rw [show 2 + o.key.length = o.key.length + 1 + 1 by omega]; simp
    simp only [List.drop_succ_cons, List.drop_zero, h2, Option.some.injEq, Prod.mk.injEq]
    refine ⟨?_, ?_⟩
    · cases o
      simp only at hg
      subst hg
      simp [bare]
    · simp [encOp, hg]; omega
theorem encOp_pos (o : Ox) : ∃ c r, encOp o = c :: r := by unfold encOp; split <;> exact ⟨_, _, rfl⟩
theorem decOps_enc : ∀ (k : Nat) (l : List Ox), l.length ≤ k → (∀ o ∈ l, opOk o = true) → decOps k (encBody l) = some (l.map bare)
  | _, [], _, _ => by simp [encBody, decOps]
  | 0, o :: r, h, _ => by simp at h
  | k + 1, o :: r, h, ho => by
    have e : encBody (o :: r) = encOp o ++ encBody r := by simp [encBody]
    obtain ⟨c, t, hc⟩ := encOp_pos o
    have hd := decOp_enc (ho o (by simp)) (encBody r)
    rw [e, hc, List.cons_append, decOps]
    rw [hc, List.cons_append] at hd
    rw [hd]
    have hdr : List.drop (encOp o).length (c :: (t ++ encBody r)) = encBody r := by
      rw [← List.cons_append, ← hc]; simp
    simp only [hc, List.length_cons] at hdr ⊢
    rw [hdr, decOps_enc k r (by simpa using h) (fun o' h' => ho o' (by simp [h']))]
    rfl

theorem encOp_len {o : Ox} (h : opOk o = true) : 2 ≤ (encOp o).length ∧ (encOp o).length ≤ 82 := by
  obtain ⟨k1, k2⟩ := opOk_key h
  cases hg : o.gone with
  | true => simp [encOp, hg]; omega
  | false => have := opOk_val h hg; simp [encOp, hg]; omega
theorem encBody_len : ∀ (l : List Ox), (∀ o ∈ l, opOk o = true) → 2 * l.length ≤ (encBody l).length ∧ (encBody l).length ≤ 82 * l.length
  | [], _ => by simp [encBody]
  | o :: r, h => by
    have e : encBody (o :: r) = encOp o ++ encBody r := by simp [encBody]
    have h1 := encOp_len (h o (by simp))
    have h2 := encBody_len r (fun o' h' => h o' (by simp [h']))
    rw [e, List.length_append, List.length_cons]
    omega
theorem batchOk_iff {l : List Ox} : batchOk l = true ↔ (1 ≤ l.length ∧ l.length ≤ 8) ∧ ∀ o ∈ l, opOk o = true := by
  simp [batchOk, and_assoc]
theorem body_len {l : List Ox} (h : batchOk l = true) : 2 ≤ (encBody l).length ∧ (encBody l).length ≤ 656 := by
  obtain ⟨⟨h1, h2⟩, h3⟩ := batchOk_iff.1 h
  have := encBody_len l h3
  omega
theorem fnvStep_lt (n : Nat) (c : UInt8) : fnvStep n c < 4294967296 := by unfold fnvStep; omega
theorem foldl_snoc {α β : Type} (f : α → β → α) (a : α) (l : List β) (c : β) : (l ++ [c]).foldl f a = f (l.foldl f a) c := by simp
theorem fnv_snoc (l : List UInt8) (c : UInt8) : fnv (l ++ [c]) = fnvStep (fnv l) c := foldl_snoc fnvStep _ l c
theorem fnv_lt (l : List UInt8) : fnv l < 4294967296 := by
  rcases List.eq_nil_or_concat l with rfl | ⟨r, c, rfl⟩
  · simp [fnv]
  · rw [List.concat_eq_append, fnv_snoc]; exact fnvStep_lt _ _

theorem byte_mod (n : Nat) : (UInt8.ofNat n).toNat = n % 256 := by simp [UInt8.toNat_ofNat']
theorem be4_back {n : Nat} (h : n < 4294967296) (r : List UInt8) : be4N (be4 n ++ r) = n := by
  simp only [be4N, be4, List.cons_append, byteAt_succ, byteAt_zero, byte_mod]
  omega
theorem be2_len (n : Nat) : (be2 n).length = 2 := rfl
theorem be4_len (n : Nat) : (be4 n).length = 4 := rfl
theorem encode_len (l : List Ox) : (encode l).length = 6 + (encBody l).length := by simp [encode, be2_len, be4_len]; omega

theorem decode_enc {l : List Ox} (h : batchOk l = true) (r : List UInt8) : decode (encode l ++ r) = some (some (l.map bare, (encode l).length)) := by
  obtain ⟨hb1, hb2⟩ := body_len h
  obtain ⟨⟨h1, h2⟩, h3⟩ := batchOk_iff.1 h
  have hl := encode_len l
  have e0 : byteAt (encode l ++ r) 0 = (encBody l).length / 256 := by
    simp only [encode, be2, List.cons_append, byteAt_zero, byte_mod]; omega
  have e1 : byteAt (encode l ++ r) 1 = (encBody l).length % 256 := by
    simp only [encode, be2, List.cons_append, byteAt_succ, byteAt_zero, byte_mod]
  have en : byteAt (encode l ++ r) 0 * 256 + byteAt (encode l ++ r) 1 = (encBody l).length := by rw [e0, e1]; omega
  have d6 : (encode l ++ r).drop 6 = encBody l ++ r := by simp [encode, be2, be4]
  have d2 : (encode l ++ r).drop 2 = be4 (fnv (encBody l)) ++ (encBody l ++ r) := by simp [encode, be2]
  have hlen : (encode l ++ r).length = 6 + (encBody l).length + r.length := by rw [List.length_append, hl]
  unfold decode
  rw [if_neg (by rw [hlen]; omega)]
  simp only [en, d6, d2, hlen]
  rw [if_neg (by omega), if_neg (by omega)]
  rw [List.take_left' rfl, decOps_enc 8 l h2 h3, be4_back (fnv_lt _)]
  simp [hl]

theorem byteAt_take {l : List UInt8} {i m : Nat} (h : i < m) : byteAt (l.take m) i = byteAt l i := by
  unfold byteAt
  congr 1
  simp [List.getD, h]
theorem decode_cut {l : List Ox} (h : batchOk l = true) {m : Nat} (hm : m < (encode l).length) : decode ((encode l).take m) = some none := by
  obtain ⟨hb1, hb2⟩ := body_len h
  have hl := encode_len l
  have hlen : ((encode l).take m).length = m := by rw [List.length_take]; omega
  unfold decode
  rw [hlen]
  by_cases h2 : m < 2
  · rw [if_pos h2]
  · rw [if_neg h2]
    have e0 : byteAt ((encode l).take m) 0 = (encBody l).length / 256 := by
      rw [byteAt_take (by omega)]; simp only [encode, be2, List.cons_append, byteAt_zero, byte_mod]; omega
    have e1 : byteAt ((encode l).take m) 1 = (encBody l).length % 256 := by
      rw [byteAt_take (by omega)]; simp only [encode, be2, List.cons_append, byteAt_succ, byteAt_zero, byte_mod]
    have en : byteAt ((encode l).take m) 0 * 256 + byteAt ((encode l).take m) 1 = (encBody l).length := by rw [e0, e1]; omega
    simp only [en]
    rw [if_neg (by omega), if_pos (by omega)]

theorem doOp_bare (m : Mp) (o : Ox) : doOp m (bare o) = doOp m o := by
  unfold bare
  split
  · rename_i h; simp [doOp, h]
  · rfl
theorem doAll_bare (m : Mp) (l : List Ox) : doAll m (l.map bare) = doAll m l := by
  induction l generalizing m with
  | nil => rfl
  | cons o r ih => show doAll (doOp m (bare o)) (r.map bare) = doAll (doOp m o) r; rw [doOp_bare, ih]
theorem doAll_append (m : Mp) (a b : List Ox) : doAll m (a ++ b) = doAll (doAll m a) b := by simp [doAll, List.foldl_append]

/-- A log of these batches. -/
def logOf (bs : List (List Ox)) : List UInt8 := bs.flatMap encode
theorem logOf_cons (b : List Ox) (bs : List (List Ox)) : logOf (b :: bs) = encode b ++ logOf bs := by simp [logOf]
theorem logOf_append (a b : List (List Ox)) : logOf (a ++ b) = logOf a ++ logOf b := by simp [logOf]
theorem logOf_one (b : List Ox) : logOf [b] = encode b := by simp [logOf]

/-- A piece that may stand behind whole records: nothing, or a part of one. -/
def isCut (p : List UInt8) : Prop := p = [] ∨ ∃ b m, batchOk b = true ∧ m < (encode b).length ∧ p = (encode b).take m
theorem isCut_decode {p : List UInt8} (h : isCut p) : p.length = 0 ∨ decode p = some none := by
  rcases h with rfl | ⟨b, m, hb, hm, rfl⟩
  · exact .inl rfl
  · exact .inr (decode_cut hb hm)

theorem replay_log : ∀ (bs : List (List Ox)) (p : List UInt8) (m : Mp) (f : Nat), (∀ b ∈ bs, batchOk b = true) → isCut p → (logOf bs ++ p).length ≤ f → replay f (logOf bs ++ p) m = some (doAll m bs.flatten, (logOf bs).length)
  | [], p, m, f, _, hp, hf => by
    match f with
    | 0 => rfl
    | f + 1 =>
      rw [replay]
      show (if (logOf [] ++ p).length = 0 then _ else _) = _
      have : logOf [] ++ p = p := rfl
      rw [this]
      rcases isCut_decode hp with h | h
      · rw [if_pos h]; rfl
      · split
        · rfl
        · rw [h]; rfl
  | b :: bs, p, m, f, hb, hp, hf => by
    have hl := encode_len b
    rw [logOf_cons, List.append_assoc] at hf ⊢
    match f with
    | 0 => rw [List.length_append] at hf; omega
    | f + 1 =>
      rw [replay, if_neg (by rw [List.length_append]; omega), decode_enc (hb b (by simp))]
      simp only [List.drop_left]
      rw [replay_log bs p _ f (fun x hx => hb x (by simp [hx])) hp (by simp only [List.length_append] at hf ⊢; omega)]
      simp only [Option.map_some, doAll_bare, List.flatten_cons, doAll_append, List.length_append]

/-- A log that was cut off anywhere: some records are whole. -/
theorem log_cut : ∀ (bs : List (List Ox)) (m : Nat), (∀ b ∈ bs, batchOk b = true) → ∃ n p, n ≤ bs.length ∧ isCut p ∧ (logOf bs).take m = logOf (bs.take n) ++ p ∧ (logOf (bs.take n)).length ≤ m ∧ (n < bs.length → m < (logOf (bs.take (n + 1))).length)
  | [], m, _ => ⟨0, [], Nat.le_refl _, .inl rfl, by simp [logOf], by simp [logOf], by simp⟩
  | b :: bs, m, h => by
    rw [logOf_cons]
    by_cases hm : m < (encode b).length
    · refine ⟨0, (encode b).take m, Nat.zero_le _, .inr ⟨b, m, h b (by simp), hm, rfl⟩, ?_, by simp [logOf], fun _ => by simpa [logOf] using hm⟩
      rw [List.take_append_of_le_length (by omega)]
      rfl
    · obtain ⟨n, p, h1, h2, h3, h4, h5⟩ := log_cut bs (m - (encode b).length) (fun x hx => h x (by simp [hx]))
      refine ⟨n + 1, p, by simp; omega, h2, ?_, ?_, ?_⟩
      · rw [List.take_append, List.take_of_length_le (by omega), h3, List.take_succ_cons, logOf_cons, List.append_assoc]
      · rw [List.take_succ_cons, logOf_cons, List.length_append]; omega
      · intro hn
        rw [List.take_succ_cons, logOf_cons, List.length_append]
        have := h5 (by simpa using hn)
        omega

end Go.Proofs.YtfghgmojnffgnaaGreat
