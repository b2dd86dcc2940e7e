import Derived.WideShapes
import Derived.RowKit
import Derived.Test.YtoabedkcieindaaGreatDoorRows
import Derived.WalkKit
import Derived.WalkSpells
import Derived.WalkLawsBesides
import Derived.Maps.OwnSet
import Derived.Maps.Ext
import Derived.Sort.EncStr
namespace Go.Proofs.YtoabedkcieindaaGreatDoor

abbrev Nm := List UInt8

structure Fl where
  bytes : List UInt8
  safe : Nat

structure Dk where
  quota : Nat
  files : List (Nm × Fl)
  left : Int
  dead : Bool
  turn : Int

def nameByte (c : UInt8) : Bool := (decide (97 ≤ c) && decide (c ≤ 122)) || (decide (48 ≤ c) && decide (c ≤ 57)) || (c == 46)
def nameOk (n : Nm) : Bool := decide (1 ≤ n.length) && decide (n.length ≤ 20) && n.all nameByte

section lists
variable {α β : Type}

def usedL (l : List Nat) : Nat := l.sum
def used (fs : List (Nm × Fl)) : Nat := (fs.map fun x => x.2.bytes.length).sum

def getF (n : Nm) : List (Nm × α) → Option α
  | [] => none
  | x :: r => if x.1 = n then some x.2 else getF n r

def ins (x : Nm × α) : List (Nm × α) → List (Nm × α)
  | [] => [x]
  | y :: r => if bytesBefore x.1 y.1 then x :: y :: r else y :: ins x r

def del (n : Nm) (l : List (Nm × α)) : List (Nm × α) := l.filter fun x => !(x.1 == n)

def upd (n : Nm) (f : α → α) (l : List (Nm × α)) : List (Nm × α) := l.map fun x => if x.1 = n then (x.1, f x.2) else x

def rising (l : List (Nm × α)) : Prop := l.Pairwise fun x y => bytesBefore x.1 y.1 = true

end lists

def Dk.burn (d : Dk) : Dk := { d with left := max (d.left - 1) (-1) }
def Dk.die (d : Dk) : Dk := { d with dead := true }

def addB (b : List UInt8) (f : Fl) : Fl := { f with bytes := f.bytes ++ b }
def allSafe (f : Fl) : Fl := { f with safe := f.bytes.length }

def Dk.write (d : Dk) (n : Nm) (b : List UInt8) : Int × Dk :=
  if d.dead then (4, d) else if nameOk n = false then (1, d) else if d.quota < used d.files + b.length then (3, d)
  else if d.left = 0 then (4, d.die) else
  (0, { d.burn with files := if (getF n d.files).isSome then upd n (addB b) d.files else ins (n, ⟨b, 0⟩) d.files })

def Dk.sync (d : Dk) (n : Nm) : Int × Dk :=
  if d.dead then (4, d) else if (getF n d.files).isNone then (2, d) else if d.left = 0 then (4, d.die) else
  (0, { d.burn with files := upd n allSafe d.files })

def moved (n m : Nm) (f : Fl) (l : List (Nm × Fl)) : List (Nm × Fl) := if n = m then l else ins (m, f) (del m (del n l))

def Dk.rename (d : Dk) (n m : Nm) : Int × Dk :=
  if d.dead then (4, d) else if nameOk m = false then (1, d) else
  match getF n d.files with
  | none => (2, d)
  | some f => if d.left = 0 then (4, d.die) else (0, { d.burn with files := moved n m f d.files })

def Dk.remove (d : Dk) (n : Nm) : Int × Dk :=
  if d.dead then (4, d) else if (getF n d.files).isNone then (2, d) else if d.left = 0 then (4, d.die) else
  (0, { d.burn with files := del n d.files })

def Dk.read (d : Dk) (n : Nm) : List UInt8 × Int :=
  if d.dead then ([], 4) else match getF n d.files with | none => ([], 2) | some f => (f.bytes, 0)

def Dk.safe (d : Dk) (n : Nm) : Nat × Int :=
  if d.dead then (0, 4) else match getF n d.files with | none => (0, 2) | some f => (f.safe, 0)

def Dk.fuse (d : Dk) (n : Int) : Dk := if d.dead then d else { d with left := max n (-1) }

def kept (k : Int) (f : Fl) : Fl := let m := f.safe + min k.toNat (f.bytes.length - f.safe); ⟨f.bytes.take m, m⟩

def crashL : List Int → List (Nm × Fl) → List (Nm × Fl)
  | _, [] => []
  | [], x :: r => (x.1, kept 0 x.2) :: crashL [] r
  | k :: ks, x :: r => (x.1, kept k x.2) :: crashL ks r

def Dk.crash (d : Dk) (ks : List Int) : Dk := { d with files := crashL ks d.files, left := -1, dead := false, turn := Go.RowKit.wrap64 (d.turn + 1) }

structure Dk.Ok (d : Dk) : Prop where
  quota : d.quota ≤ 1048576
  used : used d.files ≤ d.quota
  left0 : -1 ≤ d.left
  left1 : d.left ≤ 9223372036854775807
  safe : ∀ x ∈ d.files, x.2.safe ≤ x.2.bytes.length
  rise : rising d.files
  name : ∀ x ∈ d.files, x.1.length ≤ 20

end Go.Proofs.YtoabedkcieindaaGreatDoor

namespace Go.Proofs.YtoabedkcieindaaGreatDoor

structure Ox where
  key : Nm
  val : Nm
  gone : Bool

abbrev Mp := List (Nm × Nm)

def doOp (m : Mp) (o : Ox) : Mp := if o.gone then del o.key m else ins (o.key, o.val) (del o.key m)
def doAll (m : Mp) (l : List Ox) : Mp := l.foldl doOp m

def keyOk (n : Nm) : Bool := decide (1 ≤ n.length) && decide (n.length ≤ 16)
def opOk (o : Ox) : Bool := keyOk o.key && (o.gone || decide (o.val.length ≤ 64))
def batchOk (l : List Ox) : Bool := decide (1 ≤ l.length) && decide (l.length ≤ 8) && l.all opOk

def bare (o : Ox) : Ox := if o.gone then { o with val := [] } else o

def encOp (o : Ox) : List UInt8 := if o.gone then UInt8.ofNat (o.key.length + 128) :: o.key else UInt8.ofNat o.key.length :: UInt8.ofNat o.val.length :: (o.key ++ o.val)
def encBody (l : List Ox) : List UInt8 := l.flatMap encOp

def fnvStep (n : Nat) (c : UInt8) : Nat := (n ^^^ c.toNat) * 16777619 % 4294967296
def fnv (l : List UInt8) : Nat := l.foldl fnvStep 2166136261

def be4 (n : Nat) : List UInt8 := [UInt8.ofNat (n / 16777216), UInt8.ofNat (n / 65536), UInt8.ofNat (n / 256), UInt8.ofNat n]
def be2 (n : Nat) : List UInt8 := [UInt8.ofNat (n / 256), UInt8.ofNat n]
def encode (l : List Ox) : List UInt8 := be2 (encBody l).length ++ be4 (fnv (encBody l)) ++ encBody l

def byteAt (l : List UInt8) (i : Nat) : Nat := (l.getD i 0).toNat

def decOp (l : List UInt8) : Option (Ox × Nat) :=
  if 128 ≤ byteAt l 0 then
    let k := byteAt l 0 - 128
    if 1 ≤ k ∧ k ≤ 16 ∧ 1 + k ≤ l.length then some (⟨(l.drop 1).take k, [], true⟩, 1 + k) else none
  else
    let k := byteAt l 0
    let v := byteAt l 1
    if 2 ≤ l.length ∧ 1 ≤ k ∧ k ≤ 16 ∧ v ≤ 64 ∧ 2 + k + v ≤ l.length then some (⟨(l.drop 2).take k, (l.drop (2 + k)).take v, false⟩, 2 + k + v) else none

def decOps : Nat → List UInt8 → Option (List Ox)
  | _, [] => some []
  | 0, _ :: _ => none
  | k + 1, c :: r => match decOp (c :: r) with
    | none => none
    | some (o, n) => (decOps k ((c :: r).drop n)).map (o :: ·)

def be4N (l : List UInt8) : Nat := byteAt l 0 * 16777216 + byteAt l 1 * 65536 + byteAt l 2 * 256 + byteAt l 3

def decode (t : List UInt8) : Option (Option (List Ox × Nat)) :=
  if t.length < 2 then some none else
  let n := byteAt t 0 * 256 + byteAt t 1
  if n < 2 ∨ 656 < n then none else
  if t.length < 6 + n then some none else
  let b := (t.drop 6).take n
  match decOps 8 b with
  | none => none
  | some ops => if fnv b = be4N (t.drop 2) then some (some (ops, 6 + n)) else none

def replay : Nat → List UInt8 → Mp → Option (Mp × Nat)
  | 0, _, m => some (m, 0)
  | f + 1, t, m => if t.length = 0 then some (m, 0) else match decode t with
    | none => none
    | some none => some (m, 0)
    | some (some (ops, n)) => (replay f (t.drop n) (doAll m ops)).map fun x => (x.1, n + x.2)

end Go.Proofs.YtoabedkcieindaaGreatDoor

namespace Go.Proofs.YtoabedkcieindaaGreatDoor

theorem byte_nat {n : Nat} (h : n < 256) : (UInt8.ofNat n).toNat = n := by simp [UInt8.toNat_ofNat']; omega
theorem byteAt_zero (c : UInt8) (r : List UInt8) : byteAt (c :: r) 0 = c.toNat := rfl
theorem byteAt_succ (c : UInt8) (r : List UInt8) (i : Nat) : byteAt (c :: r) (i + 1) = byteAt r i := rfl
theorem byteAt_lt (l : List UInt8) (i : Nat) : byteAt l i < 256 := by unfold byteAt; exact UInt8.toNat_lt _

theorem opOk_key {o : Ox} (h : opOk o = true) : 1 ≤ o.key.length ∧ o.key.length ≤ 16 := by
  simp only [opOk, keyOk, Bool.and_eq_true, decide_eq_true_eq] at h; exact h.1
theorem opOk_val {o : Ox} (h : opOk o = true) (hg : o.gone = false) : o.val.length ≤ 64 := by
  simp only [opOk, hg, Bool.false_or, Bool.and_eq_true, decide_eq_true_eq] at h; exact h.2

theorem decOp_enc {o : Ox} (h : opOk o = true) (r : List UInt8) : decOp (encOp o ++ r) = some (bare o, (encOp o).length) := by
  obtain ⟨k1, k2⟩ := opOk_key h
  cases hg : o.gone with
  | true =>
    have e : encOp o ++ r = UInt8.ofNat (o.key.length + 128) :: (o.key ++ r) := by simp [encOp, hg]
    rw [e]
    have hb : byteAt (UInt8.ofNat (o.key.length + 128) :: (o.key ++ r)) 0 = o.key.length + 128 := byte_nat (by omega)
    simp only [decOp, hb]
    rw [if_pos (by omega), if_pos (by simp; omega)]
    simp [bare, hg, encOp, Nat.add_comm]
  | false =>
    have hv := opOk_val h hg
    have e : encOp o ++ r = UInt8.ofNat o.key.length :: UInt8.ofNat o.val.length :: (o.key ++ (o.val ++ r)) := by simp [encOp, hg]
    rw [e]
    have hb : byteAt (UInt8.ofNat o.key.length :: UInt8.ofNat o.val.length :: (o.key ++ (o.val ++ r))) 0 = o.key.length := byte_nat (by omega)
    have hb1 : byteAt (UInt8.ofNat o.key.length :: UInt8.ofNat o.val.length :: (o.key ++ (o.val ++ r))) 1 = o.val.length := byte_nat (by omega)
    simp only [decOp, hb, hb1]
    rw [if_neg (by omega), if_pos (by simp; omega)]
    have h2 : List.drop (2 + o.key.length) (UInt8.ofNat o.key.length :: UInt8.ofNat o.val.length :: (o.key ++ (o.val ++ r))) = o.val ++ r := by
      rw [show 2 + o.key.length = o.key.length + 1 + 1 by omega]; simp
    simp only [List.drop_succ_cons, List.drop_zero, h2, Option.some.injEq, Prod.mk.injEq]
    refine ⟨?_, ?_⟩
    · cases o
      simp only at hg
      subst hg
      simp [bare]
    · simp [encOp, hg]; omega
theorem encOp_pos (o : Ox) : ∃ c r, encOp o = c :: r := by unfold encOp; split <;> exact ⟨_, _, rfl⟩
theorem decOps_enc : ∀ (k : Nat) (l : List Ox), l.length ≤ k → (∀ o ∈ l, opOk o = true) → decOps k (encBody l) = some (l.map bare)
  | _, [], _, _ => by simp [encBody, decOps]
  | 0, o :: r, h, _ => by simp at h
  | k + 1, o :: r, h, ho => by
    have e : encBody (o :: r) = encOp o ++ encBody r := by simp [encBody]
    obtain ⟨c, t, hc⟩ := encOp_pos o
    have hd := decOp_enc (ho o (by simp)) (encBody r)
    rw [e, hc, List.cons_append, decOps]
    rw [hc, List.cons_append] at hd
    rw [hd]
    have hdr : List.drop (encOp o).length (c :: (t ++ encBody r)) = encBody r := by
      rw [← List.cons_append, ← hc]; simp
    simp only [hc, List.length_cons] at hdr ⊢
    rw [hdr, decOps_enc k r (by simpa using h) (fun o' h' => ho o' (by simp [h']))]
    rfl

theorem encOp_len {o : Ox} (h : opOk o = true) : 2 ≤ (encOp o).length ∧ (encOp o).length ≤ 82 := by
  obtain ⟨k1, k2⟩ := opOk_key h
  cases hg : o.gone with
  | true => simp [encOp, hg]; omega
  | false => have := opOk_val h hg; simp [encOp, hg]; omega
theorem encBody_len : ∀ (l : List Ox), (∀ o ∈ l, opOk o = true) → 2 * l.length ≤ (encBody l).length ∧ (encBody l).length ≤ 82 * l.length
  | [], _ => by simp [encBody]
  | o :: r, h => by
    have e : encBody (o :: r) = encOp o ++ encBody r := by simp [encBody]
    have h1 := encOp_len (h o (by simp))
    have h2 := encBody_len r (fun o' h' => h o' (by simp [h']))
    rw [e, List.length_append, List.length_cons]
    omega
theorem batchOk_iff {l : List Ox} : batchOk l = true ↔ (1 ≤ l.length ∧ l.length ≤ 8) ∧ ∀ o ∈ l, opOk o = true := by
  simp [batchOk, and_assoc]
theorem body_len {l : List Ox} (h : batchOk l = true) : 2 ≤ (encBody l).length ∧ (encBody l).length ≤ 656 := by
  obtain ⟨⟨h1, h2⟩, h3⟩ := batchOk_iff.1 h
  have := encBody_len l h3
  omega
theorem fnvStep_lt (n : Nat) (c : UInt8) : fnvStep n c < 4294967296 := by unfold fnvStep; omega
theorem foldl_snoc {α β : Type} (f : α → β → α) (a : α) (l : List β) (c : β) : (l ++ [c]).foldl f a = f (l.foldl f a) c := by simp
theorem fnv_snoc (l : List UInt8) (c : UInt8) : fnv (l ++ [c]) = fnvStep (fnv l) c := foldl_snoc fnvStep _ l c
theorem fnv_lt (l : List UInt8) : fnv l < 4294967296 := by
  rcases List.eq_nil_or_concat l with rfl | ⟨r, c, rfl⟩
  · simp [fnv]
  · rw [List.concat_eq_append, fnv_snoc]; exact fnvStep_lt _ _

theorem byte_mod (n : Nat) : (UInt8.ofNat n).toNat = n % 256 := by simp [UInt8.toNat_ofNat']
theorem be4_back {n : Nat} (h : n < 4294967296) (r : List UInt8) : be4N (be4 n ++ r) = n := by
  simp only [be4N, be4, List.cons_append, byteAt_succ, byteAt_zero, byte_mod]
  omega
theorem be2_len (n : Nat) : (be2 n).length = 2 := rfl
theorem be4_len (n : Nat) : (be4 n).length = 4 := rfl
theorem encode_len (l : List Ox) : (encode l).length = 6 + (encBody l).length := by simp [encode, be2_len, be4_len]; omega

theorem decode_enc {l : List Ox} (h : batchOk l = true) (r : List UInt8) : decode (encode l ++ r) = some (some (l.map bare, (encode l).length)) := by
  obtain ⟨hb1, hb2⟩ := body_len h
  obtain ⟨⟨h1, h2⟩, h3⟩ := batchOk_iff.1 h
  have hl := encode_len l
  have e0 : byteAt (encode l ++ r) 0 = (encBody l).length / 256 := by
    simp only [encode, be2, List.cons_append, byteAt_zero, byte_mod]; omega
  have e1 : byteAt (encode l ++ r) 1 = (encBody l).length % 256 := by
    simp only [encode, be2, List.cons_append, byteAt_succ, byteAt_zero, byte_mod]
  have en : byteAt (encode l ++ r) 0 * 256 + byteAt (encode l ++ r) 1 = (encBody l).length := by rw [e0, e1]; omega
  have d6 : (encode l ++ r).drop 6 = encBody l ++ r := by simp [encode, be2, be4]
  have d2 : (encode l ++ r).drop 2 = be4 (fnv (encBody l)) ++ (encBody l ++ r) := by simp [encode, be2]
  have hlen : (encode l ++ r).length = 6 + (encBody l).length + r.length := by rw [List.length_append, hl]
  unfold decode
  rw [if_neg (by rw [hlen]; omega)]
  simp only [en, d6, d2, hlen]
  rw [if_neg (by omega), if_neg (by omega)]
  rw [List.take_left' rfl, decOps_enc 8 l h2 h3, be4_back (fnv_lt _)]
  simp [hl]

theorem byteAt_take {l : List UInt8} {i m : Nat} (h : i < m) : byteAt (l.take m) i = byteAt l i := by
  unfold byteAt
  congr 1
  simp [List.getD, h]
theorem decode_cut {l : List Ox} (h : batchOk l = true) {m : Nat} (hm : m < (encode l).length) : decode ((encode l).take m) = some none := by
  obtain ⟨hb1, hb2⟩ := body_len h
  have hl := encode_len l
  have hlen : ((encode l).take m).length = m := by rw [List.length_take]; omega
  unfold decode
  rw [hlen]
  by_cases h2 : m < 2
  · rw [if_pos h2]
  · rw [if_neg h2]
    have e0 : byteAt ((encode l).take m) 0 = (encBody l).length / 256 := by
      rw [byteAt_take (by omega)]; simp only [encode, be2, List.cons_append, byteAt_zero, byte_mod]; omega
    have e1 : byteAt ((encode l).take m) 1 = (encBody l).length % 256 := by
      rw [byteAt_take (by omega)]; simp only [encode, be2, List.cons_append, byteAt_succ, byteAt_zero, byte_mod]
    have en : byteAt ((encode l).take m) 0 * 256 + byteAt ((encode l).take m) 1 = (encBody l).length := by rw [e0, e1]; omega
    simp only [en]
    rw [if_neg (by omega), if_pos (by omega)]

theorem doOp_bare (m : Mp) (o : Ox) : doOp m (bare o) = doOp m o := by
  unfold bare
  split
  · rename_i h; simp [doOp, h]
  · rfl
theorem doAll_bare (m : Mp) (l : List Ox) : doAll m (l.map bare) = doAll m l := by
  induction l generalizing m with
  | nil => rfl
  | cons o r ih => show doAll (doOp m (bare o)) (r.map bare) = doAll (doOp m o) r; rw [doOp_bare, ih]
theorem doAll_append (m : Mp) (a b : List Ox) : doAll m (a ++ b) = doAll (doAll m a) b := by simp [doAll, List.foldl_append]

def logOf (bs : List (List Ox)) : List UInt8 := bs.flatMap encode
theorem logOf_cons (b : List Ox) (bs : List (List Ox)) : logOf (b :: bs) = encode b ++ logOf bs := by simp [logOf]
theorem logOf_append (a b : List (List Ox)) : logOf (a ++ b) = logOf a ++ logOf b := by simp [logOf]
theorem logOf_one (b : List Ox) : logOf [b] = encode b := by simp [logOf]

def isCut (p : List UInt8) : Prop := p = [] ∨ ∃ b m, batchOk b = true ∧ m < (encode b).length ∧ p = (encode b).take m
theorem isCut_decode {p : List UInt8} (h : isCut p) : p.length = 0 ∨ decode p = some none := by
  rcases h with rfl | ⟨b, m, hb, hm, rfl⟩
  · exact .inl rfl
  · exact .inr (decode_cut hb hm)

theorem replay_log : ∀ (bs : List (List Ox)) (p : List UInt8) (m : Mp) (f : Nat), (∀ b ∈ bs, batchOk b = true) → isCut p → (logOf bs ++ p).length ≤ f → replay f (logOf bs ++ p) m = some (doAll m bs.flatten, (logOf bs).length)
  | [], p, m, f, _, hp, hf => by
    match f with
    | 0 => rfl
    | f + 1 =>
      rw [replay]
      show (if (logOf [] ++ p).length = 0 then _ else _) = _
      have : logOf [] ++ p = p := rfl
      rw [this]
      rcases isCut_decode hp with h | h
      · rw [if_pos h]; rfl
      · split
        · rfl
        · rw [h]; rfl
  | b :: bs, p, m, f, hb, hp, hf => by
    have hl := encode_len b
    rw [logOf_cons, List.append_assoc] at hf ⊢
    match f with
    | 0 => rw [List.length_append] at hf; omega
    | f + 1 =>
      rw [replay, if_neg (by rw [List.length_append]; omega), decode_enc (hb b (by simp))]
      simp only [List.drop_left]
      rw [replay_log bs p _ f (fun x hx => hb x (by simp [hx])) hp (by simp only [List.length_append] at hf ⊢; omega)]
      simp only [Option.map_some, doAll_bare, List.flatten_cons, doAll_append, List.length_append]

theorem log_cut : ∀ (bs : List (List Ox)) (m : Nat), (∀ b ∈ bs, batchOk b = true) → ∃ n p, n ≤ bs.length ∧ isCut p ∧ (logOf bs).take m = logOf (bs.take n) ++ p ∧ (logOf (bs.take n)).length ≤ m ∧ (n < bs.length → m < (logOf (bs.take (n + 1))).length)
  | [], m, _ => ⟨0, [], Nat.le_refl _, .inl rfl, by simp [logOf], by simp [logOf], by simp⟩
  | b :: bs, m, h => by
    rw [logOf_cons]
    by_cases hm : m < (encode b).length
    · refine ⟨0, (encode b).take m, Nat.zero_le _, .inr ⟨b, m, h b (by simp), hm, rfl⟩, ?_, by simp [logOf], fun _ => by simpa [logOf] using hm⟩
      rw [List.take_append_of_le_length (by omega)]
      rfl
    · obtain ⟨n, p, h1, h2, h3, h4, h5⟩ := log_cut bs (m - (encode b).length) (fun x hx => h x (by simp [hx]))
      refine ⟨n + 1, p, by simp; omega, h2, ?_, ?_, ?_⟩
      · rw [List.take_append, List.take_of_length_le (by omega), h3, List.take_succ_cons, logOf_cons, List.append_assoc]
      · rw [List.take_succ_cons, logOf_cons, List.length_append]; omega
      · intro hn
        rw [List.take_succ_cons, logOf_cons, List.length_append]
        have := h5 (by simpa using hn)
        omega

end Go.Proofs.YtoabedkcieindaaGreatDoor

namespace Go.Proofs.YtoabedkcieindaaGreatDoor
open Go.RowKit

structure Kp (S : Nat → Prop) (w w' : World) : Prop where
  os : w'.os = w.os
  tape : w'.tape = w.tape
  output : w'.output = w.output
  size : w.heap.size ≤ w'.heap.size
  block : ∀ k, k < w.heap.size → ¬ S k → w'.heap[k]? = w.heap[k]?

theorem Kp.refl (S : Nat → Prop) (w : World) : Kp S w w := ⟨rfl, rfl, rfl, Nat.le_refl _, fun _ _ _ => rfl⟩
theorem Kp.trans {S T : Nat → Prop} {a b c : World} (h : Kp S a b) (k : Kp T b c) (hT : ∀ i, i < a.heap.size → T i → S i) : Kp S a c :=
  ⟨k.os.trans h.os, k.tape.trans h.tape, k.output.trans h.output, Nat.le_trans h.size k.size,
   fun i hi hs => (k.block i (Nat.lt_of_lt_of_le hi h.size) (fun t => hs (hT i hi t))).trans (h.block i hi hs)⟩
theorem Kp.mono {S T : Nat → Prop} {a b : World} (h : Kp S a b) (hT : ∀ i, S i → T i) : Kp T a b :=
  ⟨h.os, h.tape, h.output, h.size, fun i hi hs => h.block i hi (fun s => hs (hT i s))⟩
theorem Kp.drew {S : Nat → Prop} {a w : World} (h : Kp S a w) : Kp S a w.drew := ⟨h.os, h.tape, h.output, h.size, h.block⟩
theorem Kp.alloc {S : Nat → Prop} {a w : World} (h : Kp S a w) (o : Obj) : Kp S a (w.alloc o) :=
  h.trans (T := fun _ => False) ⟨rfl, rfl, rfl, by simp, fun k hk _ => Below.heap_alloc _ _ _ (by omega)⟩ (fun _ _ f => f.elim)
theorem Kp.setCell {S : Nat → Prop} {a w : World} (h : Kp S a w) {p : Addr} (hp : p.block < a.heap.size → S p.block) (u : Value) : Kp S a (w.setCell p u) :=
  h.trans (T := fun i => i = p.block) ⟨rfl, rfl, rfl, by simp [World.setCell], fun k _ hne => Below.heap_setCell _ _ _ _ hne⟩ (fun i hi e => by subst e; exact hp hi)
theorem Kp.grown {S : Nat → Prop} {a w w' : World} {row : Option Nat} (h : Kp S a w) (hg : w.grownBy w' row) (hr : ∀ k, row = some k → k < a.heap.size → S k) : Kp S a w' :=
  h.trans (T := fun i => some i = row) ⟨hg.os, hg.tape, hg.output, hg.size, fun k hk hne => hg.block k hk hne⟩ (fun i hi e => hr i e.symm hi)
theorem Kp.of_below {S : Nat → Prop} {w w' : World} (h : Below w.heap.size w w') : Kp S w w' := ⟨h.os, h.tape, h.output, h.size, fun k hk _ => h.block k hk⟩
theorem Kp.below {w w' : World} (h : Kp (fun _ => False) w w') : Below w.heap.size w w' := ⟨h.os, h.tape, h.output, h.size, fun k hk => h.block k hk (fun f => f)⟩
theorem Kp.at {S : Nat → Prop} {w w' : World} (h : Kp S w w') {b : Nat} {o : Obj} (hb : w.heap[b]? = some o) (hs : ¬ S b) : w'.heap[b]? = some o :=
  (h.block b (Array.getElem?_eq_some_iff.1 hb).1 hs).trans hb
theorem lt_of_block {w : World} {b : Nat} {o : Obj} (hb : w.heap[b]? = some o) : b < w.heap.size := (Array.getElem?_eq_some_iff.1 hb).1

theorem cell_block {w : World} {b j : Nat} {cs : Array Value} {t : TypeId} {z : Nat × Nat} (hb : w.heap[b]? = some (.cells cs t z)) : w.cell? ⟨b, j, none⟩ = cs[j]? := by simp [World.cell?, hb]
theorem frozen_block {w : World} {b j : Nat} {cs : Array Value} {t : TypeId} (hb : w.heap[b]? = some (.cells cs t (0, 0))) : w.frozen? ⟨b, j, none⟩ = false := by simp [World.frozen?, hb]
theorem block_set {w : World} {b j : Nat} {cs : Array Value} {t : TypeId} {z : Nat × Nat} (hb : w.heap[b]? = some (.cells cs t z)) (u : Value) : (w.setCell ⟨b, j, none⟩ u).heap[b]? = some (.cells (cs.setIfInBounds j u) t z) := by
  simp [World.setCell, Array.getElem?_modify, hb]
theorem block_set_ne {w : World} {b j k : Nat} {o : Obj} (hb : w.heap[k]? = some o) (hne : k ≠ b) (u : Value) : (w.setCell ⟨b, j, none⟩ u).heap[k]? = some o := by
  rw [Below.heap_setCell _ _ _ _ hne]; exact hb
theorem block_alloc {w : World} {k : Nat} {o p : Obj} (hb : w.heap[k]? = some o) : (w.alloc p).heap[k]? = some o := by
  rw [Below.heap_alloc _ _ _ (lt_of_block hb)]; exact hb
theorem block_new (w : World) (p : Obj) : (w.alloc p).heap[w.heap.size]? = some p := by
  show (w.heap.push p)[w.heap.size]? = _; simp

theorem ownsRow_of_block {w w' : World} {base : Nat} {e : TypeId} {size : Nat} {v : Value} {n : Nat} {xs : List Value} (h : w.ownsRow base e size v n xs) (hb : ∀ g, v.ownBlock = some g → w'.heap[g]? = w.heap[g]?) : w'.ownsRow base e size v n xs := by
  refine ⟨h.1, ?_⟩
  rcases h.2 with hn | ⟨g, cap, cur, rfl, hbase, hgg, rest⟩
  · exact .inl hn
  · exact .inr ⟨g, cap, cur, rfl, hbase, (hb g rfl).trans hgg, rest⟩
theorem Kp.row {S : Nat → Prop} {w w' : World} (k : Kp S w w') {base : Nat} {e : TypeId} {size : Nat} {v : Value} {n : Nat} {xs : List Value} (h : w.ownsRow base e size v n xs) (hs : ∀ g, v.ownBlock = some g → ¬ S g) : w'.ownsRow base e size v n xs :=
  ownsRow_of_block h (fun g hg => k.block g (h.lt g hg).2 (hs g hg))
theorem ownsMap_of_block {H : Type} {w w' : World} {P : Program} {k : TypeId} {R : Value → Option (DataW H × List MemPlace)} {b n : Nat} {D : DataW H} (h : w.ownsMap P k R b n D) (hb : w'.heap[b]? = w.heap[b]?) : w'.ownsMap P k R b n D := by
  obtain ⟨es, c, h1, r⟩ := h
  exact ⟨es, c, hb.trans h1, r⟩

end Go.Proofs.YtoabedkcieindaaGreatDoor
