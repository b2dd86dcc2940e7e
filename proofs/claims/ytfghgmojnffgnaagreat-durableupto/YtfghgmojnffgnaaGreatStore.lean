/- The store as plain mathematics: ops, records, the map, what is in a log. Nothing of the dump. -/
import Derived.Test.YtfghgmojnffgnaaGreatPlain
namespace Go.Proofs.YtfghgmojnffgnaaGreat

structure Ox where
  key : Nm
  val : Nm
  gone : Bool

abbrev Mp := List (Nm × Nm)

def doOp (m : Mp) (o : Ox) : Mp := if o.gone then del o.key m else ins (o.key, o.val) (del o.key m)
def doAll (m : Mp) (l : List Ox) : Mp := l.foldl doOp m

def keyOk (n : Nm) : Bool := decide (1 ≤ n.length) && decide (n.length ≤ 16)
def opOk (o : Ox) : Bool := keyOk o.key && (o.gone || decide (o.val.length ≤ 64))
def batchOk (l : List Ox) : Bool := decide (1 ≤ l.length) && decide (l.length ≤ 8) && l.all opOk

/-- The value of a deletion means nothing. -/
def bare (o : Ox) : Ox := if o.gone then { o with val := [] } else o

def encOp (o : Ox) : List UInt8 := if o.gone then UInt8.ofNat (o.key.length + 128) :: o.key else UInt8.ofNat o.key.length :: UInt8.ofNat o.val.length :: (o.key ++ o.val)
def encBody (l : List Ox) : List UInt8 := l.flatMap encOp

def fnvStep (n : Nat) (c : UInt8) : Nat := (n ^^^ c.toNat) * 16777619 % 4294967296
def fnv (l : List UInt8) : Nat := l.foldl fnvStep 2166136261

def be4 (n : Nat) : List UInt8 := [UInt8.ofNat (n / 16777216), UInt8.ofNat (n / 65536), UInt8.ofNat (n / 256), UInt8.ofNat n]
def be2 (n : Nat) : List UInt8 := [UInt8.ofNat (n / 256), UInt8.ofNat n]
def encode (l : List Ox) : List UInt8 := be2 (encBody l).length ++ be4 (fnv (encBody l)) ++ encBody l

def byteAt (l : List UInt8) (i : Nat) : Nat := (l.getD i 0).toNat

/-- The op with which a body begins, and how many bytes it has. -/
def decOp (l : List UInt8) : Option (Ox × Nat) :=
  if 128 ≤ byteAt l 0 then
    let k := byteAt l 0 - 128
    if 1 ≤ k ∧ k ≤ 16 ∧ 1 + k ≤ l.length then some (⟨(l.drop 1).take k, [], true⟩, 1 + k) else none
  else
    let k := byteAt l 0
    let v := byteAt l 1
    if 2 ≤ l.length ∧ 1 ≤ k ∧ k ≤ 16 ∧ v ≤ 64 ∧ 2 + k + v ≤ l.length then some (⟨(l.drop 2).take k, (l.drop (2 + k)).take v, false⟩, 2 + k + v) else none

/-- The ops of a body, k of them at most. -/
def decOps : Nat → List UInt8 → Option (List Ox)
  | _, [] => some []
  | 0, _ :: _ => none
  | k + 1, c :: r => match decOp (c :: r) with
    | none => none
    | some (o, n) => (decOps k ((c :: r).drop n)).map (o :: ·)

def be4N (l : List UInt8) : Nat := byteAt l 0 * 16777216 + byteAt l 1 * 65536 + byteAt l 2 * 256 + byteAt l 3

/-- The record with which a text begins: none: no batch was ever written so; some none: the text ends within it. -/
def decode (t : List UInt8) : Option (Option (List Ox × Nat)) :=
  if t.length < 2 then some none else
  let n := byteAt t 0 * 256 + byteAt t 1
  if n < 2 ∨ 656 < n then none else
  if t.length < 6 + n then some none else
  let b := (t.drop 6).take n
  match decOps 8 b with
  | none => none
  | some ops => if fnv b = be4N (t.drop 2) then some (some (ops, 6 + n)) else none

/-- All batches of a log, done again; how many of its bytes are whole records. -/
def replay : Nat → List UInt8 → Mp → Option (Mp × Nat)
  | 0, _, m => some (m, 0)
  | f + 1, t, m => if t.length = 0 then some (m, 0) else match decode t with
    | none => none
    | some none => some (m, 0)
    | some (some (ops, n)) => (replay f (t.drop n) (doAll m ops)).map fun x => (x.1, n + x.2)

end Go.Proofs.YtfghgmojnffgnaaGreat
