/- The disk as plain mathematics: names and bytes are lists of bytes. Nothing of the dump. -/
import Derived.WideShapes
import Derived.RowKit
namespace Go.Proofs.YtoabedkcieindaaGreatDoor

abbrev Nm := List UInt8

structure Fl where
  bytes : List UInt8
  safe : Nat

structure Dk where
  quota : Nat
  files : List (Nm × Fl)
  left : Int
  dead : Bool
  turn : Int

def nameByte (c : UInt8) : Bool := (decide (97 ≤ c) && decide (c ≤ 122)) || (decide (48 ≤ c) && decide (c ≤ 57)) || (c == 46)
def nameOk (n : Nm) : Bool := decide (1 ≤ n.length) && decide (n.length ≤ 20) && n.all nameByte

section lists
variable {α β : Type}

def usedL (l : List Nat) : Nat := l.sum
def used (fs : List (Nm × Fl)) : Nat := (fs.map fun x => x.2.bytes.length).sum

def getF (n : Nm) : List (Nm × α) → Option α
  | [] => none
  | x :: r => if x.1 = n then some x.2 else getF n r

def ins (x : Nm × α) : List (Nm × α) → List (Nm × α)
  | [] => [x]
  | y :: r => if bytesBefore x.1 y.1 then x :: y :: r else y :: ins x r

def del (n : Nm) (l : List (Nm × α)) : List (Nm × α) := l.filter fun x => !(x.1 == n)

def upd (n : Nm) (f : α → α) (l : List (Nm × α)) : List (Nm × α) := l.map fun x => if x.1 = n then (x.1, f x.2) else x

def rising (l : List (Nm × α)) : Prop := l.Pairwise fun x y => bytesBefore x.1 y.1 = true

end lists

def Dk.burn (d : Dk) : Dk := { d with left := max (d.left - 1) (-1) }
def Dk.die (d : Dk) : Dk := { d with dead := true }

def addB (b : List UInt8) (f : Fl) : Fl := { f with bytes := f.bytes ++ b }
def allSafe (f : Fl) : Fl := { f with safe := f.bytes.length }

def Dk.write (d : Dk) (n : Nm) (b : List UInt8) : Int × Dk :=
  if d.dead then (4, d) else if nameOk n = false then (1, d) else if d.quota < used d.files + b.length then (3, d)
  else if d.left = 0 then (4, d.die) else
  (0, { d.burn with files := if (getF n d.files).isSome then upd n (addB b) d.files else ins (n, ⟨b, 0⟩) d.files })

def Dk.sync (d : Dk) (n : Nm) : Int × Dk :=
  if d.dead then (4, d) else if (getF n d.files).isNone then (2, d) else if d.left = 0 then (4, d.die) else
  (0, { d.burn with files := upd n allSafe d.files })

def moved (n m : Nm) (f : Fl) (l : List (Nm × Fl)) : List (Nm × Fl) := if n = m then l else ins (m, f) (del m (del n l))

def Dk.rename (d : Dk) (n m : Nm) : Int × Dk :=
  if d.dead then (4, d) else if nameOk m = false then (1, d) else
  match getF n d.files with
  | none => (2, d)
  | some f => if d.left = 0 then (4, d.die) else (0, { d.burn with files := moved n m f d.files })

def Dk.remove (d : Dk) (n : Nm) : Int × Dk :=
  if d.dead then (4, d) else if (getF n d.files).isNone then (2, d) else if d.left = 0 then (4, d.die) else
  (0, { d.burn with files := del n d.files })

def Dk.read (d : Dk) (n : Nm) : List UInt8 × Int :=
  if d.dead then ([], 4) else match getF n d.files with | none => ([], 2) | some f => (f.bytes, 0)

def Dk.safe (d : Dk) (n : Nm) : Nat × Int :=
  if d.dead then (0, 4) else match getF n d.files with | none => (0, 2) | some f => (f.safe, 0)

def Dk.fuse (d : Dk) (n : Int) : Dk := if d.dead then d else { d with left := max n (-1) }

/-- What a crash leaves of a file, when k of the bytes that aren't safe may stay. -/
def kept (k : Int) (f : Fl) : Fl := let m := f.safe + min k.toNat (f.bytes.length - f.safe); ⟨f.bytes.take m, m⟩

def crashL : List Int → List (Nm × Fl) → List (Nm × Fl)
  | _, [] => []
  | [], x :: r => (x.1, kept 0 x.2) :: crashL [] r
  | k :: ks, x :: r => (x.1, kept k x.2) :: crashL ks r

def Dk.crash (d : Dk) (ks : List Int) : Dk := { d with files := crashL ks d.files, left := -1, dead := false, turn := Go.RowKit.wrap64 (d.turn + 1) }

/-- What is always so of a disk. -/
structure Dk.Ok (d : Dk) : Prop where
  quota : d.quota ≤ 1048576
  used : used d.files ≤ d.quota
  left0 : -1 ≤ d.left
  left1 : d.left ≤ 9223372036854775807
  safe : ∀ x ∈ d.files, x.2.safe ≤ x.2.bytes.length
  rise : rising d.files
  name : ∀ x ∈ d.files, x.1.length ≤ 20

end Go.Proofs.YtoabedkcieindaaGreatDoor
