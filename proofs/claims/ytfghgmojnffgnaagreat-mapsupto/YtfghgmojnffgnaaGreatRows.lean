/-
  No cell of these rows narrows 'for every input' (looked for: loops, veiled, ifaces, maps, wideKeys, modest, calm, conditions, laid).
  DERIVED. THE GIVEN ROWS OF THIS SEAT. 5 by the template 'for every input the law returns true; each argument reads behind the call as it read before'; 0 by the template 'total and deterministic' (their statements: YtfghgmojnffgnaaGreatTotals.lean).
  GIVEN WITH THE SEED: the statements are not yours to turn. If you find one false, say at which input.
  Laid BY PROGRAM, IN A SANDBOX (cutbox-rows.mjs): the forced cells as the released guide's own fill.sh prints them over the translation f7367cda3f6bcdf7… (all of the seat's roots in one cut). By AI agents, Wed Nov 11 2026. No macro, syntax, notation, axiom, sorry.
-/
import Derived.Test.YtfghgmojnffgnaaGreatChecked
import GoSem.Claim
import GoSem.ClaimJoined
import GoSem.ClaimMapViews
import Derived.JoinedTies
import Derived.KernelRfl
namespace Go.Proofs.YtfghgmojnffgnaaGreat
/- THE CELL 'sum', in the pinned program and in every row, IS THE sha256 OF THE DUMP (.gsa) THAT YtfghgmojnffgnaaGreatProg.lean LOADS. Nothing in Lean hashes anything: it is a label: what it is worth is what the hold of that sum in a sandbox is worth. -/
noncomputable def Tryz.pinned : Pinned := { name := "ytfghgmojnffgnaagreat", sum := "f7367cda3f6bcdf7f8a63a31b0f616c5dd71ee7fbb96ca4094f69224cb31cf9c", checked := Tryz.checked }
namespace Rows
def none {H : Type} : Left H := { results := [], args := [] }

/-- 'stratalaw.Disks': WHATEVER THE INPUT: true; the input reads as it did. -/
def disksSpec : ChangeSpec := { name := "disks", fn := fun _ => fun
  | [d] => { results := [.lit (.bool true)], args := [d] }
  | _ => none }
def disksRow : OpenClaim := { program := "ytfghgmojnffgnaagreat", sum := "f7367cda3f6bcdf7f8a63a31b0f616c5dd71ee7fbb96ca4094f69224cb31cf9c", func := "strata/stratalaw.Disks", spec := "disks", unfollowed := true, recurses := true, apart := false }
def DisksSaid : Prop := disksRow.holds Tryz.pinned (OpenSpec.ofChange disksSpec)

/-- ITS FALSE NEIGHBOUR: 'it returns false'. Refute it at one input. -/
def disksWrong : ChangeSpec := { name := "disks", fn := fun _ => fun
  | [d] => { results := [.lit (.bool false)], args := [d] }
  | _ => none }
def DisksWrongFalsely : Prop := disksRow.holds Tryz.pinned (OpenSpec.ofChange disksWrong)

/-- 'stratalaw.Maps': WHATEVER THE INPUT: true; the input reads as it did. -/
def mapsSpec : ChangeSpec := { name := "maps", fn := fun _ => fun
  | [d] => { results := [.lit (.bool true)], args := [d] }
  | _ => none }
def mapsRow : OpenClaim := { program := "ytfghgmojnffgnaagreat", sum := "f7367cda3f6bcdf7f8a63a31b0f616c5dd71ee7fbb96ca4094f69224cb31cf9c", func := "strata/stratalaw.Maps", spec := "maps", unfollowed := true, recurses := true, apart := false }
def MapsSaid : Prop := mapsRow.holds Tryz.pinned (OpenSpec.ofChange mapsSpec)

/-- ITS FALSE NEIGHBOUR: 'it returns false'. Refute it at one input. -/
def mapsWrong : ChangeSpec := { name := "maps", fn := fun _ => fun
  | [d] => { results := [.lit (.bool false)], args := [d] }
  | _ => none }
def MapsWrongFalsely : Prop := mapsRow.holds Tryz.pinned (OpenSpec.ofChange mapsWrong)

/-- 'stratakeep.Durable': WHATEVER THE INPUT: true; the input reads as it did. -/
def durableSpec : ChangeSpec := { name := "durable", fn := fun _ => fun
  | [d1, d2, d3, d4, d5] => { results := [.lit (.bool true)], args := [d1, d2, d3, d4, d5] }
  | _ => none }
def durableRow : OpenClaim := { program := "ytfghgmojnffgnaagreat", sum := "f7367cda3f6bcdf7f8a63a31b0f616c5dd71ee7fbb96ca4094f69224cb31cf9c", func := "strata/stratakeep.Durable", spec := "durable", unfollowed := true, recurses := true, apart := false }
def DurableSaid : Prop := durableRow.holds Tryz.pinned (OpenSpec.ofChange durableSpec)

/-- ITS FALSE NEIGHBOUR: 'it returns false'. Refute it at one input. -/
def durableWrong : ChangeSpec := { name := "durable", fn := fun _ => fun
  | [d1, d2, d3, d4, d5] => { results := [.lit (.bool false)], args := [d1, d2, d3, d4, d5] }
  | _ => none }
def DurableWrongFalsely : Prop := durableRow.holds Tryz.pinned (OpenSpec.ofChange durableWrong)

/-- 'stratakeep.Again': WHATEVER THE INPUT: true; the input reads as it did. -/
def againSpec : ChangeSpec := { name := "again", fn := fun _ => fun
  | [d1, d2, d3, d4, d5] => { results := [.lit (.bool true)], args := [d1, d2, d3, d4, d5] }
  | _ => none }
def againRow : OpenClaim := { program := "ytfghgmojnffgnaagreat", sum := "f7367cda3f6bcdf7f8a63a31b0f616c5dd71ee7fbb96ca4094f69224cb31cf9c", func := "strata/stratakeep.Again", spec := "again", unfollowed := true, recurses := true, apart := false }
def AgainSaid : Prop := againRow.holds Tryz.pinned (OpenSpec.ofChange againSpec)

/-- ITS FALSE NEIGHBOUR: 'it returns false'. Refute it at one input. -/
def againWrong : ChangeSpec := { name := "again", fn := fun _ => fun
  | [d1, d2, d3, d4, d5] => { results := [.lit (.bool false)], args := [d1, d2, d3, d4, d5] }
  | _ => none }
def AgainWrongFalsely : Prop := againRow.holds Tryz.pinned (OpenSpec.ofChange againWrong)

/-- 'stratalaw.Layers': WHATEVER THE INPUT: true; the input reads as it did. -/
def layersSpec : ChangeSpec := { name := "layers", fn := fun _ => fun
  | [d] => { results := [.lit (.bool true)], args := [d] }
  | _ => none }
def layersRow : OpenClaim := { program := "ytfghgmojnffgnaagreat", sum := "f7367cda3f6bcdf7f8a63a31b0f616c5dd71ee7fbb96ca4094f69224cb31cf9c", func := "strata/stratalaw.Layers", spec := "layers", unfollowed := true, recurses := true, apart := false }
def LayersSaid : Prop := layersRow.holds Tryz.pinned (OpenSpec.ofChange layersSpec)

/-- ITS FALSE NEIGHBOUR: 'it returns false'. Refute it at one input. -/
def layersWrong : ChangeSpec := { name := "layers", fn := fun _ => fun
  | [d] => { results := [.lit (.bool false)], args := [d] }
  | _ => none }
def LayersWrongFalsely : Prop := layersRow.holds Tryz.pinned (OpenSpec.ofChange layersWrong)

/- THE SECOND FORM. 'bulk': how many values and letters a reading holds, each counted each time it is reached (what is shared counts as often as it is met; a slice's spare places count too). A statement '..UptoSaid' is the law's where the arguments, and the package variables that the reading takes, are together of bulk at most 1048576: NARROWER than '..Said'. Prove '..Said' where nothing that the law and all that it calls make is longer than what came in: it says more and counts as full. Else prove '..UptoSaid'. A law counts once. -/
mutual
def uptoBulk {H : Type} : DataW H → Nat
  | .lit (.string bytes) => bytes.length + 1
  | .lit _ => 1
  | .nil => 1
  | .ptr d => uptoBulk d + 1
  | .slice elems spare => uptoBulkAll elems + uptoBulkAll spare + 1
  | .agg parts => uptoBulkAll parts + 1
  | .iface _ d => uptoBulk d + 1
  | .map entries => uptoBulkEntries entries + 1
  | .held _ => 1
def uptoBulkAll {H : Type} : List (DataW H) → Nat
  | [] => 0
  | d :: r => uptoBulk d + uptoBulkAll r
def uptoBulkEntries {H : Type} : List (Lit × DataW H) → Nat
  | [] => 0
  | x :: r => uptoBulkEntry x + uptoBulkEntries r
def uptoBulkEntry {H : Type} : Lit × DataW H → Nat
  | (.string bytes, d) => bytes.length + uptoBulk d + 1
  | (_, d) => uptoBulk d + 1
 end
def uptoSmall : (H : Type) → List (DataW H) → Bool := fun _ ds => decide (uptoBulkAll ds ≤ 1048576)
def OpenSpec.upto (s : _root_.Go.ChangeSpec) : _root_.Go.OpenSpec := { _root_.Go.OpenSpec.ofChange s with cond := some uptoSmall }

/-- 'stratalaw.Disks', WHERE WHAT IT READS IS OF BULK AT MOST 1048576: true; the input reads as it did. -/
def disksUptoRow : OpenClaim := { program := "ytfghgmojnffgnaagreat", sum := "f7367cda3f6bcdf7f8a63a31b0f616c5dd71ee7fbb96ca4094f69224cb31cf9c", func := "strata/stratalaw.Disks", spec := "disks", unfollowed := true, recurses := true, apart := false, narrowed := true }
def DisksUptoSaid : Prop := disksUptoRow.holds Tryz.pinned (OpenSpec.upto disksSpec)

/-- 'stratalaw.Maps', WHERE WHAT IT READS IS OF BULK AT MOST 1048576: true; the input reads as it did. -/
def mapsUptoRow : OpenClaim := { program := "ytfghgmojnffgnaagreat", sum := "f7367cda3f6bcdf7f8a63a31b0f616c5dd71ee7fbb96ca4094f69224cb31cf9c", func := "strata/stratalaw.Maps", spec := "maps", unfollowed := true, recurses := true, apart := false, narrowed := true }
def MapsUptoSaid : Prop := mapsUptoRow.holds Tryz.pinned (OpenSpec.upto mapsSpec)

/-- 'stratakeep.Durable', WHERE WHAT IT READS IS OF BULK AT MOST 1048576: true; the input reads as it did. -/
def durableUptoRow : OpenClaim := { program := "ytfghgmojnffgnaagreat", sum := "f7367cda3f6bcdf7f8a63a31b0f616c5dd71ee7fbb96ca4094f69224cb31cf9c", func := "strata/stratakeep.Durable", spec := "durable", unfollowed := true, recurses := true, apart := false, narrowed := true }
def DurableUptoSaid : Prop := durableUptoRow.holds Tryz.pinned (OpenSpec.upto durableSpec)

/-- 'stratakeep.Again', WHERE WHAT IT READS IS OF BULK AT MOST 1048576: true; the input reads as it did. -/
def againUptoRow : OpenClaim := { program := "ytfghgmojnffgnaagreat", sum := "f7367cda3f6bcdf7f8a63a31b0f616c5dd71ee7fbb96ca4094f69224cb31cf9c", func := "strata/stratakeep.Again", spec := "again", unfollowed := true, recurses := true, apart := false, narrowed := true }
def AgainUptoSaid : Prop := againUptoRow.holds Tryz.pinned (OpenSpec.upto againSpec)

/-- 'stratalaw.Layers', WHERE WHAT IT READS IS OF BULK AT MOST 1048576: true; the input reads as it did. -/
def layersUptoRow : OpenClaim := { program := "ytfghgmojnffgnaagreat", sum := "f7367cda3f6bcdf7f8a63a31b0f616c5dd71ee7fbb96ca4094f69224cb31cf9c", func := "strata/stratalaw.Layers", spec := "layers", unfollowed := true, recurses := true, apart := false, narrowed := true }
def LayersUptoSaid : Prop := layersUptoRow.holds Tryz.pinned (OpenSpec.upto layersSpec)

end Rows
end Go.Proofs.YtfghgmojnffgnaaGreat
