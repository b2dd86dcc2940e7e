/-
  No cell of these rows narrows 'for every input' (looked for: loops, veiled, ifaces, maps, wideKeys, modest, calm, conditions, laid).
  DERIVED. THE GIVEN ROWS OF THIS SEAT. 5 by the template 'for every input the law returns true; each argument reads behind the call as it read before'; 0 by the template 'total and deterministic' (their statements: YtfghgmojnffgnaaTotals.lean).
  GIVEN WITH THE SEED: the statements are not yours to turn. If you find one false, say at which input.
  Laid BY PROGRAM, IN A SANDBOX (cutbox-rows.mjs): the forced cells as the released guide's own fill.sh prints them over the translation 291a9a725b5d3404… (all of the seat's roots in one cut). By AI agents, Wed Nov 11 2026. No macro, syntax, notation, axiom, sorry.
-/
import Derived.Test.YtfghgmojnffgnaaChecked
import GoSem.Claim
import GoSem.ClaimJoined
import GoSem.ClaimMapViews
import Derived.JoinedTies
import Derived.KernelRfl
namespace Go.Proofs.Ytfghgmojnffgnaa
/- THE CELL 'sum', in the pinned program and in every row, IS THE sha256 OF THE DUMP (.gsa) THAT YtfghgmojnffgnaaProg.lean LOADS. Nothing in Lean hashes anything: it is a label: what it is worth is what the hold of that sum in a sandbox is worth. -/
noncomputable def Try.pinned : Pinned := { name := "ytfghgmojnffgnaa", sum := "291a9a725b5d3404b17d1250fea48b06915e190c9e4cc5275f2564a7bf682dc6", checked := Try.checked }
namespace Rows
def none {H : Type} : Left H := { results := [], args := [] }

/-- 'stratakeep.Moved': WHATEVER THE INPUT: true; the input reads as it did. -/
def movedSpec : ChangeSpec := { name := "moved", fn := fun _ => fun
  | [d1, d2, d3] => { results := [.lit (.bool true)], args := [d1, d2, d3] }
  | _ => none }
def movedRow : OpenClaim := { program := "ytfghgmojnffgnaa", sum := "291a9a725b5d3404b17d1250fea48b06915e190c9e4cc5275f2564a7bf682dc6", func := "strata/stratakeep.Moved", spec := "moved", unfollowed := true, recurses := true, apart := false }
def MovedSaid : Prop := movedRow.holds Try.pinned (OpenSpec.ofChange movedSpec)

/-- ITS FALSE NEIGHBOUR: 'it returns false'. Refute it at one input. -/
def movedWrong : ChangeSpec := { name := "moved", fn := fun _ => fun
  | [d1, d2, d3] => { results := [.lit (.bool false)], args := [d1, d2, d3] }
  | _ => none }
def MovedWrongFalsely : Prop := movedRow.holds Try.pinned (OpenSpec.ofChange movedWrong)

/-- 'stratakeep.Crowded': WHATEVER THE INPUT: true; the input reads as it did. -/
def crowdedSpec : ChangeSpec := { name := "crowded", fn := fun _ => fun
  | [d1, d2, d3] => { results := [.lit (.bool true)], args := [d1, d2, d3] }
  | _ => none }
def crowdedRow : OpenClaim := { program := "ytfghgmojnffgnaa", sum := "291a9a725b5d3404b17d1250fea48b06915e190c9e4cc5275f2564a7bf682dc6", func := "strata/stratakeep.Crowded", spec := "crowded", unfollowed := true, recurses := true, apart := false }
def CrowdedSaid : Prop := crowdedRow.holds Try.pinned (OpenSpec.ofChange crowdedSpec)

/-- ITS FALSE NEIGHBOUR: 'it returns false'. Refute it at one input. -/
def crowdedWrong : ChangeSpec := { name := "crowded", fn := fun _ => fun
  | [d1, d2, d3] => { results := [.lit (.bool false)], args := [d1, d2, d3] }
  | _ => none }
def CrowdedWrongFalsely : Prop := crowdedRow.holds Try.pinned (OpenSpec.ofChange crowdedWrong)

/-- 'stratakeep.Stray': WHATEVER THE INPUT: true; the input reads as it did. -/
def straySpec : ChangeSpec := { name := "stray", fn := fun _ => fun
  | [d1, d2, d3] => { results := [.lit (.bool true)], args := [d1, d2, d3] }
  | _ => none }
def strayRow : OpenClaim := { program := "ytfghgmojnffgnaa", sum := "291a9a725b5d3404b17d1250fea48b06915e190c9e4cc5275f2564a7bf682dc6", func := "strata/stratakeep.Stray", spec := "stray", unfollowed := true, recurses := true, apart := false }
def StraySaid : Prop := strayRow.holds Try.pinned (OpenSpec.ofChange straySpec)

/-- ITS FALSE NEIGHBOUR: 'it returns false'. Refute it at one input. -/
def strayWrong : ChangeSpec := { name := "stray", fn := fun _ => fun
  | [d1, d2, d3] => { results := [.lit (.bool false)], args := [d1, d2, d3] }
  | _ => none }
def StrayWrongFalsely : Prop := strayRow.holds Try.pinned (OpenSpec.ofChange strayWrong)

/-- 'stratakeep.Reshaped': WHATEVER THE INPUT: true; the input reads as it did. -/
def reshapedSpec : ChangeSpec := { name := "reshaped", fn := fun _ => fun
  | [d1, d2, d3, d4] => { results := [.lit (.bool true)], args := [d1, d2, d3, d4] }
  | _ => none }
def reshapedRow : OpenClaim := { program := "ytfghgmojnffgnaa", sum := "291a9a725b5d3404b17d1250fea48b06915e190c9e4cc5275f2564a7bf682dc6", func := "strata/stratakeep.Reshaped", spec := "reshaped", unfollowed := true, recurses := true, apart := false }
def ReshapedSaid : Prop := reshapedRow.holds Try.pinned (OpenSpec.ofChange reshapedSpec)

/-- ITS FALSE NEIGHBOUR: 'it returns false'. Refute it at one input. -/
def reshapedWrong : ChangeSpec := { name := "reshaped", fn := fun _ => fun
  | [d1, d2, d3, d4] => { results := [.lit (.bool false)], args := [d1, d2, d3, d4] }
  | _ => none }
def ReshapedWrongFalsely : Prop := reshapedRow.holds Try.pinned (OpenSpec.ofChange reshapedWrong)

/-- 'stratakeep.Alike': WHATEVER THE INPUT: true; the input reads as it did. -/
def alikeSpec : ChangeSpec := { name := "alike", fn := fun _ => fun
  | [d1, d2, d3] => { results := [.lit (.bool true)], args := [d1, d2, d3] }
  | _ => none }
def alikeRow : OpenClaim := { program := "ytfghgmojnffgnaa", sum := "291a9a725b5d3404b17d1250fea48b06915e190c9e4cc5275f2564a7bf682dc6", func := "strata/stratakeep.Alike", spec := "alike", unfollowed := true, recurses := true, apart := false }
def AlikeSaid : Prop := alikeRow.holds Try.pinned (OpenSpec.ofChange alikeSpec)

/-- ITS FALSE NEIGHBOUR: 'it returns false'. Refute it at one input. -/
def alikeWrong : ChangeSpec := { name := "alike", fn := fun _ => fun
  | [d1, d2, d3] => { results := [.lit (.bool false)], args := [d1, d2, d3] }
  | _ => none }
def AlikeWrongFalsely : Prop := alikeRow.holds Try.pinned (OpenSpec.ofChange alikeWrong)

/- THE SECOND FORM. 'bulk': how many values and letters a reading holds, each counted each time it is reached (what is shared counts as often as it is met; a slice's spare places count too). A statement '..UptoSaid' is the law's where the arguments, and the package variables that the reading takes, are together of bulk at most 1048576: NARROWER than '..Said'. Prove '..Said' where nothing that the law and all that it calls make is longer than what came in: it says more and counts as full. Else prove '..UptoSaid'. A law counts once. -/
mutual
def uptoBulk {H : Type} : DataW H → Nat
  | .lit (.string bytes) => bytes.length + 1
  | .lit _ => 1
  | .nil => 1
  | .ptr d => uptoBulk d + 1
  | .slice elems spare => uptoBulkAll elems + uptoBulkAll spare + 1
  | .agg parts => uptoBulkAll parts + 1
  | .iface _ d => uptoBulk d + 1
  | .map entries => uptoBulkEntries entries + 1
  | .held _ => 1
def uptoBulkAll {H : Type} : List (DataW H) → Nat
  | [] => 0
  | d :: r => uptoBulk d + uptoBulkAll r
def uptoBulkEntries {H : Type} : List (Lit × DataW H) → Nat
  | [] => 0
  | x :: r => uptoBulkEntry x + uptoBulkEntries r
def uptoBulkEntry {H : Type} : Lit × DataW H → Nat
  | (.string bytes, d) => bytes.length + uptoBulk d + 1
  | (_, d) => uptoBulk d + 1
 end
def uptoSmall : (H : Type) → List (DataW H) → Bool := fun _ ds => decide (uptoBulkAll ds ≤ 1048576)
def OpenSpec.upto (s : _root_.Go.ChangeSpec) : _root_.Go.OpenSpec := { _root_.Go.OpenSpec.ofChange s with cond := some uptoSmall }

/-- 'stratakeep.Moved', WHERE WHAT IT READS IS OF BULK AT MOST 1048576: true; the input reads as it did. -/
def movedUptoRow : OpenClaim := { program := "ytfghgmojnffgnaa", sum := "291a9a725b5d3404b17d1250fea48b06915e190c9e4cc5275f2564a7bf682dc6", func := "strata/stratakeep.Moved", spec := "moved", unfollowed := true, recurses := true, apart := false, narrowed := true }
def MovedUptoSaid : Prop := movedUptoRow.holds Try.pinned (OpenSpec.upto movedSpec)

/-- 'stratakeep.Crowded', WHERE WHAT IT READS IS OF BULK AT MOST 1048576: true; the input reads as it did. -/
def crowdedUptoRow : OpenClaim := { program := "ytfghgmojnffgnaa", sum := "291a9a725b5d3404b17d1250fea48b06915e190c9e4cc5275f2564a7bf682dc6", func := "strata/stratakeep.Crowded", spec := "crowded", unfollowed := true, recurses := true, apart := false, narrowed := true }
def CrowdedUptoSaid : Prop := crowdedUptoRow.holds Try.pinned (OpenSpec.upto crowdedSpec)

/-- 'stratakeep.Stray', WHERE WHAT IT READS IS OF BULK AT MOST 1048576: true; the input reads as it did. -/
def strayUptoRow : OpenClaim := { program := "ytfghgmojnffgnaa", sum := "291a9a725b5d3404b17d1250fea48b06915e190c9e4cc5275f2564a7bf682dc6", func := "strata/stratakeep.Stray", spec := "stray", unfollowed := true, recurses := true, apart := false, narrowed := true }
def StrayUptoSaid : Prop := strayUptoRow.holds Try.pinned (OpenSpec.upto straySpec)

/-- 'stratakeep.Reshaped', WHERE WHAT IT READS IS OF BULK AT MOST 1048576: true; the input reads as it did. -/
def reshapedUptoRow : OpenClaim := { program := "ytfghgmojnffgnaa", sum := "291a9a725b5d3404b17d1250fea48b06915e190c9e4cc5275f2564a7bf682dc6", func := "strata/stratakeep.Reshaped", spec := "reshaped", unfollowed := true, recurses := true, apart := false, narrowed := true }
def ReshapedUptoSaid : Prop := reshapedUptoRow.holds Try.pinned (OpenSpec.upto reshapedSpec)

/-- 'stratakeep.Alike', WHERE WHAT IT READS IS OF BULK AT MOST 1048576: true; the input reads as it did. -/
def alikeUptoRow : OpenClaim := { program := "ytfghgmojnffgnaa", sum := "291a9a725b5d3404b17d1250fea48b06915e190c9e4cc5275f2564a7bf682dc6", func := "strata/stratakeep.Alike", spec := "alike", unfollowed := true, recurses := true, apart := false, narrowed := true }
def AlikeUptoSaid : Prop := alikeUptoRow.holds Try.pinned (OpenSpec.upto alikeSpec)

end Rows
end Go.Proofs.Ytfghgmojnffgnaa
