/-
  DERIVED. GIVEN WITH THE SEED: THE CARDS: each row of YtoabedkcieindabGreatDoorRows.lean that lists a variable, with what it lists TIED to the program's text (the seventh form; the later family's looks); each row that meets fmt, with fmt's text TOLD by the authors' own Lean function (tested against real Go, not proved from fmt's source: count such statements apart). THE CARD IS WHAT COUNTS. Prove the row's statement (the work); the ties are given (YtoabedkcieindabGreatDoorTie.lean); close each card by the builder's one call (the guide's Derived/Test/ToyasCard.lean, 'card_holds'). Laid BY PROGRAM, IN A SANDBOX (cutbox-door.mjs). By AI agents, Wed Nov 11 2026. No macro, syntax, notation, axiom, sorry.
-/
import Derived.Test.YtoabedkcieindabGreatDoorRows
import GoSem.ClaimSeven
namespace Go.Proofs.YtoabedkcieindabGreatDoor
namespace Rows

/-- THE TIED CARD OF 'stratakeep.Small'. -/
def smallCard : Claim7 := { stood := { row := smallRow, standIns := [], harness := (true, "bc2e8553f2e39cf481fe4e2b8c2b6ce87533388e04b7b41e48bd32de36e62d22"), looks := true }, kinds := [], alts := [], goes := true, laidByText := true, laidKinds := [.data, .data, .data, .sentinel, .sentinel], laidTests := true, laidLooks := .later }
def SmallCardSaid : Prop := Claim7.holds Tryz.pinned (.plain (OpenSpec.ofChange smallSpec)) smallCard

/-- THE TIED CARD OF 'stratakeep.Proposed'. -/
def proposedCard : Claim7 := { stood := { row := proposedRow, standIns := [], harness := (true, "bc2e8553f2e39cf481fe4e2b8c2b6ce87533388e04b7b41e48bd32de36e62d22"), looks := true }, kinds := [], alts := [], goes := true, laidByText := true, laidKinds := [.data, .data, .data, .sentinel, .sentinel], laidTests := true, laidLooks := .later }
def ProposedCardSaid : Prop := Claim7.holds Tryz.pinned (.plain (OpenSpec.ofChange proposedSpec)) proposedCard

/-- THE TIED CARD OF 'stratalaw.All'. -/
def allCard : Claim7 := { stood := { row := allRow, standIns := [], harness := (true, "bc2e8553f2e39cf481fe4e2b8c2b6ce87533388e04b7b41e48bd32de36e62d22"), looks := true }, kinds := [], alts := [], goes := true, laidByText := true, laidKinds := [.data, .data, .data, .sentinel, .sentinel], laidTests := true, laidLooks := .later }
def AllCardSaid : Prop := Claim7.holds Tryz.pinned (.plain (OpenSpec.ofChange allSpec)) allCard

/-- THE SECOND FORM's CARD OF 'stratakeep.Small'. -/
def smallUptoCard : Claim7 := { stood := { row := smallUptoRow, standIns := [], harness := (true, "bc2e8553f2e39cf481fe4e2b8c2b6ce87533388e04b7b41e48bd32de36e62d22"), looks := true }, kinds := [], alts := [], goes := true, laidByText := true, laidKinds := [.data, .data, .data, .sentinel, .sentinel], laidTests := true, laidLooks := .later }
def SmallUptoCardSaid : Prop := Claim7.holds Tryz.pinned (.plain (OpenSpec.upto smallSpec)) smallUptoCard

/-- THE SECOND FORM's CARD OF 'stratakeep.Proposed'. -/
def proposedUptoCard : Claim7 := { stood := { row := proposedUptoRow, standIns := [], harness := (true, "bc2e8553f2e39cf481fe4e2b8c2b6ce87533388e04b7b41e48bd32de36e62d22"), looks := true }, kinds := [], alts := [], goes := true, laidByText := true, laidKinds := [.data, .data, .data, .sentinel, .sentinel], laidTests := true, laidLooks := .later }
def ProposedUptoCardSaid : Prop := Claim7.holds Tryz.pinned (.plain (OpenSpec.upto proposedSpec)) proposedUptoCard

/-- THE SECOND FORM's CARD OF 'stratalaw.All'. -/
def allUptoCard : Claim7 := { stood := { row := allUptoRow, standIns := [], harness := (true, "bc2e8553f2e39cf481fe4e2b8c2b6ce87533388e04b7b41e48bd32de36e62d22"), looks := true }, kinds := [], alts := [], goes := true, laidByText := true, laidKinds := [.data, .data, .data, .sentinel, .sentinel], laidTests := true, laidLooks := .later }
def AllUptoCardSaid : Prop := Claim7.holds Tryz.pinned (.plain (OpenSpec.upto allSpec)) allUptoCard
end Rows
end Go.Proofs.YtoabedkcieindabGreatDoor
