/-
  DERIVED. GIVEN WITH THE SEED: THE CARDS: each row of YtoabedkcieindaaGreatDoorRows.lean that lists a variable, with what it lists TIED to the program's text (the seventh form; the later family's looks); each row that meets fmt, with fmt's text TOLD by the authors' own Lean function (tested against real Go, not proved from fmt's source: count such statements apart). THE CARD IS WHAT COUNTS. Prove the row's statement (the work); the ties are given (YtoabedkcieindaaGreatDoorTie.lean); close each card by the builder's one call (the guide's Derived/Test/ToyasCard.lean, 'card_holds'). Laid BY PROGRAM, IN A SANDBOX (cutbox-door.mjs). By AI agents, Wed Nov 11 2026. No macro, syntax, notation, axiom, sorry.
-/
import Derived.Test.YtoabedkcieindaaGreatDoorRows
import GoSem.ClaimSeven
namespace Go.Proofs.YtoabedkcieindaaGreatDoor
namespace Rows

/-- THE TIED CARD OF 'stratalaw.Disks'. -/
def disksCard : Claim7 := { stood := { row := disksRow, standIns := [], harness := (true, "291c280915d884d36e283f47c1d7fad616fe5620aab426cb54f2073112954b91"), looks := true }, kinds := [], alts := [], goes := true, laidByText := true, laidKinds := [.data, .data, .data, .sentinel, .sentinel], laidTests := true, laidLooks := .later }
def DisksCardSaid : Prop := Claim7.holds Tryz.pinned (.plain (OpenSpec.ofChange disksSpec)) disksCard

/-- THE TIED CARD OF 'stratalaw.Maps'. -/
def mapsCard : Claim7 := { stood := { row := mapsRow, standIns := [], harness := (true, "291c280915d884d36e283f47c1d7fad616fe5620aab426cb54f2073112954b91"), looks := true }, kinds := [], alts := [], goes := true, laidByText := true, laidKinds := [.data, .data, .data, .sentinel, .sentinel], laidTests := true, laidLooks := .later }
def MapsCardSaid : Prop := Claim7.holds Tryz.pinned (.plain (OpenSpec.ofChange mapsSpec)) mapsCard

/-- THE TIED CARD OF 'stratakeep.Durable'. -/
def durableCard : Claim7 := { stood := { row := durableRow, standIns := [], harness := (true, "291c280915d884d36e283f47c1d7fad616fe5620aab426cb54f2073112954b91"), looks := true }, kinds := [], alts := [], goes := true, laidByText := true, laidKinds := [.data, .data, .data, .sentinel, .sentinel], laidTests := true, laidLooks := .later }
def DurableCardSaid : Prop := Claim7.holds Tryz.pinned (.plain (OpenSpec.ofChange durableSpec)) durableCard

/-- THE TIED CARD OF 'stratakeep.Again'. -/
def againCard : Claim7 := { stood := { row := againRow, standIns := [], harness := (true, "291c280915d884d36e283f47c1d7fad616fe5620aab426cb54f2073112954b91"), looks := true }, kinds := [], alts := [], goes := true, laidByText := true, laidKinds := [.data, .data, .data, .sentinel, .sentinel], laidTests := true, laidLooks := .later }
def AgainCardSaid : Prop := Claim7.holds Tryz.pinned (.plain (OpenSpec.ofChange againSpec)) againCard

/-- THE TIED CARD OF 'stratakeep.Moved'. -/
def movedCard : Claim7 := { stood := { row := movedRow, standIns := [], harness := (true, "291c280915d884d36e283f47c1d7fad616fe5620aab426cb54f2073112954b91"), looks := true }, kinds := [], alts := [], goes := true, laidByText := true, laidKinds := [.data, .data, .data, .sentinel, .sentinel], laidTests := true, laidLooks := .later }
def MovedCardSaid : Prop := Claim7.holds Tryz.pinned (.plain (OpenSpec.ofChange movedSpec)) movedCard

/-- THE TIED CARD OF 'stratakeep.Crowded'. -/
def crowdedCard : Claim7 := { stood := { row := crowdedRow, standIns := [], harness := (true, "291c280915d884d36e283f47c1d7fad616fe5620aab426cb54f2073112954b91"), looks := true }, kinds := [], alts := [], goes := true, laidByText := true, laidKinds := [.data, .data, .data, .sentinel, .sentinel], laidTests := true, laidLooks := .later }
def CrowdedCardSaid : Prop := Claim7.holds Tryz.pinned (.plain (OpenSpec.ofChange crowdedSpec)) crowdedCard

/-- THE TIED CARD OF 'stratakeep.Stray'. -/
def strayCard : Claim7 := { stood := { row := strayRow, standIns := [], harness := (true, "291c280915d884d36e283f47c1d7fad616fe5620aab426cb54f2073112954b91"), looks := true }, kinds := [], alts := [], goes := true, laidByText := true, laidKinds := [.data, .data, .data, .sentinel, .sentinel], laidTests := true, laidLooks := .later }
def StrayCardSaid : Prop := Claim7.holds Tryz.pinned (.plain (OpenSpec.ofChange straySpec)) strayCard

/-- THE TIED CARD OF 'stratalaw.Layers'. -/
def layersCard : Claim7 := { stood := { row := layersRow, standIns := [], harness := (true, "291c280915d884d36e283f47c1d7fad616fe5620aab426cb54f2073112954b91"), looks := true }, kinds := [], alts := [], goes := true, laidByText := true, laidKinds := [.data, .data, .data, .sentinel, .sentinel], laidTests := true, laidLooks := .later }
def LayersCardSaid : Prop := Claim7.holds Tryz.pinned (.plain (OpenSpec.ofChange layersSpec)) layersCard

/-- THE TIED CARD OF 'stratakeep.Held'. -/
def heldCard : Claim7 := { stood := { row := heldRow, standIns := [], harness := (true, "291c280915d884d36e283f47c1d7fad616fe5620aab426cb54f2073112954b91"), looks := true }, kinds := [], alts := [], goes := true, laidByText := true, laidKinds := [.data, .data, .data, .sentinel, .sentinel], laidTests := true, laidLooks := .later }
def HeldCardSaid : Prop := Claim7.holds Tryz.pinned (.plain (OpenSpec.ofChange heldSpec)) heldCard

/-- THE TIED CARD OF 'stratakeep.Shaped'. -/
def shapedCard : Claim7 := { stood := { row := shapedRow, standIns := [], harness := (true, "291c280915d884d36e283f47c1d7fad616fe5620aab426cb54f2073112954b91"), looks := true }, kinds := [], alts := [], goes := true, laidByText := true, laidKinds := [.data, .data, .data, .sentinel, .sentinel], laidTests := true, laidLooks := .later }
def ShapedCardSaid : Prop := Claim7.holds Tryz.pinned (.plain (OpenSpec.ofChange shapedSpec)) shapedCard

/-- THE TIED CARD OF 'stratakeep.Reshaped'. -/
def reshapedCard : Claim7 := { stood := { row := reshapedRow, standIns := [], harness := (true, "291c280915d884d36e283f47c1d7fad616fe5620aab426cb54f2073112954b91"), looks := true }, kinds := [], alts := [], goes := true, laidByText := true, laidKinds := [.data, .data, .data, .sentinel, .sentinel], laidTests := true, laidLooks := .later }
def ReshapedCardSaid : Prop := Claim7.holds Tryz.pinned (.plain (OpenSpec.ofChange reshapedSpec)) reshapedCard

/-- THE TIED CARD OF 'stratakeep.Alike'. -/
def alikeCard : Claim7 := { stood := { row := alikeRow, standIns := [], harness := (true, "291c280915d884d36e283f47c1d7fad616fe5620aab426cb54f2073112954b91"), looks := true }, kinds := [], alts := [], goes := true, laidByText := true, laidKinds := [.data, .data, .data, .sentinel, .sentinel], laidTests := true, laidLooks := .later }
def AlikeCardSaid : Prop := Claim7.holds Tryz.pinned (.plain (OpenSpec.ofChange alikeSpec)) alikeCard

/-- THE SECOND FORM's CARD OF 'stratalaw.Disks'. -/
def disksUptoCard : Claim7 := { stood := { row := disksUptoRow, standIns := [], harness := (true, "291c280915d884d36e283f47c1d7fad616fe5620aab426cb54f2073112954b91"), looks := true }, kinds := [], alts := [], goes := true, laidByText := true, laidKinds := [.data, .data, .data, .sentinel, .sentinel], laidTests := true, laidLooks := .later }
def DisksUptoCardSaid : Prop := Claim7.holds Tryz.pinned (.plain (OpenSpec.upto disksSpec)) disksUptoCard

/-- THE SECOND FORM's CARD OF 'stratalaw.Maps'. -/
def mapsUptoCard : Claim7 := { stood := { row := mapsUptoRow, standIns := [], harness := (true, "291c280915d884d36e283f47c1d7fad616fe5620aab426cb54f2073112954b91"), looks := true }, kinds := [], alts := [], goes := true, laidByText := true, laidKinds := [.data, .data, .data, .sentinel, .sentinel], laidTests := true, laidLooks := .later }
def MapsUptoCardSaid : Prop := Claim7.holds Tryz.pinned (.plain (OpenSpec.upto mapsSpec)) mapsUptoCard

/-- THE SECOND FORM's CARD OF 'stratakeep.Durable'. -/
def durableUptoCard : Claim7 := { stood := { row := durableUptoRow, standIns := [], harness := (true, "291c280915d884d36e283f47c1d7fad616fe5620aab426cb54f2073112954b91"), looks := true }, kinds := [], alts := [], goes := true, laidByText := true, laidKinds := [.data, .data, .data, .sentinel, .sentinel], laidTests := true, laidLooks := .later }
def DurableUptoCardSaid : Prop := Claim7.holds Tryz.pinned (.plain (OpenSpec.upto durableSpec)) durableUptoCard

/-- THE SECOND FORM's CARD OF 'stratakeep.Again'. -/
def againUptoCard : Claim7 := { stood := { row := againUptoRow, standIns := [], harness := (true, "291c280915d884d36e283f47c1d7fad616fe5620aab426cb54f2073112954b91"), looks := true }, kinds := [], alts := [], goes := true, laidByText := true, laidKinds := [.data, .data, .data, .sentinel, .sentinel], laidTests := true, laidLooks := .later }
def AgainUptoCardSaid : Prop := Claim7.holds Tryz.pinned (.plain (OpenSpec.upto againSpec)) againUptoCard

/-- THE SECOND FORM's CARD OF 'stratakeep.Moved'. -/
def movedUptoCard : Claim7 := { stood := { row := movedUptoRow, standIns := [], harness := (true, "291c280915d884d36e283f47c1d7fad616fe5620aab426cb54f2073112954b91"), looks := true }, kinds := [], alts := [], goes := true, laidByText := true, laidKinds := [.data, .data, .data, .sentinel, .sentinel], laidTests := true, laidLooks := .later }
def MovedUptoCardSaid : Prop := Claim7.holds Tryz.pinned (.plain (OpenSpec.upto movedSpec)) movedUptoCard

/-- THE SECOND FORM's CARD OF 'stratakeep.Crowded'. -/
def crowdedUptoCard : Claim7 := { stood := { row := crowdedUptoRow, standIns := [], harness := (true, "291c280915d884d36e283f47c1d7fad616fe5620aab426cb54f2073112954b91"), looks := true }, kinds := [], alts := [], goes := true, laidByText := true, laidKinds := [.data, .data, .data, .sentinel, .sentinel], laidTests := true, laidLooks := .later }
def CrowdedUptoCardSaid : Prop := Claim7.holds Tryz.pinned (.plain (OpenSpec.upto crowdedSpec)) crowdedUptoCard

/-- THE SECOND FORM's CARD OF 'stratakeep.Stray'. -/
def strayUptoCard : Claim7 := { stood := { row := strayUptoRow, standIns := [], harness := (true, "291c280915d884d36e283f47c1d7fad616fe5620aab426cb54f2073112954b91"), looks := true }, kinds := [], alts := [], goes := true, laidByText := true, laidKinds := [.data, .data, .data, .sentinel, .sentinel], laidTests := true, laidLooks := .later }
def StrayUptoCardSaid : Prop := Claim7.holds Tryz.pinned (.plain (OpenSpec.upto straySpec)) strayUptoCard

/-- THE SECOND FORM's CARD OF 'stratalaw.Layers'. -/
def layersUptoCard : Claim7 := { stood := { row := layersUptoRow, standIns := [], harness := (true, "291c280915d884d36e283f47c1d7fad616fe5620aab426cb54f2073112954b91"), looks := true }, kinds := [], alts := [], goes := true, laidByText := true, laidKinds := [.data, .data, .data, .sentinel, .sentinel], laidTests := true, laidLooks := .later }
def LayersUptoCardSaid : Prop := Claim7.holds Tryz.pinned (.plain (OpenSpec.upto layersSpec)) layersUptoCard

/-- THE SECOND FORM's CARD OF 'stratakeep.Held'. -/
def heldUptoCard : Claim7 := { stood := { row := heldUptoRow, standIns := [], harness := (true, "291c280915d884d36e283f47c1d7fad616fe5620aab426cb54f2073112954b91"), looks := true }, kinds := [], alts := [], goes := true, laidByText := true, laidKinds := [.data, .data, .data, .sentinel, .sentinel], laidTests := true, laidLooks := .later }
def HeldUptoCardSaid : Prop := Claim7.holds Tryz.pinned (.plain (OpenSpec.upto heldSpec)) heldUptoCard

/-- THE SECOND FORM's CARD OF 'stratakeep.Shaped'. -/
def shapedUptoCard : Claim7 := { stood := { row := shapedUptoRow, standIns := [], harness := (true, "291c280915d884d36e283f47c1d7fad616fe5620aab426cb54f2073112954b91"), looks := true }, kinds := [], alts := [], goes := true, laidByText := true, laidKinds := [.data, .data, .data, .sentinel, .sentinel], laidTests := true, laidLooks := .later }
def ShapedUptoCardSaid : Prop := Claim7.holds Tryz.pinned (.plain (OpenSpec.upto shapedSpec)) shapedUptoCard

/-- THE SECOND FORM's CARD OF 'stratakeep.Reshaped'. -/
def reshapedUptoCard : Claim7 := { stood := { row := reshapedUptoRow, standIns := [], harness := (true, "291c280915d884d36e283f47c1d7fad616fe5620aab426cb54f2073112954b91"), looks := true }, kinds := [], alts := [], goes := true, laidByText := true, laidKinds := [.data, .data, .data, .sentinel, .sentinel], laidTests := true, laidLooks := .later }
def ReshapedUptoCardSaid : Prop := Claim7.holds Tryz.pinned (.plain (OpenSpec.upto reshapedSpec)) reshapedUptoCard

/-- THE SECOND FORM's CARD OF 'stratakeep.Alike'. -/
def alikeUptoCard : Claim7 := { stood := { row := alikeUptoRow, standIns := [], harness := (true, "291c280915d884d36e283f47c1d7fad616fe5620aab426cb54f2073112954b91"), looks := true }, kinds := [], alts := [], goes := true, laidByText := true, laidKinds := [.data, .data, .data, .sentinel, .sentinel], laidTests := true, laidLooks := .later }
def AlikeUptoCardSaid : Prop := Claim7.holds Tryz.pinned (.plain (OpenSpec.upto alikeSpec)) alikeUptoCard
end Rows
end Go.Proofs.YtoabedkcieindaaGreatDoor
