/-
  DERIVED. GIVEN WITH THE SEED: THE CARDS: each row of YtcekpaicccmhkaaDoorRows.lean that lists a variable, with what it lists TIED to the program's text (the seventh form; the later family's looks); each row that meets fmt, with fmt's text TOLD by the authors' own Lean function (tested against real Go, not proved from fmt's source: count such statements apart). THE CARD IS WHAT COUNTS. Prove the row's statement (the work); the ties are given (YtcekpaicccmhkaaDoorTie.lean); close each card by the builder's one call (the guide's Derived/Test/ToyasCard.lean, 'card_holds'). Laid BY PROGRAM, IN A SANDBOX (cutbox-door.mjs). By AI agents, Wed Nov 11 2026. No macro, syntax, notation, axiom, sorry.
-/
import Derived.Test.YtcekpaicccmhkaaDoorRows
import GoSem.ClaimSeven
namespace Go.Proofs.YtcekpaicccmhkaaDoor
namespace Rows

/-- THE TIED CARD OF 'garthlaw07.ColourPlays'. -/
def colourPlaysCard : Claim7 := { stood := { row := colourPlaysRow, standIns := [], harness := (true, "0fa6a53f026c91492819f574e54d918a02fd9b61fbba77ab4049f284a07a4643"), looks := false }, kinds := [], alts := [], laidByText := true, laidKinds := [.data], laidTests := true, laidLooks := .later }
def ColourPlaysCardSaid : Prop := Claim7.holds Tryd.pinned (.plain (OpenSpec.ofChange colourPlaysSpec)) colourPlaysCard

/-- THE TIED CARD OF 'garthlaw07.ColourApart'. -/
def colourApartCard : Claim7 := { stood := { row := colourApartRow, standIns := [], harness := (true, "0fa6a53f026c91492819f574e54d918a02fd9b61fbba77ab4049f284a07a4643"), looks := false }, kinds := [], alts := [], laidByText := true, laidKinds := [.data], laidTests := true, laidLooks := .later }
def ColourApartCardSaid : Prop := Claim7.holds Tryd.pinned (.plain (OpenSpec.ofChange colourApartSpec)) colourApartCard

/-- THE TIED CARD OF 'garthlaw07.ColourAll'. -/
def colourAllCard : Claim7 := { stood := { row := colourAllRow, standIns := [], harness := (true, "0fa6a53f026c91492819f574e54d918a02fd9b61fbba77ab4049f284a07a4643"), looks := false }, kinds := [], alts := [], laidByText := true, laidKinds := [.data], laidTests := true, laidLooks := .later }
def ColourAllCardSaid : Prop := Claim7.holds Tryd.pinned (.plain (OpenSpec.ofChange colourAllSpec)) colourAllCard

/-- THE TIED CARD OF 'garthlaw07.ColourNil'. -/
def colourNilCard : Claim7 := { stood := { row := colourNilRow, standIns := [], harness := (true, "0fa6a53f026c91492819f574e54d918a02fd9b61fbba77ab4049f284a07a4643"), looks := false }, kinds := [], alts := [], laidByText := true, laidKinds := [.data], laidTests := true, laidLooks := .later }
def ColourNilCardSaid : Prop := Claim7.holds Tryd.pinned (.plain (OpenSpec.ofChange colourNilSpec)) colourNilCard

/-- THE TIED CARD OF 'garthlaw07.ColourLow'. -/
def colourLowCard : Claim7 := { stood := { row := colourLowRow, standIns := [], harness := (true, "0fa6a53f026c91492819f574e54d918a02fd9b61fbba77ab4049f284a07a4643"), looks := false }, kinds := [], alts := [], laidByText := true, laidKinds := [.data], laidTests := true, laidLooks := .later }
def ColourLowCardSaid : Prop := Claim7.holds Tryd.pinned (.plain (OpenSpec.ofChange colourLowSpec)) colourLowCard

/-- THE SECOND FORM's CARD OF 'garthlaw07.ColourPlays'. -/
def colourPlaysUptoCard : Claim7 := { stood := { row := colourPlaysUptoRow, standIns := [], harness := (true, "0fa6a53f026c91492819f574e54d918a02fd9b61fbba77ab4049f284a07a4643"), looks := false }, kinds := [], alts := [], laidByText := true, laidKinds := [.data], laidTests := true, laidLooks := .later }
def ColourPlaysUptoCardSaid : Prop := Claim7.holds Tryd.pinned (.plain (OpenSpec.upto colourPlaysSpec)) colourPlaysUptoCard

/-- THE SECOND FORM's CARD OF 'garthlaw07.ColourApart'. -/
def colourApartUptoCard : Claim7 := { stood := { row := colourApartUptoRow, standIns := [], harness := (true, "0fa6a53f026c91492819f574e54d918a02fd9b61fbba77ab4049f284a07a4643"), looks := false }, kinds := [], alts := [], laidByText := true, laidKinds := [.data], laidTests := true, laidLooks := .later }
def ColourApartUptoCardSaid : Prop := Claim7.holds Tryd.pinned (.plain (OpenSpec.upto colourApartSpec)) colourApartUptoCard

/-- THE SECOND FORM's CARD OF 'garthlaw07.ColourAll'. -/
def colourAllUptoCard : Claim7 := { stood := { row := colourAllUptoRow, standIns := [], harness := (true, "0fa6a53f026c91492819f574e54d918a02fd9b61fbba77ab4049f284a07a4643"), looks := false }, kinds := [], alts := [], laidByText := true, laidKinds := [.data], laidTests := true, laidLooks := .later }
def ColourAllUptoCardSaid : Prop := Claim7.holds Tryd.pinned (.plain (OpenSpec.upto colourAllSpec)) colourAllUptoCard

/-- THE SECOND FORM's CARD OF 'garthlaw07.ColourNil'. -/
def colourNilUptoCard : Claim7 := { stood := { row := colourNilUptoRow, standIns := [], harness := (true, "0fa6a53f026c91492819f574e54d918a02fd9b61fbba77ab4049f284a07a4643"), looks := false }, kinds := [], alts := [], laidByText := true, laidKinds := [.data], laidTests := true, laidLooks := .later }
def ColourNilUptoCardSaid : Prop := Claim7.holds Tryd.pinned (.plain (OpenSpec.upto colourNilSpec)) colourNilUptoCard

/-- THE SECOND FORM's CARD OF 'garthlaw07.ColourLow'. -/
def colourLowUptoCard : Claim7 := { stood := { row := colourLowUptoRow, standIns := [], harness := (true, "0fa6a53f026c91492819f574e54d918a02fd9b61fbba77ab4049f284a07a4643"), looks := false }, kinds := [], alts := [], laidByText := true, laidKinds := [.data], laidTests := true, laidLooks := .later }
def ColourLowUptoCardSaid : Prop := Claim7.holds Tryd.pinned (.plain (OpenSpec.upto colourLowSpec)) colourLowUptoCard
end Rows
end Go.Proofs.YtcekpaicccmhkaaDoor
