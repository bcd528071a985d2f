/-
  DERIVED. GIVEN WITH THE SEED: THE CARDS: each row of YtkhppfbhhfajgaaDoorRows.lean that lists a variable, with what it lists TIED to the program's text (the seventh form; the later family's looks); each row that meets fmt, with fmt's text TOLD by the authors' own Lean function (tested against real Go, not proved from fmt's source: count such statements apart). THE CARD IS WHAT COUNTS. Prove the row's statement (the work); the ties are given (YtkhppfbhhfajgaaDoorTie.lean); close each card by the builder's one call (the guide's Derived/Test/ToyasCard.lean, 'card_holds'). Laid BY PROGRAM, IN A SANDBOX (cutbox-door.mjs). By AI agents, Wed Nov 11 2026. No macro, syntax, notation, axiom, sorry.
-/
import Derived.Test.YtkhppfbhhfajgaaDoorRows
import GoSem.ClaimSeven
namespace Go.Proofs.YtkhppfbhhfajgaaDoor
namespace Rows

/-- THE TIED CARD OF 'garthlaw14.PlaceBlocks'. -/
def placeBlocksCard : Claim7 := { stood := { row := placeBlocksRow, standIns := [], harness := (true, "da7e5aa5752cb4f4d8eb5d76d019ff90f2076460f0a1ea50ea37642e5427ede9"), looks := false }, kinds := [], alts := [], laidByText := true, laidKinds := [.data], laidTests := true, laidLooks := .later }
def PlaceBlocksCardSaid : Prop := Claim7.holds Tryd.pinned (.plain (OpenSpec.ofChange placeBlocksSpec)) placeBlocksCard

/-- THE TIED CARD OF 'garthlaw14.PlaceBack'. -/
def placeBackCard : Claim7 := { stood := { row := placeBackRow, standIns := [], harness := (true, "da7e5aa5752cb4f4d8eb5d76d019ff90f2076460f0a1ea50ea37642e5427ede9"), looks := false }, kinds := [], alts := [], laidByText := true, laidKinds := [.data], laidTests := true, laidLooks := .later }
def PlaceBackCardSaid : Prop := Claim7.holds Tryd.pinned (.plain (OpenSpec.ofChange placeBackSpec)) placeBackCard

/-- THE TIED CARD OF 'garthlaw14.PlaceApart'. -/
def placeApartCard : Claim7 := { stood := { row := placeApartRow, standIns := [], harness := (true, "da7e5aa5752cb4f4d8eb5d76d019ff90f2076460f0a1ea50ea37642e5427ede9"), looks := false }, kinds := [], alts := [], laidByText := true, laidKinds := [.data], laidTests := true, laidLooks := .later }
def PlaceApartCardSaid : Prop := Claim7.holds Tryd.pinned (.plain (OpenSpec.ofChange placeApartSpec)) placeApartCard

/-- THE TIED CARD OF 'garthlaw14.PlacePlaces'. -/
def placePlacesCard : Claim7 := { stood := { row := placePlacesRow, standIns := [], harness := (true, "da7e5aa5752cb4f4d8eb5d76d019ff90f2076460f0a1ea50ea37642e5427ede9"), looks := false }, kinds := [], alts := [], laidByText := true, laidKinds := [.data], laidTests := true, laidLooks := .later }
def PlacePlacesCardSaid : Prop := Claim7.holds Tryd.pinned (.plain (OpenSpec.ofChange placePlacesSpec)) placePlacesCard

/-- THE TIED CARD OF 'garthlaw14.PlaceRegions'. -/
def placeRegionsCard : Claim7 := { stood := { row := placeRegionsRow, standIns := [], harness := (true, "da7e5aa5752cb4f4d8eb5d76d019ff90f2076460f0a1ea50ea37642e5427ede9"), looks := false }, kinds := [], alts := [], laidByText := true, laidKinds := [.data], laidTests := true, laidLooks := .later }
def PlaceRegionsCardSaid : Prop := Claim7.holds Tryd.pinned (.plain (OpenSpec.ofChange placeRegionsSpec)) placeRegionsCard

/-- THE SECOND FORM's CARD OF 'garthlaw14.PlaceBlocks'. -/
def placeBlocksUptoCard : Claim7 := { stood := { row := placeBlocksUptoRow, standIns := [], harness := (true, "da7e5aa5752cb4f4d8eb5d76d019ff90f2076460f0a1ea50ea37642e5427ede9"), looks := false }, kinds := [], alts := [], laidByText := true, laidKinds := [.data], laidTests := true, laidLooks := .later }
def PlaceBlocksUptoCardSaid : Prop := Claim7.holds Tryd.pinned (.plain (OpenSpec.upto placeBlocksSpec)) placeBlocksUptoCard

/-- THE SECOND FORM's CARD OF 'garthlaw14.PlaceBack'. -/
def placeBackUptoCard : Claim7 := { stood := { row := placeBackUptoRow, standIns := [], harness := (true, "da7e5aa5752cb4f4d8eb5d76d019ff90f2076460f0a1ea50ea37642e5427ede9"), looks := false }, kinds := [], alts := [], laidByText := true, laidKinds := [.data], laidTests := true, laidLooks := .later }
def PlaceBackUptoCardSaid : Prop := Claim7.holds Tryd.pinned (.plain (OpenSpec.upto placeBackSpec)) placeBackUptoCard

/-- THE SECOND FORM's CARD OF 'garthlaw14.PlaceApart'. -/
def placeApartUptoCard : Claim7 := { stood := { row := placeApartUptoRow, standIns := [], harness := (true, "da7e5aa5752cb4f4d8eb5d76d019ff90f2076460f0a1ea50ea37642e5427ede9"), looks := false }, kinds := [], alts := [], laidByText := true, laidKinds := [.data], laidTests := true, laidLooks := .later }
def PlaceApartUptoCardSaid : Prop := Claim7.holds Tryd.pinned (.plain (OpenSpec.upto placeApartSpec)) placeApartUptoCard

/-- THE SECOND FORM's CARD OF 'garthlaw14.PlacePlaces'. -/
def placePlacesUptoCard : Claim7 := { stood := { row := placePlacesUptoRow, standIns := [], harness := (true, "da7e5aa5752cb4f4d8eb5d76d019ff90f2076460f0a1ea50ea37642e5427ede9"), looks := false }, kinds := [], alts := [], laidByText := true, laidKinds := [.data], laidTests := true, laidLooks := .later }
def PlacePlacesUptoCardSaid : Prop := Claim7.holds Tryd.pinned (.plain (OpenSpec.upto placePlacesSpec)) placePlacesUptoCard

/-- THE SECOND FORM's CARD OF 'garthlaw14.PlaceRegions'. -/
def placeRegionsUptoCard : Claim7 := { stood := { row := placeRegionsUptoRow, standIns := [], harness := (true, "da7e5aa5752cb4f4d8eb5d76d019ff90f2076460f0a1ea50ea37642e5427ede9"), looks := false }, kinds := [], alts := [], laidByText := true, laidKinds := [.data], laidTests := true, laidLooks := .later }
def PlaceRegionsUptoCardSaid : Prop := Claim7.holds Tryd.pinned (.plain (OpenSpec.upto placeRegionsSpec)) placeRegionsUptoCard
end Rows
end Go.Proofs.YtkhppfbhhfajgaaDoor
