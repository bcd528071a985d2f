/-
  DERIVED. GIVEN WITH THE SEED: THE CARDS: each row of YtcfeeeloceeicaaDoorRows.lean that lists a variable, with what it lists TIED to the program's text (the seventh form; the later family's looks); each row that meets fmt, with fmt's text TOLD by the authors' own Lean function (tested against real Go, not proved from fmt's source: count such statements apart). THE CARD IS WHAT COUNTS. Prove the row's statement (the work); the ties are given (YtcfeeeloceeicaaDoorTie.lean); close each card by the builder's one call (the guide's Derived/Test/ToyasCard.lean, 'card_holds'). Laid BY PROGRAM, IN A SANDBOX (cutbox-door.mjs). By AI agents, Wed Nov 11 2026. No macro, syntax, notation, axiom, sorry.
-/
import Derived.Test.YtcfeeeloceeicaaDoorRows
import GoSem.ClaimSeven
namespace Go.Proofs.YtcfeeeloceeicaaDoor
namespace Rows

/-- THE TIED CARD OF 'garthlaw05.DemandOf'. -/
def demandOfCard : Claim7 := { stood := { row := demandOfRow, standIns := [], harness := (true, "128a29cf589f6ae2d8a44838ce348b892cae045111d9d88c9177123fd229913c"), looks := false }, kinds := [], alts := [], laidByText := true, laidKinds := [.data], laidTests := true, laidLooks := .later }
def DemandOfCardSaid : Prop := Claim7.holds Tryd.pinned (.plain (OpenSpec.ofChange demandOfSpec)) demandOfCard

/-- THE TIED CARD OF 'garthlaw05.DemandRises'. -/
def demandRisesCard : Claim7 := { stood := { row := demandRisesRow, standIns := [], harness := (true, "128a29cf589f6ae2d8a44838ce348b892cae045111d9d88c9177123fd229913c"), looks := false }, kinds := [], alts := [], laidByText := true, laidKinds := [.data], laidTests := true, laidLooks := .later }
def DemandRisesCardSaid : Prop := Claim7.holds Tryd.pinned (.plain (OpenSpec.ofChange demandRisesSpec)) demandRisesCard

/-- THE TIED CARD OF 'garthlaw05.DemandEnough'. -/
def demandEnoughCard : Claim7 := { stood := { row := demandEnoughRow, standIns := [], harness := (true, "128a29cf589f6ae2d8a44838ce348b892cae045111d9d88c9177123fd229913c"), looks := false }, kinds := [], alts := [], laidByText := true, laidKinds := [.data], laidTests := true, laidLooks := .later }
def DemandEnoughCardSaid : Prop := Claim7.holds Tryd.pinned (.plain (OpenSpec.ofChange demandEnoughSpec)) demandEnoughCard

/-- THE TIED CARD OF 'garthlaw05.DemandParts'. -/
def demandPartsCard : Claim7 := { stood := { row := demandPartsRow, standIns := [], harness := (true, "128a29cf589f6ae2d8a44838ce348b892cae045111d9d88c9177123fd229913c"), looks := false }, kinds := [], alts := [], laidByText := true, laidKinds := [.data], laidTests := true, laidLooks := .later }
def DemandPartsCardSaid : Prop := Claim7.holds Tryd.pinned (.plain (OpenSpec.ofChange demandPartsSpec)) demandPartsCard

/-- THE TIED CARD OF 'garthlaw05.DemandMet'. -/
def demandMetCard : Claim7 := { stood := { row := demandMetRow, standIns := [], harness := (true, "128a29cf589f6ae2d8a44838ce348b892cae045111d9d88c9177123fd229913c"), looks := false }, kinds := [], alts := [], laidByText := true, laidKinds := [.data], laidTests := true, laidLooks := .later }
def DemandMetCardSaid : Prop := Claim7.holds Tryd.pinned (.plain (OpenSpec.ofChange demandMetSpec)) demandMetCard

/-- THE SECOND FORM's CARD OF 'garthlaw05.DemandOf'. -/
def demandOfUptoCard : Claim7 := { stood := { row := demandOfUptoRow, standIns := [], harness := (true, "128a29cf589f6ae2d8a44838ce348b892cae045111d9d88c9177123fd229913c"), looks := false }, kinds := [], alts := [], laidByText := true, laidKinds := [.data], laidTests := true, laidLooks := .later }
def DemandOfUptoCardSaid : Prop := Claim7.holds Tryd.pinned (.plain (OpenSpec.upto demandOfSpec)) demandOfUptoCard

/-- THE SECOND FORM's CARD OF 'garthlaw05.DemandRises'. -/
def demandRisesUptoCard : Claim7 := { stood := { row := demandRisesUptoRow, standIns := [], harness := (true, "128a29cf589f6ae2d8a44838ce348b892cae045111d9d88c9177123fd229913c"), looks := false }, kinds := [], alts := [], laidByText := true, laidKinds := [.data], laidTests := true, laidLooks := .later }
def DemandRisesUptoCardSaid : Prop := Claim7.holds Tryd.pinned (.plain (OpenSpec.upto demandRisesSpec)) demandRisesUptoCard

/-- THE SECOND FORM's CARD OF 'garthlaw05.DemandEnough'. -/
def demandEnoughUptoCard : Claim7 := { stood := { row := demandEnoughUptoRow, standIns := [], harness := (true, "128a29cf589f6ae2d8a44838ce348b892cae045111d9d88c9177123fd229913c"), looks := false }, kinds := [], alts := [], laidByText := true, laidKinds := [.data], laidTests := true, laidLooks := .later }
def DemandEnoughUptoCardSaid : Prop := Claim7.holds Tryd.pinned (.plain (OpenSpec.upto demandEnoughSpec)) demandEnoughUptoCard

/-- THE SECOND FORM's CARD OF 'garthlaw05.DemandParts'. -/
def demandPartsUptoCard : Claim7 := { stood := { row := demandPartsUptoRow, standIns := [], harness := (true, "128a29cf589f6ae2d8a44838ce348b892cae045111d9d88c9177123fd229913c"), looks := false }, kinds := [], alts := [], laidByText := true, laidKinds := [.data], laidTests := true, laidLooks := .later }
def DemandPartsUptoCardSaid : Prop := Claim7.holds Tryd.pinned (.plain (OpenSpec.upto demandPartsSpec)) demandPartsUptoCard

/-- THE SECOND FORM's CARD OF 'garthlaw05.DemandMet'. -/
def demandMetUptoCard : Claim7 := { stood := { row := demandMetUptoRow, standIns := [], harness := (true, "128a29cf589f6ae2d8a44838ce348b892cae045111d9d88c9177123fd229913c"), looks := false }, kinds := [], alts := [], laidByText := true, laidKinds := [.data], laidTests := true, laidLooks := .later }
def DemandMetUptoCardSaid : Prop := Claim7.holds Tryd.pinned (.plain (OpenSpec.upto demandMetSpec)) demandMetUptoCard
end Rows
end Go.Proofs.YtcfeeeloceeicaaDoor
