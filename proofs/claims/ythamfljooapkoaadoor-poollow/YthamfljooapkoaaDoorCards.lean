/-
  DERIVED. GIVEN WITH THE SEED: THE CARDS: each row of YthamfljooapkoaaDoorRows.lean that lists a variable, with what it lists TIED to the program's text (the seventh form; the later family's looks); each row that meets fmt, with fmt's text TOLD by the authors' own Lean function (tested against real Go, not proved from fmt's source: count such statements apart). THE CARD IS WHAT COUNTS. Prove the row's statement (the work); the ties are given (YthamfljooapkoaaDoorTie.lean); close each card by the builder's one call (the guide's Derived/Test/ToyasCard.lean, 'card_holds'). Laid BY PROGRAM, IN A SANDBOX (cutbox-door.mjs). By AI agents, Wed Nov 11 2026. No macro, syntax, notation, axiom, sorry.
-/
import Derived.Test.YthamfljooapkoaaDoorRows
import GoSem.ClaimSeven
namespace Go.Proofs.YthamfljooapkoaaDoor
namespace Rows

/-- THE TIED CARD OF 'garthlaw08.PoolPlays'. -/
def poolPlaysCard : Claim7 := { stood := { row := poolPlaysRow, standIns := [], harness := (true, "bc1d9f0376ec4710f044bffb35f2d184ec16e7d55cc64f95006db661ec15938b"), looks := false }, kinds := [], alts := [], laidByText := true, laidKinds := [.data], laidTests := true, laidLooks := .later }
def PoolPlaysCardSaid : Prop := Claim7.holds Tryd.pinned (.plain (OpenSpec.ofChange poolPlaysSpec)) poolPlaysCard

/-- THE TIED CARD OF 'garthlaw08.PoolApart'. -/
def poolApartCard : Claim7 := { stood := { row := poolApartRow, standIns := [], harness := (true, "bc1d9f0376ec4710f044bffb35f2d184ec16e7d55cc64f95006db661ec15938b"), looks := false }, kinds := [], alts := [], laidByText := true, laidKinds := [.data], laidTests := true, laidLooks := .later }
def PoolApartCardSaid : Prop := Claim7.holds Tryd.pinned (.plain (OpenSpec.ofChange poolApartSpec)) poolApartCard

/-- THE TIED CARD OF 'garthlaw08.PoolNil'. -/
def poolNilCard : Claim7 := { stood := { row := poolNilRow, standIns := [], harness := (true, "bc1d9f0376ec4710f044bffb35f2d184ec16e7d55cc64f95006db661ec15938b"), looks := false }, kinds := [], alts := [], laidByText := true, laidKinds := [.data], laidTests := true, laidLooks := .later }
def PoolNilCardSaid : Prop := Claim7.holds Tryd.pinned (.plain (OpenSpec.ofChange poolNilSpec)) poolNilCard

/-- THE TIED CARD OF 'garthlaw08.PoolLow'. -/
def poolLowCard : Claim7 := { stood := { row := poolLowRow, standIns := [], harness := (true, "bc1d9f0376ec4710f044bffb35f2d184ec16e7d55cc64f95006db661ec15938b"), looks := false }, kinds := [], alts := [], laidByText := true, laidKinds := [.data], laidTests := true, laidLooks := .later }
def PoolLowCardSaid : Prop := Claim7.holds Tryd.pinned (.plain (OpenSpec.ofChange poolLowSpec)) poolLowCard

/-- THE SECOND FORM's CARD OF 'garthlaw08.PoolPlays'. -/
def poolPlaysUptoCard : Claim7 := { stood := { row := poolPlaysUptoRow, standIns := [], harness := (true, "bc1d9f0376ec4710f044bffb35f2d184ec16e7d55cc64f95006db661ec15938b"), looks := false }, kinds := [], alts := [], laidByText := true, laidKinds := [.data], laidTests := true, laidLooks := .later }
def PoolPlaysUptoCardSaid : Prop := Claim7.holds Tryd.pinned (.plain (OpenSpec.upto poolPlaysSpec)) poolPlaysUptoCard

/-- THE SECOND FORM's CARD OF 'garthlaw08.PoolApart'. -/
def poolApartUptoCard : Claim7 := { stood := { row := poolApartUptoRow, standIns := [], harness := (true, "bc1d9f0376ec4710f044bffb35f2d184ec16e7d55cc64f95006db661ec15938b"), looks := false }, kinds := [], alts := [], laidByText := true, laidKinds := [.data], laidTests := true, laidLooks := .later }
def PoolApartUptoCardSaid : Prop := Claim7.holds Tryd.pinned (.plain (OpenSpec.upto poolApartSpec)) poolApartUptoCard

/-- THE SECOND FORM's CARD OF 'garthlaw08.PoolNil'. -/
def poolNilUptoCard : Claim7 := { stood := { row := poolNilUptoRow, standIns := [], harness := (true, "bc1d9f0376ec4710f044bffb35f2d184ec16e7d55cc64f95006db661ec15938b"), looks := false }, kinds := [], alts := [], laidByText := true, laidKinds := [.data], laidTests := true, laidLooks := .later }
def PoolNilUptoCardSaid : Prop := Claim7.holds Tryd.pinned (.plain (OpenSpec.upto poolNilSpec)) poolNilUptoCard

/-- THE SECOND FORM's CARD OF 'garthlaw08.PoolLow'. -/
def poolLowUptoCard : Claim7 := { stood := { row := poolLowUptoRow, standIns := [], harness := (true, "bc1d9f0376ec4710f044bffb35f2d184ec16e7d55cc64f95006db661ec15938b"), looks := false }, kinds := [], alts := [], laidByText := true, laidKinds := [.data], laidTests := true, laidLooks := .later }
def PoolLowUptoCardSaid : Prop := Claim7.holds Tryd.pinned (.plain (OpenSpec.upto poolLowSpec)) poolLowUptoCard
end Rows
end Go.Proofs.YthamfljooapkoaaDoor
