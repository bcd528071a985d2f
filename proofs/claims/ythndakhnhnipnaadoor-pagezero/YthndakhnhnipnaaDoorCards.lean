/-
  DERIVED. GIVEN WITH THE SEED: THE CARDS: each row of YthndakhnhnipnaaDoorRows.lean that lists a variable, with what it lists TIED to the program's text (the seventh form; the later family's looks); each row that meets fmt, with fmt's text TOLD by the authors' own Lean function (tested against real Go, not proved from fmt's source: count such statements apart). THE CARD IS WHAT COUNTS. Prove the row's statement (the work); the ties are given (YthndakhnhnipnaaDoorTie.lean); close each card by the builder's one call (the guide's Derived/Test/ToyasCard.lean, 'card_holds'). Laid BY PROGRAM, IN A SANDBOX (cutbox-door.mjs). By AI agents, Wed Nov 11 2026. No macro, syntax, notation, axiom, sorry.
-/
import Derived.Test.YthndakhnhnipnaaDoorRows
import GoSem.ClaimSeven
namespace Go.Proofs.YthndakhnhnipnaaDoor
namespace Rows

/-- THE TIED CARD OF 'garthlaw12.PagePlays'. -/
def pagePlaysCard : Claim7 := { stood := { row := pagePlaysRow, standIns := [], harness := (true, "c2bc75596a7da0bc3991cc4e66415a8b67e3f21df3e8b66217575ca375302495"), looks := false }, kinds := [], alts := [], laidByText := true, laidKinds := [.data], laidTests := true, laidLooks := .later }
def PagePlaysCardSaid : Prop := Claim7.holds Tryd.pinned (.plain (OpenSpec.ofChange pagePlaysSpec)) pagePlaysCard

/-- THE TIED CARD OF 'garthlaw12.PageZero'. -/
def pageZeroCard : Claim7 := { stood := { row := pageZeroRow, standIns := [], harness := (true, "c2bc75596a7da0bc3991cc4e66415a8b67e3f21df3e8b66217575ca375302495"), looks := false }, kinds := [], alts := [], laidByText := true, laidKinds := [.data], laidTests := true, laidLooks := .later }
def PageZeroCardSaid : Prop := Claim7.holds Tryd.pinned (.plain (OpenSpec.ofChange pageZeroSpec)) pageZeroCard

/-- THE TIED CARD OF 'garthlaw12.PageMoves'. -/
def pageMovesCard : Claim7 := { stood := { row := pageMovesRow, standIns := [], harness := (true, "c2bc75596a7da0bc3991cc4e66415a8b67e3f21df3e8b66217575ca375302495"), looks := false }, kinds := [], alts := [], laidByText := true, laidKinds := [.data], laidTests := true, laidLooks := .later }
def PageMovesCardSaid : Prop := Claim7.holds Tryd.pinned (.plain (OpenSpec.ofChange pageMovesSpec)) pageMovesCard

/-- THE TIED CARD OF 'garthlaw12.PageNil'. -/
def pageNilCard : Claim7 := { stood := { row := pageNilRow, standIns := [], harness := (true, "c2bc75596a7da0bc3991cc4e66415a8b67e3f21df3e8b66217575ca375302495"), looks := false }, kinds := [], alts := [], laidByText := true, laidKinds := [.data], laidTests := true, laidLooks := .later }
def PageNilCardSaid : Prop := Claim7.holds Tryd.pinned (.plain (OpenSpec.ofChange pageNilSpec)) pageNilCard

/-- THE SECOND FORM's CARD OF 'garthlaw12.PagePlays'. -/
def pagePlaysUptoCard : Claim7 := { stood := { row := pagePlaysUptoRow, standIns := [], harness := (true, "c2bc75596a7da0bc3991cc4e66415a8b67e3f21df3e8b66217575ca375302495"), looks := false }, kinds := [], alts := [], laidByText := true, laidKinds := [.data], laidTests := true, laidLooks := .later }
def PagePlaysUptoCardSaid : Prop := Claim7.holds Tryd.pinned (.plain (OpenSpec.upto pagePlaysSpec)) pagePlaysUptoCard

/-- THE SECOND FORM's CARD OF 'garthlaw12.PageZero'. -/
def pageZeroUptoCard : Claim7 := { stood := { row := pageZeroUptoRow, standIns := [], harness := (true, "c2bc75596a7da0bc3991cc4e66415a8b67e3f21df3e8b66217575ca375302495"), looks := false }, kinds := [], alts := [], laidByText := true, laidKinds := [.data], laidTests := true, laidLooks := .later }
def PageZeroUptoCardSaid : Prop := Claim7.holds Tryd.pinned (.plain (OpenSpec.upto pageZeroSpec)) pageZeroUptoCard

/-- THE SECOND FORM's CARD OF 'garthlaw12.PageMoves'. -/
def pageMovesUptoCard : Claim7 := { stood := { row := pageMovesUptoRow, standIns := [], harness := (true, "c2bc75596a7da0bc3991cc4e66415a8b67e3f21df3e8b66217575ca375302495"), looks := false }, kinds := [], alts := [], laidByText := true, laidKinds := [.data], laidTests := true, laidLooks := .later }
def PageMovesUptoCardSaid : Prop := Claim7.holds Tryd.pinned (.plain (OpenSpec.upto pageMovesSpec)) pageMovesUptoCard

/-- THE SECOND FORM's CARD OF 'garthlaw12.PageNil'. -/
def pageNilUptoCard : Claim7 := { stood := { row := pageNilUptoRow, standIns := [], harness := (true, "c2bc75596a7da0bc3991cc4e66415a8b67e3f21df3e8b66217575ca375302495"), looks := false }, kinds := [], alts := [], laidByText := true, laidKinds := [.data], laidTests := true, laidLooks := .later }
def PageNilUptoCardSaid : Prop := Claim7.holds Tryd.pinned (.plain (OpenSpec.upto pageNilSpec)) pageNilUptoCard
end Rows
end Go.Proofs.YthndakhnhnipnaaDoor
