/-
  DERIVED. GIVEN WITH THE SEED: THE CARDS: each row of YtifoeakgefgddaaDoorRows.lean that lists a variable, with what it lists TIED to the program's text (the seventh form; the later family's looks); each row that meets fmt, with fmt's text TOLD by the authors' own Lean function (tested against real Go, not proved from fmt's source: count such statements apart). THE CARD IS WHAT COUNTS. Prove the row's statement (the work); the ties are given (YtifoeakgefgddaaDoorTie.lean); close each card by the builder's one call (the guide's Derived/Test/ToyasCard.lean, 'card_holds'). Laid BY PROGRAM, IN A SANDBOX (cutbox-door.mjs). By AI agents, Wed Nov 11 2026. No macro, syntax, notation, axiom, sorry.
-/
import Derived.Test.YtifoeakgefgddaaDoorRows
import GoSem.ClaimSeven
namespace Go.Proofs.YtifoeakgefgddaaDoor
namespace Rows

/-- THE TIED CARD OF 'garthlaw02.ShelfPlays'. -/
def shelfPlaysCard : Claim7 := { stood := { row := shelfPlaysRow, standIns := [], harness := (true, "9545f88bd537040e58ff12141ff7f3528920efe5743fa864969b3fba09334e53"), looks := false }, kinds := [], alts := [], laidByText := true, laidKinds := [.data], laidTests := true, laidLooks := .later }
def ShelfPlaysCardSaid : Prop := Claim7.holds Tryd.pinned (.plain (OpenSpec.ofChange shelfPlaysSpec)) shelfPlaysCard

/-- THE TIED CARD OF 'garthlaw02.ShelfOrder'. -/
def shelfOrderCard : Claim7 := { stood := { row := shelfOrderRow, standIns := [], harness := (true, "9545f88bd537040e58ff12141ff7f3528920efe5743fa864969b3fba09334e53"), looks := false }, kinds := [], alts := [], laidByText := true, laidKinds := [.data], laidTests := true, laidLooks := .later }
def ShelfOrderCardSaid : Prop := Claim7.holds Tryd.pinned (.plain (OpenSpec.ofChange shelfOrderSpec)) shelfOrderCard

/-- THE TIED CARD OF 'garthlaw02.ShelfBack'. -/
def shelfBackCard : Claim7 := { stood := { row := shelfBackRow, standIns := [], harness := (true, "9545f88bd537040e58ff12141ff7f3528920efe5743fa864969b3fba09334e53"), looks := false }, kinds := [], alts := [], laidByText := true, laidKinds := [.data], laidTests := true, laidLooks := .later }
def ShelfBackCardSaid : Prop := Claim7.holds Tryd.pinned (.plain (OpenSpec.ofChange shelfBackSpec)) shelfBackCard

/-- THE TIED CARD OF 'garthlaw02.ShelfNil'. -/
def shelfNilCard : Claim7 := { stood := { row := shelfNilRow, standIns := [], harness := (true, "9545f88bd537040e58ff12141ff7f3528920efe5743fa864969b3fba09334e53"), looks := false }, kinds := [], alts := [], laidByText := true, laidKinds := [.data], laidTests := true, laidLooks := .later }
def ShelfNilCardSaid : Prop := Claim7.holds Tryd.pinned (.plain (OpenSpec.ofChange shelfNilSpec)) shelfNilCard

/-- THE TIED CARD OF 'garthlaw02.ShelfLow'. -/
def shelfLowCard : Claim7 := { stood := { row := shelfLowRow, standIns := [], harness := (true, "9545f88bd537040e58ff12141ff7f3528920efe5743fa864969b3fba09334e53"), looks := false }, kinds := [], alts := [], laidByText := true, laidKinds := [.data], laidTests := true, laidLooks := .later }
def ShelfLowCardSaid : Prop := Claim7.holds Tryd.pinned (.plain (OpenSpec.ofChange shelfLowSpec)) shelfLowCard

/-- THE TIED CARD OF 'garthlaw02.ShelfCounts'. -/
def shelfCountsCard : Claim7 := { stood := { row := shelfCountsRow, standIns := [], harness := (true, "9545f88bd537040e58ff12141ff7f3528920efe5743fa864969b3fba09334e53"), looks := false }, kinds := [], alts := [], laidByText := true, laidKinds := [.data], laidTests := true, laidLooks := .later }
def ShelfCountsCardSaid : Prop := Claim7.holds Tryd.pinned (.plain (OpenSpec.ofChange shelfCountsSpec)) shelfCountsCard

/-- THE SECOND FORM's CARD OF 'garthlaw02.ShelfPlays'. -/
def shelfPlaysUptoCard : Claim7 := { stood := { row := shelfPlaysUptoRow, standIns := [], harness := (true, "9545f88bd537040e58ff12141ff7f3528920efe5743fa864969b3fba09334e53"), looks := false }, kinds := [], alts := [], laidByText := true, laidKinds := [.data], laidTests := true, laidLooks := .later }
def ShelfPlaysUptoCardSaid : Prop := Claim7.holds Tryd.pinned (.plain (OpenSpec.upto shelfPlaysSpec)) shelfPlaysUptoCard

/-- THE SECOND FORM's CARD OF 'garthlaw02.ShelfOrder'. -/
def shelfOrderUptoCard : Claim7 := { stood := { row := shelfOrderUptoRow, standIns := [], harness := (true, "9545f88bd537040e58ff12141ff7f3528920efe5743fa864969b3fba09334e53"), looks := false }, kinds := [], alts := [], laidByText := true, laidKinds := [.data], laidTests := true, laidLooks := .later }
def ShelfOrderUptoCardSaid : Prop := Claim7.holds Tryd.pinned (.plain (OpenSpec.upto shelfOrderSpec)) shelfOrderUptoCard

/-- THE SECOND FORM's CARD OF 'garthlaw02.ShelfBack'. -/
def shelfBackUptoCard : Claim7 := { stood := { row := shelfBackUptoRow, standIns := [], harness := (true, "9545f88bd537040e58ff12141ff7f3528920efe5743fa864969b3fba09334e53"), looks := false }, kinds := [], alts := [], laidByText := true, laidKinds := [.data], laidTests := true, laidLooks := .later }
def ShelfBackUptoCardSaid : Prop := Claim7.holds Tryd.pinned (.plain (OpenSpec.upto shelfBackSpec)) shelfBackUptoCard

/-- THE SECOND FORM's CARD OF 'garthlaw02.ShelfNil'. -/
def shelfNilUptoCard : Claim7 := { stood := { row := shelfNilUptoRow, standIns := [], harness := (true, "9545f88bd537040e58ff12141ff7f3528920efe5743fa864969b3fba09334e53"), looks := false }, kinds := [], alts := [], laidByText := true, laidKinds := [.data], laidTests := true, laidLooks := .later }
def ShelfNilUptoCardSaid : Prop := Claim7.holds Tryd.pinned (.plain (OpenSpec.upto shelfNilSpec)) shelfNilUptoCard

/-- THE SECOND FORM's CARD OF 'garthlaw02.ShelfLow'. -/
def shelfLowUptoCard : Claim7 := { stood := { row := shelfLowUptoRow, standIns := [], harness := (true, "9545f88bd537040e58ff12141ff7f3528920efe5743fa864969b3fba09334e53"), looks := false }, kinds := [], alts := [], laidByText := true, laidKinds := [.data], laidTests := true, laidLooks := .later }
def ShelfLowUptoCardSaid : Prop := Claim7.holds Tryd.pinned (.plain (OpenSpec.upto shelfLowSpec)) shelfLowUptoCard

/-- THE SECOND FORM's CARD OF 'garthlaw02.ShelfCounts'. -/
def shelfCountsUptoCard : Claim7 := { stood := { row := shelfCountsUptoRow, standIns := [], harness := (true, "9545f88bd537040e58ff12141ff7f3528920efe5743fa864969b3fba09334e53"), looks := false }, kinds := [], alts := [], laidByText := true, laidKinds := [.data], laidTests := true, laidLooks := .later }
def ShelfCountsUptoCardSaid : Prop := Claim7.holds Tryd.pinned (.plain (OpenSpec.upto shelfCountsSpec)) shelfCountsUptoCard
end Rows
end Go.Proofs.YtifoeakgefgddaaDoor
