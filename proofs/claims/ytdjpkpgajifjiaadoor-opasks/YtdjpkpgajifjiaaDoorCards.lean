/-
  DERIVED. GIVEN WITH THE SEED: THE CARDS: each row of YtdjpkpgajifjiaaDoorRows.lean that lists a variable, with what it lists TIED to the program's text (the seventh form; the later family's looks); each row that meets fmt, with fmt's text TOLD by the authors' own Lean function (tested against real Go, not proved from fmt's source: count such statements apart). THE CARD IS WHAT COUNTS. Prove the row's statement (the work); the ties are given (YtdjpkpgajifjiaaDoorTie.lean); close each card by the builder's one call (the guide's Derived/Test/ToyasCard.lean, 'card_holds'). Laid BY PROGRAM, IN A SANDBOX (cutbox-door.mjs). By AI agents, Wed Nov 11 2026. No macro, syntax, notation, axiom, sorry.
-/
import Derived.Test.YtdjpkpgajifjiaaDoorRows
import GoSem.ClaimSeven
namespace Go.Proofs.YtdjpkpgajifjiaaDoor
namespace Rows

/-- THE TIED CARD OF 'garthlaw19.OpChecks'. -/
def opChecksCard : Claim7 := { stood := { row := opChecksRow, standIns := [], harness := (true, "c4e21d19cf899c655d52041c6ad028349f483bbac23d45cbdaa469415deaaa29"), looks := false }, kinds := [], alts := [], laidByText := true, laidKinds := [.data, .data], laidTests := true, laidLooks := .later }
def OpChecksCardSaid : Prop := Claim7.holds Tryd.pinned (.plain (OpenSpec.ofChange opChecksSpec)) opChecksCard

/-- THE TIED CARD OF 'garthlaw19.OpWords'. -/
def opWordsCard : Claim7 := { stood := { row := opWordsRow, standIns := [], harness := (true, "c4e21d19cf899c655d52041c6ad028349f483bbac23d45cbdaa469415deaaa29"), looks := false }, kinds := [], alts := [], laidByText := true, laidKinds := [.data, .data], laidTests := true, laidLooks := .later }
def OpWordsCardSaid : Prop := Claim7.holds Tryd.pinned (.plain (OpenSpec.ofChange opWordsSpec)) opWordsCard

/-- THE TIED CARD OF 'garthlaw19.OpAsks'. -/
def opAsksCard : Claim7 := { stood := { row := opAsksRow, standIns := [], harness := (true, "c4e21d19cf899c655d52041c6ad028349f483bbac23d45cbdaa469415deaaa29"), looks := false }, kinds := [], alts := [], laidByText := true, laidKinds := [.data, .data], laidTests := true, laidLooks := .later }
def OpAsksCardSaid : Prop := Claim7.holds Tryd.pinned (.plain (OpenSpec.ofChange opAsksSpec)) opAsksCard

/-- THE SECOND FORM's CARD OF 'garthlaw19.OpChecks'. -/
def opChecksUptoCard : Claim7 := { stood := { row := opChecksUptoRow, standIns := [], harness := (true, "c4e21d19cf899c655d52041c6ad028349f483bbac23d45cbdaa469415deaaa29"), looks := false }, kinds := [], alts := [], laidByText := true, laidKinds := [.data, .data], laidTests := true, laidLooks := .later }
def OpChecksUptoCardSaid : Prop := Claim7.holds Tryd.pinned (.plain (OpenSpec.upto opChecksSpec)) opChecksUptoCard

/-- THE SECOND FORM's CARD OF 'garthlaw19.OpWords'. -/
def opWordsUptoCard : Claim7 := { stood := { row := opWordsUptoRow, standIns := [], harness := (true, "c4e21d19cf899c655d52041c6ad028349f483bbac23d45cbdaa469415deaaa29"), looks := false }, kinds := [], alts := [], laidByText := true, laidKinds := [.data, .data], laidTests := true, laidLooks := .later }
def OpWordsUptoCardSaid : Prop := Claim7.holds Tryd.pinned (.plain (OpenSpec.upto opWordsSpec)) opWordsUptoCard

/-- THE SECOND FORM's CARD OF 'garthlaw19.OpAsks'. -/
def opAsksUptoCard : Claim7 := { stood := { row := opAsksUptoRow, standIns := [], harness := (true, "c4e21d19cf899c655d52041c6ad028349f483bbac23d45cbdaa469415deaaa29"), looks := false }, kinds := [], alts := [], laidByText := true, laidKinds := [.data, .data], laidTests := true, laidLooks := .later }
def OpAsksUptoCardSaid : Prop := Claim7.holds Tryd.pinned (.plain (OpenSpec.upto opAsksSpec)) opAsksUptoCard
end Rows
end Go.Proofs.YtdjpkpgajifjiaaDoor
