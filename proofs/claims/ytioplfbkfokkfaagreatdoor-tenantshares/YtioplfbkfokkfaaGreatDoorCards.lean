/-
  DERIVED. GIVEN WITH THE SEED: THE CARDS: each row of YtioplfbkfokkfaaGreatDoorRows.lean that lists a variable, with what it lists TIED to the program's text (the seventh form; the later family's looks); each row that meets fmt, with fmt's text TOLD by the authors' own Lean function (tested against real Go, not proved from fmt's source: count such statements apart). THE CARD IS WHAT COUNTS. Prove the row's statement (the work); the ties are given (YtioplfbkfokkfaaGreatDoorTie.lean); close each card by the builder's one call (the guide's Derived/Test/ToyasCard.lean, 'card_holds'). Laid BY PROGRAM, IN A SANDBOX (cutbox-door.mjs). By AI agents, Wed Nov 11 2026. No macro, syntax, notation, axiom, sorry.
-/
import Derived.Test.YtioplfbkfokkfaaGreatDoorRows
import GoSem.ClaimSeven
namespace Go.Proofs.YtioplfbkfokkfaaGreatDoor
namespace Rows

/-- THE TIED CARD OF 'garthlaw18.TenantNil'. -/
def tenantNilCard : Claim7 := { stood := { row := tenantNilRow, standIns := [], harness := (true, "5d4198d282d865eb6159cf43d00f8deb17d490344cec9dc7a74ea9d68ba92458"), looks := false }, kinds := [], alts := [], laidByText := true, laidKinds := [.data, .data], laidTests := true, laidLooks := .later }
def TenantNilCardSaid : Prop := Claim7.holds Tryz.pinned (.plain (OpenSpec.ofChange tenantNilSpec)) tenantNilCard

/-- THE TIED CARD OF 'garthlaw18.TenantShares'. -/
def tenantSharesCard : Claim7 := { stood := { row := tenantSharesRow, standIns := [], harness := (true, "5d4198d282d865eb6159cf43d00f8deb17d490344cec9dc7a74ea9d68ba92458"), looks := false }, kinds := [], alts := [], laidByText := true, laidKinds := [.data, .data], laidTests := true, laidLooks := .later }
def TenantSharesCardSaid : Prop := Claim7.holds Tryz.pinned (.plain (OpenSpec.ofChange tenantSharesSpec)) tenantSharesCard

/-- THE SECOND FORM's CARD OF 'garthlaw18.TenantNil'. -/
def tenantNilUptoCard : Claim7 := { stood := { row := tenantNilUptoRow, standIns := [], harness := (true, "5d4198d282d865eb6159cf43d00f8deb17d490344cec9dc7a74ea9d68ba92458"), looks := false }, kinds := [], alts := [], laidByText := true, laidKinds := [.data, .data], laidTests := true, laidLooks := .later }
def TenantNilUptoCardSaid : Prop := Claim7.holds Tryz.pinned (.plain (OpenSpec.upto tenantNilSpec)) tenantNilUptoCard

/-- THE SECOND FORM's CARD OF 'garthlaw18.TenantShares'. -/
def tenantSharesUptoCard : Claim7 := { stood := { row := tenantSharesUptoRow, standIns := [], harness := (true, "5d4198d282d865eb6159cf43d00f8deb17d490344cec9dc7a74ea9d68ba92458"), looks := false }, kinds := [], alts := [], laidByText := true, laidKinds := [.data, .data], laidTests := true, laidLooks := .later }
def TenantSharesUptoCardSaid : Prop := Claim7.holds Tryz.pinned (.plain (OpenSpec.upto tenantSharesSpec)) tenantSharesUptoCard
end Rows
end Go.Proofs.YtioplfbkfokkfaaGreatDoor
