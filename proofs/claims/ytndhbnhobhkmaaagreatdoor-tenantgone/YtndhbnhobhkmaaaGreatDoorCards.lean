/-
  DERIVED. GIVEN WITH THE SEED: THE CARDS: each row of YtndhbnhobhkmaaaGreatDoorRows.lean that lists a variable, with what it lists TIED to the program's text (the seventh form; the later family's looks); each row that meets fmt, with fmt's text TOLD by the authors' own Lean function (tested against real Go, not proved from fmt's source: count such statements apart). THE CARD IS WHAT COUNTS. Prove the row's statement (the work); the ties are given (YtndhbnhobhkmaaaGreatDoorTie.lean); close each card by the builder's one call (the guide's Derived/Test/ToyasCard.lean, 'card_holds'). Laid BY PROGRAM, IN A SANDBOX (cutbox-door.mjs). By AI agents, Wed Nov 11 2026. No macro, syntax, notation, axiom, sorry.
-/
import Derived.Test.YtndhbnhobhkmaaaGreatDoorRows
import GoSem.ClaimSeven
namespace Go.Proofs.YtndhbnhobhkmaaaGreatDoor
namespace Rows

/-- THE TIED CARD OF 'garthlaw18.TenantQuota'. -/
def tenantQuotaCard : Claim7 := { stood := { row := tenantQuotaRow, standIns := [], harness := (true, "6d4589ddeac2d4a7417d7568e94f5fc05ffe55a561edb285bd8b48c1ee6fea16"), looks := false }, kinds := [], alts := [], laidByText := true, laidKinds := [.data, .data], laidTests := true, laidLooks := .later }
def TenantQuotaCardSaid : Prop := Claim7.holds Tryz.pinned (.plain (OpenSpec.ofChange tenantQuotaSpec)) tenantQuotaCard

/-- THE TIED CARD OF 'garthlaw18.TenantBytes'. -/
def tenantBytesCard : Claim7 := { stood := { row := tenantBytesRow, standIns := [], harness := (true, "6d4589ddeac2d4a7417d7568e94f5fc05ffe55a561edb285bd8b48c1ee6fea16"), looks := false }, kinds := [], alts := [], laidByText := true, laidKinds := [.data, .data], laidTests := true, laidLooks := .later }
def TenantBytesCardSaid : Prop := Claim7.holds Tryz.pinned (.plain (OpenSpec.ofChange tenantBytesSpec)) tenantBytesCard

/-- THE TIED CARD OF 'garthlaw18.TenantGone'. -/
def tenantGoneCard : Claim7 := { stood := { row := tenantGoneRow, standIns := [], harness := (true, "6d4589ddeac2d4a7417d7568e94f5fc05ffe55a561edb285bd8b48c1ee6fea16"), looks := false }, kinds := [], alts := [], laidByText := true, laidKinds := [.data, .data], laidTests := true, laidLooks := .later }
def TenantGoneCardSaid : Prop := Claim7.holds Tryz.pinned (.plain (OpenSpec.ofChange tenantGoneSpec)) tenantGoneCard

/-- THE TIED CARD OF 'garthlaw18.TenantPlace'. -/
def tenantPlaceCard : Claim7 := { stood := { row := tenantPlaceRow, standIns := [], harness := (true, "6d4589ddeac2d4a7417d7568e94f5fc05ffe55a561edb285bd8b48c1ee6fea16"), looks := false }, kinds := [], alts := [], laidByText := true, laidKinds := [.data, .data], laidTests := true, laidLooks := .later }
def TenantPlaceCardSaid : Prop := Claim7.holds Tryz.pinned (.plain (OpenSpec.ofChange tenantPlaceSpec)) tenantPlaceCard

/-- THE SECOND FORM's CARD OF 'garthlaw18.TenantQuota'. -/
def tenantQuotaUptoCard : Claim7 := { stood := { row := tenantQuotaUptoRow, standIns := [], harness := (true, "6d4589ddeac2d4a7417d7568e94f5fc05ffe55a561edb285bd8b48c1ee6fea16"), looks := false }, kinds := [], alts := [], laidByText := true, laidKinds := [.data, .data], laidTests := true, laidLooks := .later }
def TenantQuotaUptoCardSaid : Prop := Claim7.holds Tryz.pinned (.plain (OpenSpec.upto tenantQuotaSpec)) tenantQuotaUptoCard

/-- THE SECOND FORM's CARD OF 'garthlaw18.TenantBytes'. -/
def tenantBytesUptoCard : Claim7 := { stood := { row := tenantBytesUptoRow, standIns := [], harness := (true, "6d4589ddeac2d4a7417d7568e94f5fc05ffe55a561edb285bd8b48c1ee6fea16"), looks := false }, kinds := [], alts := [], laidByText := true, laidKinds := [.data, .data], laidTests := true, laidLooks := .later }
def TenantBytesUptoCardSaid : Prop := Claim7.holds Tryz.pinned (.plain (OpenSpec.upto tenantBytesSpec)) tenantBytesUptoCard

/-- THE SECOND FORM's CARD OF 'garthlaw18.TenantGone'. -/
def tenantGoneUptoCard : Claim7 := { stood := { row := tenantGoneUptoRow, standIns := [], harness := (true, "6d4589ddeac2d4a7417d7568e94f5fc05ffe55a561edb285bd8b48c1ee6fea16"), looks := false }, kinds := [], alts := [], laidByText := true, laidKinds := [.data, .data], laidTests := true, laidLooks := .later }
def TenantGoneUptoCardSaid : Prop := Claim7.holds Tryz.pinned (.plain (OpenSpec.upto tenantGoneSpec)) tenantGoneUptoCard

/-- THE SECOND FORM's CARD OF 'garthlaw18.TenantPlace'. -/
def tenantPlaceUptoCard : Claim7 := { stood := { row := tenantPlaceUptoRow, standIns := [], harness := (true, "6d4589ddeac2d4a7417d7568e94f5fc05ffe55a561edb285bd8b48c1ee6fea16"), looks := false }, kinds := [], alts := [], laidByText := true, laidKinds := [.data, .data], laidTests := true, laidLooks := .later }
def TenantPlaceUptoCardSaid : Prop := Claim7.holds Tryz.pinned (.plain (OpenSpec.upto tenantPlaceSpec)) tenantPlaceUptoCard
end Rows
end Go.Proofs.YtndhbnhobhkmaaaGreatDoor
