/-
  DERIVED. GIVEN WITH THE SEED: THE CARDS: each row of YtbohjmgacpaakaaDoorRows.lean that lists a variable, with what it lists TIED to the program's text (the seventh form; the later family's looks); each row that meets fmt, with fmt's text TOLD by the authors' own Lean function (tested against real Go, not proved from fmt's source: count such statements apart). THE CARD IS WHAT COUNTS. Prove the row's statement (the work); the ties are given (YtbohjmgacpaakaaDoorTie.lean); close each card by the builder's one call (the guide's Derived/Test/ToyasCard.lean, 'card_holds'). Laid BY PROGRAM, IN A SANDBOX (cutbox-door.mjs). By AI agents, Wed Nov 11 2026. No macro, syntax, notation, axiom, sorry.
-/
import Derived.Test.YtbohjmgacpaakaaDoorRows
import GoSem.ClaimSeven
namespace Go.Proofs.YtbohjmgacpaakaaDoor
namespace Rows

/-- THE TIED CARD OF 'garthlaw03.ClassKinds'. -/
def classKindsCard : Claim7 := { stood := { row := classKindsRow, standIns := [], harness := (true, "6109b3bac4aa98e0cf0a7c46029f80e7d3b79bd36d82e24846b3e0645158535d"), looks := false }, kinds := [], alts := [], laidByText := true, laidKinds := [.data], laidTests := true, laidLooks := .later }
def ClassKindsCardSaid : Prop := Claim7.holds Tryd.pinned (.plain (OpenSpec.ofChange classKindsSpec)) classKindsCard

/-- THE TIED CARD OF 'garthlaw03.ClassTables'. -/
def classTablesCard : Claim7 := { stood := { row := classTablesRow, standIns := [], harness := (true, "6109b3bac4aa98e0cf0a7c46029f80e7d3b79bd36d82e24846b3e0645158535d"), looks := false }, kinds := [], alts := [], laidByText := true, laidKinds := [.data], laidTests := true, laidLooks := .later }
def ClassTablesCardSaid : Prop := Claim7.holds Tryd.pinned (.plain (OpenSpec.ofChange classTablesSpec)) classTablesCard

/-- THE TIED CARD OF 'garthlaw03.ClassRises'. -/
def classRisesCard : Claim7 := { stood := { row := classRisesRow, standIns := [], harness := (true, "6109b3bac4aa98e0cf0a7c46029f80e7d3b79bd36d82e24846b3e0645158535d"), looks := false }, kinds := [], alts := [], laidByText := true, laidKinds := [.data], laidTests := true, laidLooks := .later }
def ClassRisesCardSaid : Prop := Claim7.holds Tryd.pinned (.plain (OpenSpec.ofChange classRisesSpec)) classRisesCard

/-- THE TIED CARD OF 'garthlaw03.ClassFits'. -/
def classFitsCard : Claim7 := { stood := { row := classFitsRow, standIns := [], harness := (true, "6109b3bac4aa98e0cf0a7c46029f80e7d3b79bd36d82e24846b3e0645158535d"), looks := false }, kinds := [], alts := [], laidByText := true, laidKinds := [.data], laidTests := true, laidLooks := .later }
def ClassFitsCardSaid : Prop := Claim7.holds Tryd.pinned (.plain (OpenSpec.ofChange classFitsSpec)) classFitsCard

/-- THE TIED CARD OF 'garthlaw03.ClassLeast'. -/
def classLeastCard : Claim7 := { stood := { row := classLeastRow, standIns := [], harness := (true, "6109b3bac4aa98e0cf0a7c46029f80e7d3b79bd36d82e24846b3e0645158535d"), looks := false }, kinds := [], alts := [], laidByText := true, laidKinds := [.data], laidTests := true, laidLooks := .later }
def ClassLeastCardSaid : Prop := Claim7.holds Tryd.pinned (.plain (OpenSpec.ofChange classLeastSpec)) classLeastCard

/-- THE TIED CARD OF 'garthlaw03.ClassRuns'. -/
def classRunsCard : Claim7 := { stood := { row := classRunsRow, standIns := [], harness := (true, "6109b3bac4aa98e0cf0a7c46029f80e7d3b79bd36d82e24846b3e0645158535d"), looks := false }, kinds := [], alts := [], laidByText := true, laidKinds := [.data], laidTests := true, laidLooks := .later }
def ClassRunsCardSaid : Prop := Claim7.holds Tryd.pinned (.plain (OpenSpec.ofChange classRunsSpec)) classRunsCard

/-- THE SECOND FORM's CARD OF 'garthlaw03.ClassKinds'. -/
def classKindsUptoCard : Claim7 := { stood := { row := classKindsUptoRow, standIns := [], harness := (true, "6109b3bac4aa98e0cf0a7c46029f80e7d3b79bd36d82e24846b3e0645158535d"), looks := false }, kinds := [], alts := [], laidByText := true, laidKinds := [.data], laidTests := true, laidLooks := .later }
def ClassKindsUptoCardSaid : Prop := Claim7.holds Tryd.pinned (.plain (OpenSpec.upto classKindsSpec)) classKindsUptoCard

/-- THE SECOND FORM's CARD OF 'garthlaw03.ClassTables'. -/
def classTablesUptoCard : Claim7 := { stood := { row := classTablesUptoRow, standIns := [], harness := (true, "6109b3bac4aa98e0cf0a7c46029f80e7d3b79bd36d82e24846b3e0645158535d"), looks := false }, kinds := [], alts := [], laidByText := true, laidKinds := [.data], laidTests := true, laidLooks := .later }
def ClassTablesUptoCardSaid : Prop := Claim7.holds Tryd.pinned (.plain (OpenSpec.upto classTablesSpec)) classTablesUptoCard

/-- THE SECOND FORM's CARD OF 'garthlaw03.ClassRises'. -/
def classRisesUptoCard : Claim7 := { stood := { row := classRisesUptoRow, standIns := [], harness := (true, "6109b3bac4aa98e0cf0a7c46029f80e7d3b79bd36d82e24846b3e0645158535d"), looks := false }, kinds := [], alts := [], laidByText := true, laidKinds := [.data], laidTests := true, laidLooks := .later }
def ClassRisesUptoCardSaid : Prop := Claim7.holds Tryd.pinned (.plain (OpenSpec.upto classRisesSpec)) classRisesUptoCard

/-- THE SECOND FORM's CARD OF 'garthlaw03.ClassFits'. -/
def classFitsUptoCard : Claim7 := { stood := { row := classFitsUptoRow, standIns := [], harness := (true, "6109b3bac4aa98e0cf0a7c46029f80e7d3b79bd36d82e24846b3e0645158535d"), looks := false }, kinds := [], alts := [], laidByText := true, laidKinds := [.data], laidTests := true, laidLooks := .later }
def ClassFitsUptoCardSaid : Prop := Claim7.holds Tryd.pinned (.plain (OpenSpec.upto classFitsSpec)) classFitsUptoCard

/-- THE SECOND FORM's CARD OF 'garthlaw03.ClassLeast'. -/
def classLeastUptoCard : Claim7 := { stood := { row := classLeastUptoRow, standIns := [], harness := (true, "6109b3bac4aa98e0cf0a7c46029f80e7d3b79bd36d82e24846b3e0645158535d"), looks := false }, kinds := [], alts := [], laidByText := true, laidKinds := [.data], laidTests := true, laidLooks := .later }
def ClassLeastUptoCardSaid : Prop := Claim7.holds Tryd.pinned (.plain (OpenSpec.upto classLeastSpec)) classLeastUptoCard

/-- THE SECOND FORM's CARD OF 'garthlaw03.ClassRuns'. -/
def classRunsUptoCard : Claim7 := { stood := { row := classRunsUptoRow, standIns := [], harness := (true, "6109b3bac4aa98e0cf0a7c46029f80e7d3b79bd36d82e24846b3e0645158535d"), looks := false }, kinds := [], alts := [], laidByText := true, laidKinds := [.data], laidTests := true, laidLooks := .later }
def ClassRunsUptoCardSaid : Prop := Claim7.holds Tryd.pinned (.plain (OpenSpec.upto classRunsSpec)) classRunsUptoCard
end Rows
end Go.Proofs.YtbohjmgacpaakaaDoor
