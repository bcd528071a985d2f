/-
  NARROWER THAN 'FOR EVERY INPUT', by the rows' own cells (each row's printed sentence says how): PlaceBlocks: laid · PlaceBack: laid · PlaceApart: laid · PlacePlaces: laid · PlaceRegions: laid.
  DERIVED. THE GIVEN ROWS OF THIS SEAT. 5 by the template 'for every input the law returns true; each argument reads behind the call as it read before'; 0 by the template 'total and deterministic' (their statements: YtkhppfbhhfajgaaDoorTotals.lean).
  GIVEN WITH THE SEED: the statements are not yours to turn. If you find one false, say at which input.
  Laid BY PROGRAM, IN A SANDBOX (cutbox-rows.mjs): the forced cells as the released guide's own fill.sh prints them over the translation cc297be3b2d85c22… (all of the seat's roots in one cut). By AI agents, Wed Nov 11 2026. No macro, syntax, notation, axiom, sorry.
-/
import Derived.Test.YtkhppfbhhfajgaaDoorChecked
import GoSem.Claim
import GoSem.ClaimJoined
import GoSem.ClaimMapViews
import Derived.JoinedTies
import Derived.KernelRfl
namespace Go.Proofs.YtkhppfbhhfajgaaDoor
/- THE CELL 'sum', in the pinned program and in every row, IS THE sha256 OF THE DUMP (.gsa) THAT YtkhppfbhhfajgaaDoorProg.lean LOADS. Nothing in Lean hashes anything: it is a label: what it is worth is what the hold of that sum in a sandbox is worth. -/
noncomputable def Tryd.pinned : Pinned := { name := "ytkhppfbhhfajgaadoor", sum := "cc297be3b2d85c2220f94047a699271396cdd669cb9207a5cb706b9ea289898a", checked := Tryd.checked }
namespace Rows
def none {H : Type} : Left H := { results := [], args := [] }

/- WHAT THE LISTED PACKAGE-LEVEL VARIABLES READ AS WHEN THE CALL BEGINS. Each datum BY PROGRAM (the guide's laid-datum.mjs) off the statement by which the dump's own 'gosem.cut.vars' lays the variable. In a bare row this is a premise. The card (YtkhppfbhhfajgaaDoorCards.lean) ties it to the program's text. -/
def laid_garth_class_units {H : Type} : DataW H := .agg [.lit (.int .i64 16), .lit (.int .i64 32), .lit (.int .i64 48), .lit (.int .i64 64), .lit (.int .i64 96), .lit (.int .i64 128), .lit (.int .i64 192), .lit (.int .i64 256)]

/-- 'garthlaw14.PlaceBlocks': WHATEVER THE INPUT: true; the input reads as it did. -/
def placeBlocksSpec : ChangeSpec := { name := "placeBlocks", fn := fun _ => fun
  | [d1, d2, d3, d4] => { results := [.lit (.bool true)], args := [d1, d2, d3, d4] }
  | _ => none }
def placeBlocksRow : OpenClaim := { program := "ytkhppfbhhfajgaadoor", sum := "cc297be3b2d85c2220f94047a699271396cdd669cb9207a5cb706b9ea289898a", func := "garth/garthlaw14.PlaceBlocks", spec := "placeBlocks", named := ["garth/class.units"], apart := false, laid := [("garth/class.units", laid_garth_class_units)] }
def PlaceBlocksSaid : Prop := placeBlocksRow.holds Tryd.pinned (OpenSpec.ofChange placeBlocksSpec)

/-- ITS FALSE NEIGHBOUR: 'it returns false'. Refute it at one input. -/
def placeBlocksWrong : ChangeSpec := { name := "placeBlocks", fn := fun _ => fun
  | [d1, d2, d3, d4] => { results := [.lit (.bool false)], args := [d1, d2, d3, d4] }
  | _ => none }
def PlaceBlocksWrongFalsely : Prop := placeBlocksRow.holds Tryd.pinned (OpenSpec.ofChange placeBlocksWrong)

/-- 'garthlaw14.PlaceBack': WHATEVER THE INPUT: true; the input reads as it did. -/
def placeBackSpec : ChangeSpec := { name := "placeBack", fn := fun _ => fun
  | [d1, d2, d3] => { results := [.lit (.bool true)], args := [d1, d2, d3] }
  | _ => none }
def placeBackRow : OpenClaim := { program := "ytkhppfbhhfajgaadoor", sum := "cc297be3b2d85c2220f94047a699271396cdd669cb9207a5cb706b9ea289898a", func := "garth/garthlaw14.PlaceBack", spec := "placeBack", named := ["garth/class.units"], apart := false, laid := [("garth/class.units", laid_garth_class_units)] }
def PlaceBackSaid : Prop := placeBackRow.holds Tryd.pinned (OpenSpec.ofChange placeBackSpec)

/-- ITS FALSE NEIGHBOUR: 'it returns false'. Refute it at one input. -/
def placeBackWrong : ChangeSpec := { name := "placeBack", fn := fun _ => fun
  | [d1, d2, d3] => { results := [.lit (.bool false)], args := [d1, d2, d3] }
  | _ => none }
def PlaceBackWrongFalsely : Prop := placeBackRow.holds Tryd.pinned (OpenSpec.ofChange placeBackWrong)

/-- 'garthlaw14.PlaceApart': WHATEVER THE INPUT: true; the input reads as it did. -/
def placeApartSpec : ChangeSpec := { name := "placeApart", fn := fun _ => fun
  | [d1, d2] => { results := [.lit (.bool true)], args := [d1, d2] }
  | _ => none }
def placeApartRow : OpenClaim := { program := "ytkhppfbhhfajgaadoor", sum := "cc297be3b2d85c2220f94047a699271396cdd669cb9207a5cb706b9ea289898a", func := "garth/garthlaw14.PlaceApart", spec := "placeApart", named := ["garth/class.units"], apart := false, laid := [("garth/class.units", laid_garth_class_units)] }
def PlaceApartSaid : Prop := placeApartRow.holds Tryd.pinned (OpenSpec.ofChange placeApartSpec)

/-- ITS FALSE NEIGHBOUR: 'it returns false'. Refute it at one input. -/
def placeApartWrong : ChangeSpec := { name := "placeApart", fn := fun _ => fun
  | [d1, d2] => { results := [.lit (.bool false)], args := [d1, d2] }
  | _ => none }
def PlaceApartWrongFalsely : Prop := placeApartRow.holds Tryd.pinned (OpenSpec.ofChange placeApartWrong)

/-- 'garthlaw14.PlacePlaces': WHATEVER THE INPUT: true; the input reads as it did. -/
def placePlacesSpec : ChangeSpec := { name := "placePlaces", fn := fun _ => fun
  | [d1, d2, d3, d4] => { results := [.lit (.bool true)], args := [d1, d2, d3, d4] }
  | _ => none }
def placePlacesRow : OpenClaim := { program := "ytkhppfbhhfajgaadoor", sum := "cc297be3b2d85c2220f94047a699271396cdd669cb9207a5cb706b9ea289898a", func := "garth/garthlaw14.PlacePlaces", spec := "placePlaces", named := ["garth/class.units"], apart := false, laid := [("garth/class.units", laid_garth_class_units)] }
def PlacePlacesSaid : Prop := placePlacesRow.holds Tryd.pinned (OpenSpec.ofChange placePlacesSpec)

/-- ITS FALSE NEIGHBOUR: 'it returns false'. Refute it at one input. -/
def placePlacesWrong : ChangeSpec := { name := "placePlaces", fn := fun _ => fun
  | [d1, d2, d3, d4] => { results := [.lit (.bool false)], args := [d1, d2, d3, d4] }
  | _ => none }
def PlacePlacesWrongFalsely : Prop := placePlacesRow.holds Tryd.pinned (OpenSpec.ofChange placePlacesWrong)

/-- 'garthlaw14.PlaceRegions': WHATEVER THE INPUT: true; the input reads as it did. -/
def placeRegionsSpec : ChangeSpec := { name := "placeRegions", fn := fun _ => fun
  | [d1, d2, d3, d4, d5] => { results := [.lit (.bool true)], args := [d1, d2, d3, d4, d5] }
  | _ => none }
def placeRegionsRow : OpenClaim := { program := "ytkhppfbhhfajgaadoor", sum := "cc297be3b2d85c2220f94047a699271396cdd669cb9207a5cb706b9ea289898a", func := "garth/garthlaw14.PlaceRegions", spec := "placeRegions", named := ["garth/class.units"], apart := false, laid := [("garth/class.units", laid_garth_class_units)] }
def PlaceRegionsSaid : Prop := placeRegionsRow.holds Tryd.pinned (OpenSpec.ofChange placeRegionsSpec)

/-- ITS FALSE NEIGHBOUR: 'it returns false'. Refute it at one input. -/
def placeRegionsWrong : ChangeSpec := { name := "placeRegions", fn := fun _ => fun
  | [d1, d2, d3, d4, d5] => { results := [.lit (.bool false)], args := [d1, d2, d3, d4, d5] }
  | _ => none }
def PlaceRegionsWrongFalsely : Prop := placeRegionsRow.holds Tryd.pinned (OpenSpec.ofChange placeRegionsWrong)

/- THE SECOND FORM. 'bulk': how many values and letters a reading holds, each counted each time it is reached (what is shared counts as often as it is met; a slice's spare places count too). A statement '..UptoSaid' is the law's where the arguments, and the package variables that the reading takes, are together of bulk at most 1048576: NARROWER than '..Said'. Prove '..Said' where nothing that the law and all that it calls make is longer than what came in: it says more and counts as full. Else prove '..UptoSaid'. A law counts once. -/
mutual
def uptoBulk {H : Type} : DataW H → Nat
  | .lit (.string bytes) => bytes.length + 1
  | .lit _ => 1
  | .nil => 1
  | .ptr d => uptoBulk d + 1
  | .slice elems spare => uptoBulkAll elems + uptoBulkAll spare + 1
  | .agg parts => uptoBulkAll parts + 1
  | .iface _ d => uptoBulk d + 1
  | .map entries => uptoBulkEntries entries + 1
  | .held _ => 1
def uptoBulkAll {H : Type} : List (DataW H) → Nat
  | [] => 0
  | d :: r => uptoBulk d + uptoBulkAll r
def uptoBulkEntries {H : Type} : List (Lit × DataW H) → Nat
  | [] => 0
  | x :: r => uptoBulkEntry x + uptoBulkEntries r
def uptoBulkEntry {H : Type} : Lit × DataW H → Nat
  | (.string bytes, d) => bytes.length + uptoBulk d + 1
  | (_, d) => uptoBulk d + 1
 end
def uptoSmall : (H : Type) → List (DataW H) → Bool := fun _ ds => decide (uptoBulkAll ds ≤ 1048576)
def OpenSpec.upto (s : _root_.Go.ChangeSpec) : _root_.Go.OpenSpec := { _root_.Go.OpenSpec.ofChange s with cond := some uptoSmall }

/-- 'garthlaw14.PlaceBlocks', WHERE WHAT IT READS IS OF BULK AT MOST 1048576: true; the input reads as it did. -/
def placeBlocksUptoRow : OpenClaim := { program := "ytkhppfbhhfajgaadoor", sum := "cc297be3b2d85c2220f94047a699271396cdd669cb9207a5cb706b9ea289898a", func := "garth/garthlaw14.PlaceBlocks", spec := "placeBlocks", named := ["garth/class.units"], apart := false, laid := [("garth/class.units", laid_garth_class_units)], narrowed := true }
def PlaceBlocksUptoSaid : Prop := placeBlocksUptoRow.holds Tryd.pinned (OpenSpec.upto placeBlocksSpec)

/-- 'garthlaw14.PlaceBack', WHERE WHAT IT READS IS OF BULK AT MOST 1048576: true; the input reads as it did. -/
def placeBackUptoRow : OpenClaim := { program := "ytkhppfbhhfajgaadoor", sum := "cc297be3b2d85c2220f94047a699271396cdd669cb9207a5cb706b9ea289898a", func := "garth/garthlaw14.PlaceBack", spec := "placeBack", named := ["garth/class.units"], apart := false, laid := [("garth/class.units", laid_garth_class_units)], narrowed := true }
def PlaceBackUptoSaid : Prop := placeBackUptoRow.holds Tryd.pinned (OpenSpec.upto placeBackSpec)

/-- 'garthlaw14.PlaceApart', WHERE WHAT IT READS IS OF BULK AT MOST 1048576: true; the input reads as it did. -/
def placeApartUptoRow : OpenClaim := { program := "ytkhppfbhhfajgaadoor", sum := "cc297be3b2d85c2220f94047a699271396cdd669cb9207a5cb706b9ea289898a", func := "garth/garthlaw14.PlaceApart", spec := "placeApart", named := ["garth/class.units"], apart := false, laid := [("garth/class.units", laid_garth_class_units)], narrowed := true }
def PlaceApartUptoSaid : Prop := placeApartUptoRow.holds Tryd.pinned (OpenSpec.upto placeApartSpec)

/-- 'garthlaw14.PlacePlaces', WHERE WHAT IT READS IS OF BULK AT MOST 1048576: true; the input reads as it did. -/
def placePlacesUptoRow : OpenClaim := { program := "ytkhppfbhhfajgaadoor", sum := "cc297be3b2d85c2220f94047a699271396cdd669cb9207a5cb706b9ea289898a", func := "garth/garthlaw14.PlacePlaces", spec := "placePlaces", named := ["garth/class.units"], apart := false, laid := [("garth/class.units", laid_garth_class_units)], narrowed := true }
def PlacePlacesUptoSaid : Prop := placePlacesUptoRow.holds Tryd.pinned (OpenSpec.upto placePlacesSpec)

/-- 'garthlaw14.PlaceRegions', WHERE WHAT IT READS IS OF BULK AT MOST 1048576: true; the input reads as it did. -/
def placeRegionsUptoRow : OpenClaim := { program := "ytkhppfbhhfajgaadoor", sum := "cc297be3b2d85c2220f94047a699271396cdd669cb9207a5cb706b9ea289898a", func := "garth/garthlaw14.PlaceRegions", spec := "placeRegions", named := ["garth/class.units"], apart := false, laid := [("garth/class.units", laid_garth_class_units)], narrowed := true }
def PlaceRegionsUptoSaid : Prop := placeRegionsUptoRow.holds Tryd.pinned (OpenSpec.upto placeRegionsSpec)

end Rows
end Go.Proofs.YtkhppfbhhfajgaaDoor
