/-
  NARROWER THAN 'FOR EVERY INPUT', by the rows' own cells (each row's printed sentence says how): PagePlays: laid · PageZero: laid · PageMoves: laid · PageNil: laid.
  DERIVED. THE GIVEN ROWS OF THIS SEAT. 4 by the template 'for every input the law returns true; each argument reads behind the call as it read before'; 0 by the template 'total and deterministic' (their statements: YthndakhnhnipnaaDoorTotals.lean).
  GIVEN WITH THE SEED: the statements are not yours to turn. If you find one false, say at which input.
  Laid BY PROGRAM, IN A SANDBOX (cutbox-rows.mjs): the forced cells as the released guide's own fill.sh prints them over the translation 4a475260f8b875c1… (all of the seat's roots in one cut). By AI agents, Wed Nov 11 2026. No macro, syntax, notation, axiom, sorry.
-/
import Derived.Test.YthndakhnhnipnaaDoorChecked
import GoSem.Claim
import GoSem.ClaimJoined
import GoSem.ClaimMapViews
import Derived.JoinedTies
import Derived.KernelRfl
namespace Go.Proofs.YthndakhnhnipnaaDoor
/- THE CELL 'sum', in the pinned program and in every row, IS THE sha256 OF THE DUMP (.gsa) THAT YthndakhnhnipnaaDoorProg.lean LOADS. Nothing in Lean hashes anything: it is a label: what it is worth is what the hold of that sum in a sandbox is worth. -/
noncomputable def Tryd.pinned : Pinned := { name := "ythndakhnhnipnaadoor", sum := "4a475260f8b875c14ea819b2402a52438e2f61cde10b18203d850263e8ff163c", checked := Tryd.checked }
namespace Rows
def none {H : Type} : Left H := { results := [], args := [] }

/- WHAT THE LISTED PACKAGE-LEVEL VARIABLES READ AS WHEN THE CALL BEGINS. Each datum BY PROGRAM (the guide's laid-datum.mjs) off the statement by which the dump's own 'gosem.cut.vars' lays the variable. In a bare row this is a premise. The card (YthndakhnhnipnaaDoorCards.lean) ties it to the program's text. -/
def laid_garth_class_units {H : Type} : DataW H := .agg [.lit (.int .i64 16), .lit (.int .i64 32), .lit (.int .i64 48), .lit (.int .i64 64), .lit (.int .i64 96), .lit (.int .i64 128), .lit (.int .i64 192), .lit (.int .i64 256)]

/-- 'garthlaw12.PagePlays': WHATEVER THE INPUT: true; the input reads as it did. -/
def pagePlaysSpec : ChangeSpec := { name := "pagePlays", fn := fun _ => fun
  | [d1, d2, d3, d4] => { results := [.lit (.bool true)], args := [d1, d2, d3, d4] }
  | _ => none }
def pagePlaysRow : OpenClaim := { program := "ythndakhnhnipnaadoor", sum := "4a475260f8b875c14ea819b2402a52438e2f61cde10b18203d850263e8ff163c", func := "garth/garthlaw12.PagePlays", spec := "pagePlays", named := ["garth/class.units"], apart := false, laid := [("garth/class.units", laid_garth_class_units)] }
def PagePlaysSaid : Prop := pagePlaysRow.holds Tryd.pinned (OpenSpec.ofChange pagePlaysSpec)

/-- ITS FALSE NEIGHBOUR: 'it returns false'. Refute it at one input. -/
def pagePlaysWrong : ChangeSpec := { name := "pagePlays", fn := fun _ => fun
  | [d1, d2, d3, d4] => { results := [.lit (.bool false)], args := [d1, d2, d3, d4] }
  | _ => none }
def PagePlaysWrongFalsely : Prop := pagePlaysRow.holds Tryd.pinned (OpenSpec.ofChange pagePlaysWrong)

/-- 'garthlaw12.PageZero': WHATEVER THE INPUT: true; the input reads as it did. -/
def pageZeroSpec : ChangeSpec := { name := "pageZero", fn := fun _ => fun
  | [d1, d2] => { results := [.lit (.bool true)], args := [d1, d2] }
  | _ => none }
def pageZeroRow : OpenClaim := { program := "ythndakhnhnipnaadoor", sum := "4a475260f8b875c14ea819b2402a52438e2f61cde10b18203d850263e8ff163c", func := "garth/garthlaw12.PageZero", spec := "pageZero", named := ["garth/class.units"], apart := false, laid := [("garth/class.units", laid_garth_class_units)] }
def PageZeroSaid : Prop := pageZeroRow.holds Tryd.pinned (OpenSpec.ofChange pageZeroSpec)

/-- ITS FALSE NEIGHBOUR: 'it returns false'. Refute it at one input. -/
def pageZeroWrong : ChangeSpec := { name := "pageZero", fn := fun _ => fun
  | [d1, d2] => { results := [.lit (.bool false)], args := [d1, d2] }
  | _ => none }
def PageZeroWrongFalsely : Prop := pageZeroRow.holds Tryd.pinned (OpenSpec.ofChange pageZeroWrong)

/-- 'garthlaw12.PageMoves': WHATEVER THE INPUT: true; the input reads as it did. -/
def pageMovesSpec : ChangeSpec := { name := "pageMoves", fn := fun _ => fun
  | [d1, d2, d3] => { results := [.lit (.bool true)], args := [d1, d2, d3] }
  | _ => none }
def pageMovesRow : OpenClaim := { program := "ythndakhnhnipnaadoor", sum := "4a475260f8b875c14ea819b2402a52438e2f61cde10b18203d850263e8ff163c", func := "garth/garthlaw12.PageMoves", spec := "pageMoves", unfollowed := true, recurses := true, named := ["garth/class.units"], apart := false, laid := [("garth/class.units", laid_garth_class_units)] }
def PageMovesSaid : Prop := pageMovesRow.holds Tryd.pinned (OpenSpec.ofChange pageMovesSpec)

/-- ITS FALSE NEIGHBOUR: 'it returns false'. Refute it at one input. -/
def pageMovesWrong : ChangeSpec := { name := "pageMoves", fn := fun _ => fun
  | [d1, d2, d3] => { results := [.lit (.bool false)], args := [d1, d2, d3] }
  | _ => none }
def PageMovesWrongFalsely : Prop := pageMovesRow.holds Tryd.pinned (OpenSpec.ofChange pageMovesWrong)

/-- 'garthlaw12.PageNil': WHATEVER THE INPUT: true; the input reads as it did. -/
def pageNilSpec : ChangeSpec := { name := "pageNil", fn := fun _ => fun
  | [d] => { results := [.lit (.bool true)], args := [d] }
  | _ => none }
def pageNilRow : OpenClaim := { program := "ythndakhnhnipnaadoor", sum := "4a475260f8b875c14ea819b2402a52438e2f61cde10b18203d850263e8ff163c", func := "garth/garthlaw12.PageNil", spec := "pageNil", named := ["garth/class.units"], apart := false, laid := [("garth/class.units", laid_garth_class_units)] }
def PageNilSaid : Prop := pageNilRow.holds Tryd.pinned (OpenSpec.ofChange pageNilSpec)

/-- ITS FALSE NEIGHBOUR: 'it returns false'. Refute it at one input. -/
def pageNilWrong : ChangeSpec := { name := "pageNil", fn := fun _ => fun
  | [d] => { results := [.lit (.bool false)], args := [d] }
  | _ => none }
def PageNilWrongFalsely : Prop := pageNilRow.holds Tryd.pinned (OpenSpec.ofChange pageNilWrong)

/- THE SECOND FORM. 'bulk': how many values and letters a reading holds, each counted each time it is reached (what is shared counts as often as it is met; a slice's spare places count too). A statement '..UptoSaid' is the law's where the arguments, and the package variables that the reading takes, are together of bulk at most 1048576: NARROWER than '..Said'. Prove '..Said' where nothing that the law and all that it calls make is longer than what came in: it says more and counts as full. Else prove '..UptoSaid'. A law counts once. -/
mutual
def uptoBulk {H : Type} : DataW H → Nat
  | .lit (.string bytes) => bytes.length + 1
  | .lit _ => 1
  | .nil => 1
  | .ptr d => uptoBulk d + 1
  | .slice elems spare => uptoBulkAll elems + uptoBulkAll spare + 1
  | .agg parts => uptoBulkAll parts + 1
  | .iface _ d => uptoBulk d + 1
  | .map entries => uptoBulkEntries entries + 1
  | .held _ => 1
def uptoBulkAll {H : Type} : List (DataW H) → Nat
  | [] => 0
  | d :: r => uptoBulk d + uptoBulkAll r
def uptoBulkEntries {H : Type} : List (Lit × DataW H) → Nat
  | [] => 0
  | x :: r => uptoBulkEntry x + uptoBulkEntries r
def uptoBulkEntry {H : Type} : Lit × DataW H → Nat
  | (.string bytes, d) => bytes.length + uptoBulk d + 1
  | (_, d) => uptoBulk d + 1
 end
def uptoSmall : (H : Type) → List (DataW H) → Bool := fun _ ds => decide (uptoBulkAll ds ≤ 1048576)
def OpenSpec.upto (s : _root_.Go.ChangeSpec) : _root_.Go.OpenSpec := { _root_.Go.OpenSpec.ofChange s with cond := some uptoSmall }

/-- 'garthlaw12.PagePlays', WHERE WHAT IT READS IS OF BULK AT MOST 1048576: true; the input reads as it did. -/
def pagePlaysUptoRow : OpenClaim := { program := "ythndakhnhnipnaadoor", sum := "4a475260f8b875c14ea819b2402a52438e2f61cde10b18203d850263e8ff163c", func := "garth/garthlaw12.PagePlays", spec := "pagePlays", named := ["garth/class.units"], apart := false, laid := [("garth/class.units", laid_garth_class_units)], narrowed := true }
def PagePlaysUptoSaid : Prop := pagePlaysUptoRow.holds Tryd.pinned (OpenSpec.upto pagePlaysSpec)

/-- 'garthlaw12.PageZero', WHERE WHAT IT READS IS OF BULK AT MOST 1048576: true; the input reads as it did. -/
def pageZeroUptoRow : OpenClaim := { program := "ythndakhnhnipnaadoor", sum := "4a475260f8b875c14ea819b2402a52438e2f61cde10b18203d850263e8ff163c", func := "garth/garthlaw12.PageZero", spec := "pageZero", named := ["garth/class.units"], apart := false, laid := [("garth/class.units", laid_garth_class_units)], narrowed := true }
def PageZeroUptoSaid : Prop := pageZeroUptoRow.holds Tryd.pinned (OpenSpec.upto pageZeroSpec)

/-- 'garthlaw12.PageMoves', WHERE WHAT IT READS IS OF BULK AT MOST 1048576: true; the input reads as it did. -/
def pageMovesUptoRow : OpenClaim := { program := "ythndakhnhnipnaadoor", sum := "4a475260f8b875c14ea819b2402a52438e2f61cde10b18203d850263e8ff163c", func := "garth/garthlaw12.PageMoves", spec := "pageMoves", unfollowed := true, recurses := true, named := ["garth/class.units"], apart := false, laid := [("garth/class.units", laid_garth_class_units)], narrowed := true }
def PageMovesUptoSaid : Prop := pageMovesUptoRow.holds Tryd.pinned (OpenSpec.upto pageMovesSpec)

/-- 'garthlaw12.PageNil', WHERE WHAT IT READS IS OF BULK AT MOST 1048576: true; the input reads as it did. -/
def pageNilUptoRow : OpenClaim := { program := "ythndakhnhnipnaadoor", sum := "4a475260f8b875c14ea819b2402a52438e2f61cde10b18203d850263e8ff163c", func := "garth/garthlaw12.PageNil", spec := "pageNil", named := ["garth/class.units"], apart := false, laid := [("garth/class.units", laid_garth_class_units)], narrowed := true }
def PageNilUptoSaid : Prop := pageNilUptoRow.holds Tryd.pinned (OpenSpec.upto pageNilSpec)

end Rows
end Go.Proofs.YthndakhnhnipnaaDoor
