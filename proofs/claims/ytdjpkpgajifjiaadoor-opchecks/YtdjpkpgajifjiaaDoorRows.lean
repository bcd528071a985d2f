/-
  NARROWER THAN 'FOR EVERY INPUT', by the rows' own cells (each row's printed sentence says how): OpChecks: laid · OpWords: laid · OpAsks: laid.
  DERIVED. THE GIVEN ROWS OF THIS SEAT. 3 by the template 'for every input the law returns true; each argument reads behind the call as it read before'; 0 by the template 'total and deterministic' (their statements: YtdjpkpgajifjiaaDoorTotals.lean).
  GIVEN WITH THE SEED: the statements are not yours to turn. If you find one false, say at which input.
  Laid BY PROGRAM, IN A SANDBOX (cutbox-rows.mjs): the forced cells as the released guide's own fill.sh prints them over the translation 33b759fbdbc2fd2c… (all of the seat's roots in one cut). By AI agents, Wed Nov 11 2026. No macro, syntax, notation, axiom, sorry.
-/
import Derived.Test.YtdjpkpgajifjiaaDoorChecked
import GoSem.Claim
import GoSem.ClaimJoined
import GoSem.ClaimMapViews
import Derived.JoinedTies
import Derived.KernelRfl
namespace Go.Proofs.YtdjpkpgajifjiaaDoor
/- THE CELL 'sum', in the pinned program and in every row, IS THE sha256 OF THE DUMP (.gsa) THAT YtdjpkpgajifjiaaDoorProg.lean LOADS. Nothing in Lean hashes anything: it is a label: what it is worth is what the hold of that sum in a sandbox is worth. -/
noncomputable def Tryd.pinned : Pinned := { name := "ytdjpkpgajifjiaadoor", sum := "33b759fbdbc2fd2cd1a8298cb351beca3d452ad50eff94c35b89b4135967e916", checked := Tryd.checked }
namespace Rows
def none {H : Type} : Left H := { results := [], args := [] }

/- WHAT THE LISTED PACKAGE-LEVEL VARIABLES READ AS WHEN THE CALL BEGINS. Each datum BY PROGRAM (the guide's laid-datum.mjs) off the statement by which the dump's own 'gosem.cut.vars' lays the variable. In a bare row this is a premise. The card (YtdjpkpgajifjiaaDoorCards.lean) ties it to the program's text. -/
def laid_garth_class_units {H : Type} : DataW H := .agg [.lit (.int .i64 16), .lit (.int .i64 32), .lit (.int .i64 48), .lit (.int .i64 64), .lit (.int .i64 96), .lit (.int .i64 128), .lit (.int .i64 192), .lit (.int .i64 256)]
def laid_garth_op_words {H : Type} : DataW H := .agg [.lit (.string [99, 114, 101, 97, 116, 101]), .lit (.string [114, 101, 115, 105, 122, 101]), .lit (.string [100, 101, 115, 116, 114, 111, 121]), .lit (.string [109, 97, 108, 108, 111, 99]), .lit (.string [99, 97, 108, 108, 111, 99]), .lit (.string [102, 114, 101, 101]), .lit (.string [114, 101, 97, 108, 108, 111, 99]), .lit (.string [117, 115, 97, 98, 108, 101]), .lit (.string [114, 101, 97, 100]), .lit (.string [119, 114, 105, 116, 101]), .lit (.string [114, 101, 115, 116, 114, 105, 99, 116])]

/-- 'garthlaw19.OpChecks': WHATEVER THE INPUT: true; the input reads as it did. -/
def opChecksSpec : ChangeSpec := { name := "opChecks", fn := fun _ => fun
  | [d] => { results := [.lit (.bool true)], args := [d] }
  | _ => none }
def opChecksRow : OpenClaim := { program := "ytdjpkpgajifjiaadoor", sum := "33b759fbdbc2fd2cd1a8298cb351beca3d452ad50eff94c35b89b4135967e916", func := "garth/garthlaw19.OpChecks", spec := "opChecks", named := ["garth/op.words", "garth/class.units"], apart := false, laid := [("garth/class.units", laid_garth_class_units), ("garth/op.words", laid_garth_op_words)] }
def OpChecksSaid : Prop := opChecksRow.holds Tryd.pinned (OpenSpec.ofChange opChecksSpec)

/-- ITS FALSE NEIGHBOUR: 'it returns false'. Refute it at one input. -/
def opChecksWrong : ChangeSpec := { name := "opChecks", fn := fun _ => fun
  | [d] => { results := [.lit (.bool false)], args := [d] }
  | _ => none }
def OpChecksWrongFalsely : Prop := opChecksRow.holds Tryd.pinned (OpenSpec.ofChange opChecksWrong)

/-- 'garthlaw19.OpWords': WHATEVER THE INPUT: true; the input reads as it did. -/
def opWordsSpec : ChangeSpec := { name := "opWords", fn := fun _ => fun
  | [d1, d2] => { results := [.lit (.bool true)], args := [d1, d2] }
  | _ => none }
def opWordsRow : OpenClaim := { program := "ytdjpkpgajifjiaadoor", sum := "33b759fbdbc2fd2cd1a8298cb351beca3d452ad50eff94c35b89b4135967e916", func := "garth/garthlaw19.OpWords", spec := "opWords", named := ["garth/op.words", "garth/class.units"], apart := false, laid := [("garth/class.units", laid_garth_class_units), ("garth/op.words", laid_garth_op_words)] }
def OpWordsSaid : Prop := opWordsRow.holds Tryd.pinned (OpenSpec.ofChange opWordsSpec)

/-- ITS FALSE NEIGHBOUR: 'it returns false'. Refute it at one input. -/
def opWordsWrong : ChangeSpec := { name := "opWords", fn := fun _ => fun
  | [d1, d2] => { results := [.lit (.bool false)], args := [d1, d2] }
  | _ => none }
def OpWordsWrongFalsely : Prop := opWordsRow.holds Tryd.pinned (OpenSpec.ofChange opWordsWrong)

/-- 'garthlaw19.OpAsks': WHATEVER THE INPUT: true; the input reads as it did. -/
def opAsksSpec : ChangeSpec := { name := "opAsks", fn := fun _ => fun
  | [d] => { results := [.lit (.bool true)], args := [d] }
  | _ => none }
def opAsksRow : OpenClaim := { program := "ytdjpkpgajifjiaadoor", sum := "33b759fbdbc2fd2cd1a8298cb351beca3d452ad50eff94c35b89b4135967e916", func := "garth/garthlaw19.OpAsks", spec := "opAsks", named := ["garth/class.units", "garth/op.words"], apart := false, laid := [("garth/class.units", laid_garth_class_units), ("garth/op.words", laid_garth_op_words)] }
def OpAsksSaid : Prop := opAsksRow.holds Tryd.pinned (OpenSpec.ofChange opAsksSpec)

/-- ITS FALSE NEIGHBOUR: 'it returns false'. Refute it at one input. -/
def opAsksWrong : ChangeSpec := { name := "opAsks", fn := fun _ => fun
  | [d] => { results := [.lit (.bool false)], args := [d] }
  | _ => none }
def OpAsksWrongFalsely : Prop := opAsksRow.holds Tryd.pinned (OpenSpec.ofChange opAsksWrong)

/- THE SECOND FORM. 'bulk': how many values and letters a reading holds, each counted each time it is reached (what is shared counts as often as it is met; a slice's spare places count too). A statement '..UptoSaid' is the law's where the arguments, and the package variables that the reading takes, are together of bulk at most 1048576: NARROWER than '..Said'. Prove '..Said' where nothing that the law and all that it calls make is longer than what came in: it says more and counts as full. Else prove '..UptoSaid'. A law counts once. -/
mutual
def uptoBulk {H : Type} : DataW H → Nat
  | .lit (.string bytes) => bytes.length + 1
  | .lit _ => 1
  | .nil => 1
  | .ptr d => uptoBulk d + 1
  | .slice elems spare => uptoBulkAll elems + uptoBulkAll spare + 1
  | .agg parts => uptoBulkAll parts + 1
  | .iface _ d => uptoBulk d + 1
  | .map entries => uptoBulkEntries entries + 1
  | .held _ => 1
def uptoBulkAll {H : Type} : List (DataW H) → Nat
  | [] => 0
  | d :: r => uptoBulk d + uptoBulkAll r
def uptoBulkEntries {H : Type} : List (Lit × DataW H) → Nat
  | [] => 0
  | x :: r => uptoBulkEntry x + uptoBulkEntries r
def uptoBulkEntry {H : Type} : Lit × DataW H → Nat
  | (.string bytes, d) => bytes.length + uptoBulk d + 1
  | (_, d) => uptoBulk d + 1
 end
def uptoSmall : (H : Type) → List (DataW H) → Bool := fun _ ds => decide (uptoBulkAll ds ≤ 1048576)
def OpenSpec.upto (s : _root_.Go.ChangeSpec) : _root_.Go.OpenSpec := { _root_.Go.OpenSpec.ofChange s with cond := some uptoSmall }

/-- 'garthlaw19.OpChecks', WHERE WHAT IT READS IS OF BULK AT MOST 1048576: true; the input reads as it did. -/
def opChecksUptoRow : OpenClaim := { program := "ytdjpkpgajifjiaadoor", sum := "33b759fbdbc2fd2cd1a8298cb351beca3d452ad50eff94c35b89b4135967e916", func := "garth/garthlaw19.OpChecks", spec := "opChecks", named := ["garth/op.words", "garth/class.units"], apart := false, laid := [("garth/class.units", laid_garth_class_units), ("garth/op.words", laid_garth_op_words)], narrowed := true }
def OpChecksUptoSaid : Prop := opChecksUptoRow.holds Tryd.pinned (OpenSpec.upto opChecksSpec)

/-- 'garthlaw19.OpWords', WHERE WHAT IT READS IS OF BULK AT MOST 1048576: true; the input reads as it did. -/
def opWordsUptoRow : OpenClaim := { program := "ytdjpkpgajifjiaadoor", sum := "33b759fbdbc2fd2cd1a8298cb351beca3d452ad50eff94c35b89b4135967e916", func := "garth/garthlaw19.OpWords", spec := "opWords", named := ["garth/op.words", "garth/class.units"], apart := false, laid := [("garth/class.units", laid_garth_class_units), ("garth/op.words", laid_garth_op_words)], narrowed := true }
def OpWordsUptoSaid : Prop := opWordsUptoRow.holds Tryd.pinned (OpenSpec.upto opWordsSpec)

/-- 'garthlaw19.OpAsks', WHERE WHAT IT READS IS OF BULK AT MOST 1048576: true; the input reads as it did. -/
def opAsksUptoRow : OpenClaim := { program := "ytdjpkpgajifjiaadoor", sum := "33b759fbdbc2fd2cd1a8298cb351beca3d452ad50eff94c35b89b4135967e916", func := "garth/garthlaw19.OpAsks", spec := "opAsks", named := ["garth/class.units", "garth/op.words"], apart := false, laid := [("garth/class.units", laid_garth_class_units), ("garth/op.words", laid_garth_op_words)], narrowed := true }
def OpAsksUptoSaid : Prop := opAsksUptoRow.holds Tryd.pinned (OpenSpec.upto opAsksSpec)

end Rows
end Go.Proofs.YtdjpkpgajifjiaaDoor
