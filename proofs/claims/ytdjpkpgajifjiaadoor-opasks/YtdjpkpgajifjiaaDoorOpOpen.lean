/-
  An operation that came in by value, opened.
-/
import Derived.Test.YtdjpkpgajifjiaaDoorRows
import Derived.Test.YtdjpkpgajifjiaaDoorOpBase
import Derived.ProofKit
import Derived.OpenShut
import Derived.Deep.Fields
namespace Go.Proofs.YtdjpkpgajifjiaaDoor
open Go.ChangeShapes Go.WideShapes Go.ChangeAt Go.RowKit

theorem list6 {l : List Value} (h : l.length = 6) : ∃ a b c d e f, l = [a, b, c, d, e, f] := by
  match l, h with
  | [a, b, c, d, e, f], _ => exact ⟨a, b, c, d, e, f, rfl⟩

theorem Tryd.cellsOp : Tryd.prog.cellsOf 24 = 6 := by kernel_rfl
theorem Tryd.cellsInt : Tryd.prog.cellsOf 3 = 1 := by kernel_rfl
theorem Tryd.cellsU64 : Tryd.prog.cellsOf 22 = 1 := by kernel_rfl
theorem Tryd.cellsStr : Tryd.prog.cellsOf 9 = 1 := by kernel_rfl

section
variable {H : Type} {enc : TypeId × Value → H} {w : World} {base : Nat} {spare : Nat → Bool} {held : Bool}

theorem open_op {fuel : Nat} {cs : List Value} {x : DataW H × List MemPlace} (h : DataW.trod enc Tryd.prog w base spare held fuel 24 cs = some x) : ∃ (k t n m h : Int) (d : ByteArray), cs = [.int .i64 k, .int .i64 t, .int .i64 n, .int .i64 m, .int .u64 h, .string d] ∧ I64 k ∧ I64 t ∧ I64 n ∧ I64 m := by
  obtain ⟨xs, n, _, _, hl, hxl, hf⟩ := DataW.trod_struct Tryd.underlying24 h
  rw [Tryd.cellsOp] at hl
  obtain ⟨a, b, c, d, e, f, rfl⟩ := list6 hl
  have h0 : DataW.trod enc Tryd.prog w base spare held n 3 (List.take (Tryd.prog.cellsOf 3) (List.drop 0 [a, b, c, d, e, f])) = xs[0]? := hf 0 _ rfl
  have h1 : DataW.trod enc Tryd.prog w base spare held n 3 (List.take (Tryd.prog.cellsOf 3) (List.drop 1 [a, b, c, d, e, f])) = xs[1]? := hf 1 _ rfl
  have h2 : DataW.trod enc Tryd.prog w base spare held n 3 (List.take (Tryd.prog.cellsOf 3) (List.drop 2 [a, b, c, d, e, f])) = xs[2]? := hf 2 _ rfl
  have h3 : DataW.trod enc Tryd.prog w base spare held n 3 (List.take (Tryd.prog.cellsOf 3) (List.drop 3 [a, b, c, d, e, f])) = xs[3]? := hf 3 _ rfl
  have h4 : DataW.trod enc Tryd.prog w base spare held n 22 (List.take (Tryd.prog.cellsOf 22) (List.drop 4 [a, b, c, d, e, f])) = xs[4]? := hf 4 _ rfl
  have h5 : DataW.trod enc Tryd.prog w base spare held n 9 (List.take (Tryd.prog.cellsOf 9) (List.drop 5 [a, b, c, d, e, f])) = xs[5]? := hf 5 _ rfl
  rw [Tryd.cellsInt] at h0 h1 h2 h3
  rw [Tryd.cellsU64] at h4
  rw [Tryd.cellsStr] at h5
  have hx : ∀ i, i < 6 → ∃ y, xs[i]? = some y := fun i hi => ⟨_, List.getElem?_eq_getElem (by rw [hxl]; exact hi)⟩
  obtain ⟨y0, e0⟩ := hx 0 (by omega)
  obtain ⟨y1, e1⟩ := hx 1 (by omega)
  obtain ⟨y2, e2⟩ := hx 2 (by omega)
  obtain ⟨y3, e3⟩ := hx 3 (by omega)
  obtain ⟨y4, e4⟩ := hx 4 (by omega)
  obtain ⟨y5, e5⟩ := hx 5 (by omega)
  rw [e0] at h0; rw [e1] at h1; rw [e2] at h2; rw [e3] at h3; rw [e4] at h4; rw [e5] at h5
  obtain ⟨n0, g0, _, w0⟩ := DataW.trod_int Tryd.underlying3 h0
  obtain ⟨n1, g1, _, w1⟩ := DataW.trod_int Tryd.underlying3 h1
  obtain ⟨n2, g2, _, w2⟩ := DataW.trod_int Tryd.underlying3 h2
  obtain ⟨n3, g3, _, w3⟩ := DataW.trod_int Tryd.underlying3 h3
  obtain ⟨n4, g4, _, _⟩ := DataW.trod_int Tryd.underlying22 h4
  obtain ⟨s, g5, _, _⟩ := DataW.trod_string Tryd.underlying9 h5
  simp at g0 g1 g2 g3 g4 g5
  subst g0 g1 g2 g3 g4 g5
  exact ⟨n0, n1, n2, n3, n4, s, rfl, bounds_i64 w0, bounds_i64 w1, bounds_i64 w2, bounds_i64 w3⟩

theorem open_op_value {r : Reach} {b0 : Nat} {v : Value} {d : DataW H} {p : List MemPlace} (hv : Value.okWide Tryd.prog w r b0 24 v) (h : DataW.Trod enc Tryd.prog w base spare held 24 v d p) :
    ∃ (k t n m h : Int) (d : ByteArray), v = opV k t n m h d ∧ I64 k ∧ I64 t ∧ I64 n ∧ I64 m := by
  obtain ⟨cs, rfl, _⟩ := okWide_struct Tryd.underlying24 hv
  obtain ⟨fuel, hf⟩ := h
  obtain ⟨k, t, n, m, h, d, ho, hb⟩ := open_op hf
  refine ⟨k, t, n, m, h, d, ?_, hb⟩
  obtain ⟨l⟩ := cs
  simp only [Value.cells] at ho
  rw [ho]
end
end Go.Proofs.YtdjpkpgajifjiaaDoor
