/-
  A key as it comes in by value, opened.
-/
import Derived.Test.YtaljdfncdpbjfaaRows
import Derived.Test.YtaljdfncdpbjfaaBase
import Derived.ProofKit
import Derived.OpenShut
import Derived.Deep.Slices
import Derived.Deep.Fields
namespace Go.Proofs.Ytaljdfncdpbjfaa
open Go.ChangeShapes Go.WideShapes Go.ChangeAt Go.RowKit

theorem Try.cellsInt : Try.prog.cellsOf 3 = 1 := by kernel_rfl
theorem Try.cellsKey : Try.prog.cellsOf 23 = 4 := by kernel_rfl
theorem open_key {H : Type} {enc : TypeId × Value → H} {w : World} {base : Nat} {spare : Nat → Bool} {held : Bool} {v : Value} {d : DataW H} {p : List MemPlace} {r : Reach} {b0 : Nat} (hv : Value.okWide Try.prog w r b0 23 v) (h : DataW.Trod enc Try.prog w base spare held 23 v d p) :
    ∃ o : Int × Int × Int × Int, v = .agg #[.int .i64 o.1, .int .i64 o.2.1, .int .i64 o.2.2.1, .int .i64 o.2.2.2] := by
  obtain ⟨cs, rfl, _⟩ := okWide_struct Try.underlying23 hv
  obtain ⟨fuel, hf⟩ := h
  obtain ⟨xs, n, _, _, hl, hxl, hf⟩ := DataW.trod_struct Try.underlying23 hf
  rw [Try.cellsKey] at hl
  obtain ⟨l⟩ := cs
  simp only [Value.cells] at hl hf
  obtain ⟨a, b, c, e, rfl⟩ : ∃ a b c e, l = [a, b, c, e] := by
    match l, hl with
    | [a, b, c, e], _ => exact ⟨a, b, c, e, rfl⟩
  have h0 : DataW.trod enc Try.prog w base spare held n 3 (List.take (Try.prog.cellsOf 3) (List.drop 0 [a, b, c, e])) = xs[0]? := hf 0 _ rfl
  have h1 : DataW.trod enc Try.prog w base spare held n 3 (List.take (Try.prog.cellsOf 3) (List.drop 1 [a, b, c, e])) = xs[1]? := hf 1 _ rfl
  have h2 : DataW.trod enc Try.prog w base spare held n 3 (List.take (Try.prog.cellsOf 3) (List.drop 2 [a, b, c, e])) = xs[2]? := hf 2 _ rfl
  have h3 : DataW.trod enc Try.prog w base spare held n 3 (List.take (Try.prog.cellsOf 3) (List.drop 3 [a, b, c, e])) = xs[3]? := hf 3 _ rfl
  rw [Try.cellsInt] at h0 h1 h2 h3
  have hx : ∀ i, i < 4 → ∃ y, xs[i]? = some y := fun i hi => ⟨_, List.getElem?_eq_getElem (by rw [hxl]; exact hi)⟩
  obtain ⟨y0, e0⟩ := hx 0 (by omega)
  rw [e0] at h0
  obtain ⟨n0, g0, _, _⟩ := DataW.trod_int Try.underlying3 h0
  obtain ⟨y1, e1⟩ := hx 1 (by omega)
  rw [e1] at h1
  obtain ⟨n1, g1, _, _⟩ := DataW.trod_int Try.underlying3 h1
  obtain ⟨y2, e2⟩ := hx 2 (by omega)
  rw [e2] at h2
  obtain ⟨n2, g2, _, _⟩ := DataW.trod_int Try.underlying3 h2
  obtain ⟨y3, e3⟩ := hx 3 (by omega)
  rw [e3] at h3
  obtain ⟨n3, g3, _, _⟩ := DataW.trod_int Try.underlying3 h3
  simp at g0 g1 g2 g3
  subst g0 g1 g2 g3
  exact ⟨(n0, n1, n2, n3), rfl⟩
end Go.Proofs.Ytaljdfncdpbjfaa
