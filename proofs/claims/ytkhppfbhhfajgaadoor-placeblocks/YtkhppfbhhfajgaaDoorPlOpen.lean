/-
  Three numbers that come in as an array by value.
-/
import Derived.Test.YtkhppfbhhfajgaaDoorRows
import Derived.ProofKit
import Derived.OpenShut
namespace Go.Proofs.YtkhppfbhhfajgaaDoor
open Go.ChangeShapes Go.WideShapes Go.ChangeAt Go.RowKit

section
variable {H : Type} {enc : TypeId × Value → H} {w : World} {base : Nat} {spare : Nat → Bool} {held : Bool}
theorem trip_cells : Tryd.prog.cellsOf 34 = 3 := by kernel_rfl
theorem trip_cell : Tryd.prog.cellsOf 3 = 1 := by kernel_rfl
theorem open_triple {r : Reach} {b0 : Nat} {v : Value} {d : DataW H} {p : List MemPlace} (hv : Value.okWide Tryd.prog w r b0 34 v) (h : DataW.Trod enc Tryd.prog w base spare held 34 v d p) :
    ∃ o : Int × Int × Int, v = .agg #[.int .i64 o.1, .int .i64 o.2.1, .int .i64 o.2.2] ∧ (-9223372036854775808 ≤ o.1 ∧ o.1 ≤ 9223372036854775807) ∧ (-9223372036854775808 ≤ o.2.1 ∧ o.2.1 ≤ 9223372036854775807) ∧ -9223372036854775808 ≤ o.2.2 ∧ o.2.2 ≤ 9223372036854775807 := by
  simp only [Value.okWide, Tryd.underlying34] at hv
  obtain ⟨cs, rfl, hs, _⟩ := hv
  rw [trip_cells] at hs
  obtain ⟨l⟩ := cs
  obtain ⟨c0, c1, c2, rfl⟩ : ∃ c0 c1 c2, l = [c0, c1, c2] := by
    match l, hs with
    | [c0, c1, c2], _ => exact ⟨c0, c1, c2, rfl⟩
  obtain ⟨fuel, hf⟩ := h
  cases fuel with
  | zero => simp [DataW.trod] at hf
  | succ n =>
    simp only [DataW.trod, Tryd.underlying34, trip_cell, trip_cells, Value.cells] at hf
    have r2 : List.range 3 = [0, 1, 2] := rfl
    simp only [r2, List.mapM_cons, List.mapM_nil] at hf
    split at hf
    · obtain ⟨xs, hm, _⟩ := Option.map_eq_some_iff.1 hf
      simp only [Option.bind_eq_bind, Option.bind_eq_some_iff, Option.pure_def] at hm
      obtain ⟨y0, h0, ys, ⟨y1, h1, zs, ⟨y2, h2, _⟩, _⟩, _⟩ := hm
      obtain ⟨z0, e0, _, f0⟩ := DataW.trod_int Tryd.underlying3 h0
      obtain ⟨z1, e1, _, f1⟩ := DataW.trod_int Tryd.underlying3 h1
      obtain ⟨z2, e2, _, f2⟩ := DataW.trod_int Tryd.underlying3 h2
      simp at e0 e1 e2
      exact ⟨(z0, z1, z2), by rw [e0, e1, e2], bounds_i64 f0, bounds_i64 f1, bounds_i64 f2⟩
    · cases hf
end
end Go.Proofs.YtkhppfbhhfajgaaDoor
