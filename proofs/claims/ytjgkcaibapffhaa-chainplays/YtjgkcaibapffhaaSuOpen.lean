/-
  Two numbers that come in as an array by value.
-/
import Derived.Test.YtjgkcaibapffhaaRows
import Derived.ProofKit
import Derived.OpenShut
namespace Go.Proofs.Ytjgkcaibapffhaa
open Go.ChangeShapes Go.WideShapes Go.ChangeAt Go.RowKit

section
variable {H : Type} {enc : TypeId × Value → H} {w : World} {base : Nat} {spare : Nat → Bool} {held : Bool}
theorem pair_cells : Try.prog.cellsOf 22 = 2 := by kernel_rfl
theorem pair_cell : Try.prog.cellsOf 3 = 1 := by kernel_rfl
theorem open_pairB {r : Reach} {b0 : Nat} {v : Value} {d : DataW H} {p : List MemPlace} (hv : Value.okWide Try.prog w r b0 22 v) (h : DataW.Trod enc Try.prog w base spare held 22 v d p) :
    ∃ a b : Int, v = .agg #[.int .i64 a, .int .i64 b] ∧ (-9223372036854775808 ≤ a ∧ a ≤ 9223372036854775807) ∧ -9223372036854775808 ≤ b ∧ b ≤ 9223372036854775807 := by
  simp only [Value.okWide, Try.underlying22] at hv
  obtain ⟨cs, rfl, hs, _⟩ := hv
  rw [pair_cells] at hs
  obtain ⟨l⟩ := cs
  obtain ⟨c0, c1, rfl⟩ : ∃ c0 c1, l = [c0, c1] := by
    match l, hs with
    | [c0, c1], _ => exact ⟨c0, c1, rfl⟩
  obtain ⟨fuel, hf⟩ := h
  cases fuel with
  | zero => simp [DataW.trod] at hf
  | succ n =>
    simp only [DataW.trod, Try.underlying22, pair_cell, pair_cells, Value.cells] at hf
    have r2 : List.range 2 = [0, 1] := rfl
    simp only [r2, List.mapM_cons, List.mapM_nil] at hf
    split at hf
    · obtain ⟨xs, hm, _⟩ := Option.map_eq_some_iff.1 hf
      simp only [Option.bind_eq_bind, Option.bind_eq_some_iff, Option.pure_def] at hm
      obtain ⟨y0, h0, ys, ⟨y1, h1, _⟩, _⟩ := hm
      obtain ⟨z0, e0, _, f0⟩ := DataW.trod_int Try.underlying3 h0
      obtain ⟨z1, e1, _, f1⟩ := DataW.trod_int Try.underlying3 h1
      simp at e0 e1
      exact ⟨z0, z1, by rw [e0, e1], bounds_i64 f0, bounds_i64 f1⟩
    · cases hf
theorem open_pair {r : Reach} {b0 : Nat} {v : Value} {d : DataW H} {p : List MemPlace} (hv : Value.okWide Try.prog w r b0 22 v) (h : DataW.Trod enc Try.prog w base spare held 22 v d p) :
    ∃ a b : Int, v = .agg #[.int .i64 a, .int .i64 b] := by
  obtain ⟨a, b, h, _⟩ := open_pairB hv h
  exact ⟨a, b, h⟩
end
end Go.Proofs.Ytjgkcaibapffhaa
