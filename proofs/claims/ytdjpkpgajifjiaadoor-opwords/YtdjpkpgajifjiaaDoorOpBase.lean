/-
  Operations: mathematics. Which ones may be, what they ask for, and their words.
-/
import Derived.Test.YtdjpkpgajifjiaaDoorBase
import Derived.Test.YtdjpkpgajifjiaaDoorClBase
namespace Go.Proofs.YtdjpkpgajifjiaaDoor
open Go.RowKit

/-- May it be? -/
abbrev OpR (k t : Int) (sz : Nat) : Prop := (1 ≤ k ∧ k ≤ 11) ∧ (0 ≤ t ∧ t ≤ 7) ∧ sz ≤ 8192 ∧ (k = 10 ∨ sz = 0)
def opE (k t : Int) (sz : Nat) : Int := if OpR k t sz then 0 else 1
/-- What it asks for. -/
def opN (k n m : Int) : Int := if k = 4 ∨ k = 7 then n else if k = 5 ∧ (1 ≤ n ∧ 1 ≤ m ∧ n ≤ 8192 ∧ m ≤ 8192) then n * m else 0
def opA (k t n m : Int) (sz : Nat) : Int := if OpR k t sz ∧ 0 ≤ ofI (opN k n m) then opN k n m else 0
/-- Words. -/
def wdS : Nat → ByteArray
  | 1 => ⟨#[99, 114, 101, 97, 116, 101]⟩
  | 2 => ⟨#[114, 101, 115, 105, 122, 101]⟩
  | 3 => ⟨#[100, 101, 115, 116, 114, 111, 121]⟩
  | 4 => ⟨#[109, 97, 108, 108, 111, 99]⟩
  | 5 => ⟨#[99, 97, 108, 108, 111, 99]⟩
  | 6 => ⟨#[102, 114, 101, 101]⟩
  | 7 => ⟨#[114, 101, 97, 108, 108, 111, 99]⟩
  | 8 => ⟨#[117, 115, 97, 98, 108, 101]⟩
  | 9 => ⟨#[114, 101, 97, 100]⟩
  | 10 => ⟨#[119, 114, 105, 116, 101]⟩
  | 11 => ⟨#[114, 101, 115, 116, 114, 105, 99, 116]⟩
  | _ => ⟨#[]⟩
def opW (k : Int) : ByteArray := if 1 ≤ k ∧ k ≤ 11 then wdS k.toNat else ⟨#[]⟩
/-- The first of the kinds from k on, of j in a row, whose word it is. -/
def wdF (s : ByteArray) : Nat → Nat → Int
  | _, 0 => 0
  | k, j + 1 => if wdS k = s then (k : Int) else wdF s (k + 1) j
def opK (s : ByteArray) : Int := wdF s 1 11
/-- An operation as a value. -/
abbrev opV (k t n m h : Int) (d : ByteArray) : Value := .agg #[.int .i64 k, .int .i64 t, .int .i64 n, .int .i64 m, .int .u64 h, .string d]
theorem opA_range (k t n m : Int) (sz : Nat) : 0 ≤ opA k t n m sz ∧ opA k t n m sz ≤ 8192 := by
  unfold opA
  split
  · rename_i h
    have := h.2
    generalize opN k n m = x at *
    by_cases hx : 1 ≤ x ∧ x ≤ 8192
    · omega
    · have e := (ofI_none x).2 (by omega)
      omega
  · omega
end Go.Proofs.YtdjpkpgajifjiaaDoor
