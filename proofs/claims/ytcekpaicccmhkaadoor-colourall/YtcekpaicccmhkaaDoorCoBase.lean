/-
  Pages by their colours: which are taken, what each call answers and leaves: plain mathematics off the document. Nothing of the program is named here.
-/
import Derived.Test.YtcekpaicccmhkaaDoorBase
namespace Go.Proofs.YtcekpaicccmhkaaDoor

/-- The least number below n that is meant, else n. -/
def low (f : Nat → Bool) (n : Nat) : Nat := ((List.range n).find? f).getD n
theorem low_unique (f : Nat → Bool) (n p : Nat) (h0 : p < n) (h1 : f p = true) (h2 : ∀ i, i < p → f i = false) : low f n = p := by
  have : (List.range n).find? f = some p := by
    rw [List.find?_range_eq_some]
    refine ⟨h1, by simpa using h0, fun j hj => ?_⟩
    rw [h2 j hj]; rfl
  unfold low; rw [this]; rfl
theorem low_none (f : Nat → Bool) (n : Nat) (h : ∀ i, i < n → f i = false) : low f n = n := by
  have : (List.range n).find? f = none := by
    rw [List.find?_range_eq_none]
    intro i hi; rw [h i hi]; rfl
  unfold low; rw [this]; rfl
theorem low_cases (f : Nat → Bool) (n : Nat) : (low f n < n ∧ f (low f n) = true ∧ ∀ i, i < low f n → f i = false) ∨ (low f n = n ∧ ∀ i, i < n → f i = false) := by
  cases h : (List.range n).find? f with
  | none =>
    right
    rw [List.find?_range_eq_none] at h
    exact ⟨low_none f n fun i hi => by simpa using h i hi, fun i hi => by simpa using h i hi⟩
  | some p =>
    left
    rw [List.find?_range_eq_some] at h
    have e := low_unique f n p (by simpa using h.2.1) h.1 fun i hi => by simpa using h.2.2 i hi
    rw [e]
    exact ⟨by simpa using h.2.1, h.1, fun i hi => by simpa using h.2.2 i hi⟩
/-- How many below n are meant. -/
def cnt (f : Nat → Bool) (n : Nat) : Nat := (List.range n).countP f
theorem cnt_zero (f : Nat → Bool) : cnt f 0 = 0 := rfl
theorem cnt_succ (f : Nat → Bool) (n : Nat) : cnt f (n + 1) = cnt f n + (if f n then 1 else 0) := by
  unfold cnt; rw [List.range_succ, List.countP_append]; simp [List.countP_cons]
theorem cnt_le (f : Nat → Bool) (n : Nat) : cnt f n ≤ n := by
  unfold cnt; have := List.countP_le_length (p := f) (l := List.range n); simpa using this
/-- Is a colour of the window? -/
def inW (k : Nat) (win : List Int) (p : Nat) : Bool := win.any fun x => x == ((p % k : Nat) : Int)
/-- Free, and of the window. -/
def meant (k : Nat) (has : List Bool) (win : List Int) (p : Nat) : Bool := !(has.getD p true) && inW k win p
def takP (k : Nat) (has : List Bool) (win : List Int) : Nat := low (meant k has win) has.length
def takV (k : Nat) (has : List Bool) (win : List Int) : Int := if takP k has win < has.length then (takP k has win : Int) else 0
def takE (k : Nat) (has : List Bool) (win : List Int) : Int := if takP k has win < has.length then 0 else 13
def takS (k : Nat) (has : List Bool) (win : List Int) : List Bool := has.set (takP k has win) true
def giE (has : List Bool) (p : Int) : Int := if 0 ≤ p ∧ p < has.length then (if has.getD p.toNat false then 0 else 13) else 12
def giS (has : List Bool) (p : Int) : List Bool := if 0 ≤ p ∧ p < has.length then has.set p.toNat false else has
def isT (has : List Bool) (p : Int) : Bool := decide (0 ≤ p ∧ p < has.length) && has.getD p.toNat false
def colI (n k : Nat) (p : Int) : Int := if 0 ≤ p ∧ p < n then ((p.toNat % k : Nat) : Int) else -1
def frI (k : Nat) (has : List Bool) (win : List Int) : Nat := cnt (meant k has win) has.length
/-- May it be a configuration? -/
abbrev Cfg (n k : Int) : Prop := 1 ≤ k ∧ k ≤ 32 ∧ 1 ≤ n ∧ n ≤ 4096 ∧ n % k = 0
theorem takS_length (k : Nat) (has : List Bool) (win : List Int) : (takS k has win).length = has.length := by simp [takS]
theorem giS_length (has : List Bool) (p : Int) : (giS has p).length = has.length := by unfold giS; split <;> simp
end Go.Proofs.YtcekpaicccmhkaaDoor
