/-
  Colours and whose they are: what each call answers and leaves: plain mathematics off the document. Nothing of the program is named here.
-/
import Derived.Test.YthamfljooapkoaaDoorBase
namespace Go.Proofs.YthamfljooapkoaaDoor

/-- The colours of an owner, rising; of -1: nobody's. -/
def wN (own : List Int) (o : Int) : List Nat := (List.range own.length).filter fun i => own.getD i 99 == o
/-- These colours are another one's now. -/
def setAll (own : List Int) (l : List Nat) (o : Int) : List Int := l.foldl (fun s i => s.set i o) own
/-- An owner, and a number that may be. -/
abbrev Ow (o : Int) : Prop := 0 ≤ o ∧ o ≤ 7
def grE (own : List Int) (o k : Int) : Int := if Ow o ∧ 0 ≤ k then (if k ≤ (wN own (-1)).length then 0 else 9) else 12
def grL (own : List Int) (o k : Int) : List Nat := if (Ow o ∧ 0 ≤ k) ∧ k ≤ (wN own (-1)).length then (wN own (-1)).take k.toNat else []
def grS (own : List Int) (o k : Int) : List Int := setAll own (grL own o k) o
def shE (own : List Int) (o k : Int) : Int := if (Ow o ∧ 0 ≤ k) ∧ k ≤ (wN own o).length then 0 else 12
def shL (own : List Int) (o k : Int) : List Nat := if (Ow o ∧ 0 ≤ k) ∧ k ≤ (wN own o).length then (wN own o).drop k.toNat else []
def shS (own : List Int) (o k : Int) : List Int := setAll own (shL own o k) (-1)
/-- What Window answers. -/
def wiL (own : List Int) (o : Int) : List Nat := if Ow o then wN own o else []
def owI (own : List Int) (c : Int) : Int := if 0 ≤ c ∧ c < own.length then own.getD c.toNat 0 else -1
/-- How many may be, and that each is somebody's or nobody's. -/
structure Own (own : List Int) : Prop where
  one : 1 ≤ own.length
  most : own.length ≤ 32
  rng : ∀ x ∈ own, -1 ≤ x ∧ x ≤ 7
theorem setAll_length (own : List Int) (o : Int) : ∀ l : List Nat, (setAll own l o).length = own.length := by
  intro l
  unfold setAll
  induction l generalizing own with
  | nil => rfl
  | cons i r ih => simp [ih]
theorem setAll_nil (own : List Int) (o : Int) : setAll own [] o = own := rfl
theorem setAll_snoc (own : List Int) (o : Int) (l : List Nat) (i : Nat) : setAll own (l ++ [i]) o = (setAll own l o).set i o := by simp [setAll]
theorem mem_set_or {l : List Int} {i : Nat} {a x : Int} (h : x ∈ l.set i a) : x ∈ l ∨ x = a := List.mem_or_eq_of_mem_set h
theorem setAll_rng {own : List Int} {o : Int} (ho : -1 ≤ o ∧ o ≤ 7) (h : ∀ x ∈ own, -1 ≤ x ∧ x ≤ 7) : ∀ l : List Nat, ∀ x ∈ setAll own l o, -1 ≤ x ∧ x ≤ 7 := by
  intro l
  unfold setAll
  induction l generalizing own with
  | nil => exact h
  | cons i r ih =>
    refine ih (own := own.set i o) fun x hx => ?_
    rcases mem_set_or hx with h1 | h1
    · exact h x h1
    · subst h1; exact ho
theorem grS_own {own : List Int} (h : Own own) (o k : Int) : Own (grS own o k) := by
  unfold grS
  by_cases ho : Ow o
  · exact ⟨by rw [setAll_length]; exact h.one, by rw [setAll_length]; exact h.most, setAll_rng ⟨by unfold Ow at ho; omega, ho.2⟩ h.rng _⟩
  · have : grL own o k = [] := by unfold grL; rw [if_neg (fun e => ho e.1.1)]
    rw [this]; exact h
theorem shS_own {own : List Int} (h : Own own) (o k : Int) : Own (shS own o k) :=
  ⟨by unfold shS; rw [setAll_length]; exact h.one, by unfold shS; rw [setAll_length]; exact h.most, setAll_rng ⟨by omega, by omega⟩ h.rng _⟩
theorem wN_lt {own : List Int} {o : Int} {i : Nat} (h : i ∈ wN own o) : i < own.length := by
  unfold wN at h; rw [List.mem_filter] at h; simpa using h.1
theorem wN_at {own : List Int} {o : Int} {i : Nat} (h : i ∈ wN own o) : owI own i = o := by
  have hl := wN_lt h
  unfold wN at h; rw [List.mem_filter] at h
  have h2 := h.2
  rw [beq_iff_eq] at h2
  unfold owI
  rw [if_pos ⟨by omega, by omega⟩, ← h2]
  simp [List.getD, List.getElem?_eq_getElem hl]
theorem wN_le (own : List Int) (o : Int) : (wN own o).length ≤ own.length := by
  unfold wN; have := List.length_filter_le (fun i => own.getD i 99 == o) (List.range own.length); simpa using this
theorem wN_rises (own : List Int) (o : Int) : (wN own o).Pairwise (· < ·) := by
  unfold wN; exact List.Pairwise.filter _ List.pairwise_lt_range
theorem grL_le (own : List Int) (o k : Int) : (grL own o k).length ≤ own.length := by
  unfold grL; split
  · have := wN_le own (-1); rw [List.length_take]; omega
  · simp
theorem shL_le (own : List Int) (o k : Int) : (shL own o k).length ≤ own.length := by
  unfold shL; split
  · have := wN_le own o; rw [List.length_drop]; omega
  · simp
theorem wiL_le (own : List Int) (o : Int) : (wiL own o).length ≤ own.length := by
  unfold wiL; split
  · exact wN_le own o
  · simp
theorem newP_own {n : Nat} (h1 : 1 ≤ n) (h2 : n ≤ 32) : Own (List.replicate n (-1)) := ⟨by simpa using h1, by simpa using h2, fun x hx => by rw [List.eq_of_mem_replicate hx]; omega⟩
/-- The window as far as it was gone through. -/
def wTo (own : List Int) (o : Int) (j : Nat) : List Nat := (List.range j).filter fun i => own.getD i 99 == o
theorem wTo_all (own : List Int) (o : Int) : wTo own o own.length = wN own o := rfl
theorem wTo_zero (own : List Int) (o : Int) : wTo own o 0 = [] := rfl
theorem wTo_succ {own : List Int} {o : Int} {j : Nat} (hj : j < own.length) : wTo own o (j + 1) = if own[j] = o then wTo own o j ++ [j] else wTo own o j := by
  unfold wTo
  rw [List.range_succ, List.filter_append]
  have : own.getD j 99 = own[j] := by simp [List.getD, List.getElem?_eq_getElem hj]
  by_cases h : own[j] = o
  · rw [if_pos h, List.filter_cons, this, h]; simp
  · rw [if_neg h, List.filter_cons, this, if_neg (by simpa using h)]; simp
theorem wTo_le (own : List Int) (o : Int) (j : Nat) : (wTo own o j).length ≤ j := by
  unfold wTo; have := List.length_filter_le (fun i => own.getD i 99 == o) (List.range j); simpa using this
/-- How many are whose. -/
theorem count_all : ∀ own : List Int, (∀ x ∈ own, -1 ≤ x ∧ x ≤ 7) → ((own.count 0 + own.count 1 + own.count 2 + own.count 3 + own.count 4 + own.count 5 + own.count 6 + own.count 7) + own.count (-1) = own.length)
  | [], _ => rfl
  | x :: r, h => by
    have ih := count_all r (fun y hy => h y (List.mem_cons_of_mem _ hy))
    have hx := h x (List.mem_cons_self ..)
    have : x = -1 ∨ x = 0 ∨ x = 1 ∨ x = 2 ∨ x = 3 ∨ x = 4 ∨ x = 5 ∨ x = 6 ∨ x = 7 := by omega
    rcases this with rfl | rfl | rfl | rfl | rfl | rfl | rfl | rfl | rfl <;> simp <;> omega
theorem wN_count (own : List Int) (o : Int) : (wN own o).length = own.count o := by
  have key : ∀ l : List Int, ((List.range l.length).filter fun i => l.getD i 99 == o).length = l.count o := by
    intro l
    induction l with
    | nil => rfl
    | cons x r ih =>
      rw [List.length_cons, List.range_succ_eq_map, List.filter_cons, List.filter_map, List.count_cons]
      have e : ((fun i => (x :: r).getD i 99 == o) ∘ Nat.succ) = fun i => r.getD i 99 == o := by funext i; simp [List.getD]
      rw [e]
      by_cases hx : x = o
      · subst hx; simp [List.getD] at ih ⊢; exact ih
      · have : (x == o) = false := by simpa using hx
        simp [List.getD, this] at ih ⊢; exact ih
  exact key own
/-- How many colours the first owners have. -/
def hadTo (own : List Int) : Nat → Nat
  | 0 => 0
  | n + 1 => hadTo own n + (wN own (n : Int)).length
theorem had_all {own : List Int} (h : Own own) : hadTo own 8 + (wN own (-1)).length = own.length := by
  have := count_all own h.rng
  simp only [hadTo, wN_count]
  simpa using this
end Go.Proofs.YthamfljooapkoaaDoor
