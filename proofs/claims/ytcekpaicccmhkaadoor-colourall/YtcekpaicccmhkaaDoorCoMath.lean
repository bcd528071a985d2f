/-
  What taking does to a window: counts, the lowest page; windows without a common colour. Nothing of the program is named here.
-/
import Derived.Test.YtcekpaicccmhkaaDoorCoBase
namespace Go.Proofs.YtcekpaicccmhkaaDoor

theorem cnt_none (f : Nat → Bool) : ∀ n : Nat, (∀ i, i < n → f i = false) → cnt f n = 0
  | 0, _ => rfl
  | n + 1, h => by rw [cnt_succ, cnt_none f n (fun i hi => h i (by omega)), h n (by omega)]; rfl
theorem cnt_pos (f : Nat → Bool) (n : Nat) (h : 0 < cnt f n) : low f n < n ∧ f (low f n) = true ∧ ∀ i, i < low f n → f i = false := by
  rcases low_cases f n with h1 | ⟨_, h1⟩
  · exact h1
  · rw [cnt_none f n h1] at h; omega
theorem cnt_ext {f g : Nat → Bool} : ∀ n : Nat, (∀ i, i < n → f i = g i) → cnt f n = cnt g n
  | 0, _ => rfl
  | n + 1, h => by rw [cnt_succ, cnt_succ, cnt_ext n (fun i hi => h i (by omega)), h n (by omega)]
/-- One that was meant is meant no more. -/
theorem cnt_less {f g : Nat → Bool} {p : Nat} : ∀ n : Nat, p < n → f p = true → g p = false → (∀ i, i < n → i ≠ p → f i = g i) → cnt f n = cnt g n + 1
  | 0, h, _, _, _ => by omega
  | n + 1, h, h1, h2, h3 => by
    rw [cnt_succ, cnt_succ]
    by_cases e : p = n
    · subst e
      rw [h1, h2, cnt_ext p (fun i hi => h3 i (by omega) (by omega))]
      simp
    · rw [cnt_less n (by omega) h1 h2 (fun i hi => h3 i (by omega)), h3 n (by omega) (by omega)]
      omega
section
variable {k : Nat} {has : List Bool} {l : List Int}
theorem meant_lt {p : Nat} (h : meant k has l p = true) : p < has.length := by
  by_cases hp : p < has.length
  · exact hp
  · simp [meant, List.getD, List.getElem?_eq_none (Nat.le_of_not_lt hp)] at h
theorem meant_set_same (p : Nat) : meant k (has.set p true) l p = false := by
  by_cases hp : p < has.length
  · simp [meant, List.getD, hp]
  · simp [meant, List.getD, hp]
theorem meant_set_other {p i : Nat} (h : i ≠ p) : meant k (has.set p true) l i = meant k has l i := by
  simp [meant, List.getD, Ne.symm h]
/-- One of the window is taken: what is said of it, and of what is left. -/
theorem take_yes (h : 0 < frI k has l) : ∃ p : Nat, p < has.length ∧ meant k has l p = true ∧ takV k has l = (p : Int) ∧ takE k has l = 0 ∧ takS k has l = has.set p true ∧ isT (takS k has l) (p : Int) = true ∧ frI k (takS k has l) l + 1 = frI k has l ∧ ∀ i, i ≤ p → meant k (takS k has l) l i = false := by
  obtain ⟨h1, h2, h3⟩ := cnt_pos _ _ h
  refine ⟨takP k has l, h1, h2, ?_, ?_, rfl, ?_, ?_, ?_⟩
  · unfold takV; exact if_pos h1
  · unfold takE; exact if_pos h1
  · have h1' : takP k has l < has.length := h1
    unfold isT takS
    simp only [List.length_set, List.getD, Int.toNat_natCast, List.getElem?_set, h1']
    simp
    omega
  · unfold frI
    rw [takS_length]
    refine (cnt_less (p := takP k has l) has.length h1 h2 (meant_set_same _) fun i _ hi => ?_).symm
    exact (meant_set_other hi).symm
  · intro i hi
    by_cases e : i = takP k has l
    · subst e; exact meant_set_same _
    · unfold takS; rw [meant_set_other e]; exact h3 i (by have : i ≤ low _ _ := hi; have : i ≠ low _ _ := e; omega)
theorem take_no (h : frI k has l = 0) : takV k has l = 0 ∧ takE k has l = 13 ∧ takS k has l = has := by
  have h1 : takP k has l = has.length := by
    rcases low_cases (meant k has l) has.length with ⟨h1, h2, _⟩ | ⟨h1, _⟩
    · have := cnt_less (f := meant k has l) (g := fun i => meant k has l i && decide (i ≠ low (meant k has l) has.length)) has.length h1 h2 (by simp) (fun i _ hi => by simp [hi])
      unfold frI at h
      omega
    · exact h1
  refine ⟨?_, ?_, ?_⟩
  · unfold takV; exact if_neg (by omega)
  · unfold takE; exact if_neg (by omega)
  · unfold takS; rw [h1]; exact List.set_eq_of_length_le (Nat.le_refl _)
end
end Go.Proofs.YtcekpaicccmhkaaDoor
