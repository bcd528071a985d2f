/-
  What a quota takes: plain mathematics off the document. Nothing of the program is named here.
-/
import Derived.Test.YtcfeeeloceeicaaDoorClBase
namespace Go.Proofs.YtcfeeeloceeicaaDoor

/-- May it be a quota? -/
abbrev May (q : Int) : Prop := 1 ≤ q ∧ q ≤ 65536
/-- Pages of a small kind. -/
def byI (c q : Int) : Int := if 0 ≤ c ∧ c ≤ 7 ∧ May q then (q / unitI c + perI c - 1) / perI c else 0
/-- Pages of runs. -/
def runsI (q : Int) : Int := if May q then q / 512 else 0
/-- The small kinds' pages, of the first k kinds. -/
def sumBy (q : Int) : Nat → Int
  | 0 => 0
  | k + 1 => sumBy q k + byI k q
/-- All together. -/
def takesI (q : Int) : Int := sumBy q 8 + runsI q

theorem fin8 (c : Int) (h0 : 0 ≤ c) (h1 : c ≤ 7) : c = 0 ∨ c = 1 ∨ c = 2 ∨ c = 3 ∨ c = 4 ∨ c = 5 ∨ c = 6 ∨ c = 7 := by omega
theorem small_unit (c : Int) (h0 : 0 ≤ c) (h1 : c ≤ 7) : 16 ≤ unitI c ∧ unitI c ≤ 256 ∧ 2 ≤ perI c ∧ perI c ≤ 32 ∧ perI c * unitI c ≤ 512 := by
  rcases fin8 c h0 h1 with rfl | rfl | rfl | rfl | rfl | rfl | rfl | rfl <;> decide
theorem byI_out (c q : Int) (h : ¬ (0 ≤ c ∧ c ≤ 7 ∧ May q)) : byI c q = 0 := by unfold byI; rw [if_neg h]
theorem byI_in (c q : Int) (h0 : 0 ≤ c) (h1 : c ≤ 7) (hq : May q) : byI c q = (q / unitI c + perI c - 1) / perI c := by unfold byI; rw [if_pos ⟨h0, h1, hq⟩]
/-- So many pages are enough, one fewer is not. -/
theorem byI_spec (c q : Int) (h0 : 0 ≤ c) (h1 : c ≤ 7) (hq : May q) : q / unitI c ≤ byI c q * perI c ∧ (byI c q - 1) * perI c < q / unitI c + 0 * perI c ∨ (byI c q = 0 ∧ q / unitI c = 0) := by
  obtain ⟨_, _, p1, _, _⟩ := small_unit c h0 h1
  have hk : 0 ≤ q / unitI c := Int.ediv_nonneg (by unfold May at hq; omega) (by omega)
  rw [byI_in c q h0 h1 hq]
  generalize q / unitI c = k at *
  generalize perI c = p at *
  have hp : 0 < p := by omega
  have e := Int.emod_add_mul_ediv (k + p - 1) p
  have r0 := Int.emod_nonneg (k + p - 1) (show p ≠ 0 by omega)
  have r1 := Int.emod_lt_of_pos (k + p - 1) hp
  generalize (k + p - 1) / p = z at *
  generalize (k + p - 1) % p = r at *
  rw [Int.mul_comm] at e
  have e2 : (z - 1) * p = z * p - p := by rw [Int.sub_mul, Int.one_mul]
  left
  rw [e2]
  generalize z * p = zp at *
  omega
theorem byI_nonneg (c q : Int) : 0 ≤ byI c q := by
  by_cases h : 0 ≤ c ∧ c ≤ 7 ∧ May q
  · obtain ⟨_, _, p1, _, _⟩ := small_unit c h.1 h.2.1
    rw [byI_in c q h.1 h.2.1 h.2.2]
    have hk : 0 ≤ q / unitI c := Int.ediv_nonneg (by have := h.2.2; unfold May at this; omega) (by omega)
    exact Int.ediv_nonneg (by omega) (by omega)
  · rw [byI_out c q h]; exact Int.le_refl _
/-- If so many whole pages and one block more have room in the quota, there are more pages than those. -/
theorem byI_more (c q n : Int) (h0 : 0 ≤ c) (h1 : c ≤ 7) (hq : May q) (h : (n * perI c + 1) * unitI c ≤ q) : n + 1 ≤ byI c q := by
  obtain ⟨u1, _, p1, _, _⟩ := small_unit c h0 h1
  have hk : n * perI c + 1 ≤ q / unitI c := (Int.le_ediv_iff_mul_le (by omega)).2 h
  rw [byI_in c q h0 h1 hq]
  refine (Int.le_ediv_iff_mul_le (by omega)).2 ?_
  rw [Int.add_mul, Int.one_mul]
  omega
theorem byI_more' (c q n : Int) (h0 : 0 ≤ c) (h1 : c ≤ 7) (hq : May q) (h : n * perI c < q / unitI c) : n + 1 ≤ byI c q := by
  obtain ⟨u1, _, p1, _, _⟩ := small_unit c h0 h1
  rw [byI_in c q h0 h1 hq]
  refine (Int.le_ediv_iff_mul_le (by omega)).2 ?_
  rw [Int.add_mul, Int.one_mul]
  omega
theorem byI_le (c q n : Int) (h0 : 0 ≤ c) (h1 : c ≤ 7) (hq : May q) (h : q / unitI c ≤ n * perI c) : byI c q ≤ n := by
  obtain ⟨u1, _, p1, _, _⟩ := small_unit c h0 h1
  rw [byI_in c q h0 h1 hq]
  have : (q / unitI c + perI c - 1) / perI c < n + 1 := (Int.ediv_lt_iff_lt_mul (by omega)).2 (by rw [Int.add_mul, Int.one_mul]; omega)
  omega
theorem byI_enough (c q : Int) (h0 : 0 ≤ c) (h1 : c ≤ 7) (hq : May q) : q / unitI c ≤ byI c q * perI c := by
  obtain ⟨u1, _, p1, _, _⟩ := small_unit c h0 h1
  rcases byI_spec c q h0 h1 hq with h | h
  · exact h.1
  · rw [h.1, h.2]; omega
theorem byI_small (c q : Int) : byI c q ≤ 4096 := by
  by_cases h : 0 ≤ c ∧ c ≤ 7 ∧ May q
  · obtain ⟨u1, _, p1, _, _⟩ := small_unit c h.1 h.2.1
    refine byI_le c q 4096 h.1 h.2.1 h.2.2 ?_
    have hq := h.2.2
    unfold May at hq
    have : q / unitI c ≤ q / 16 := by
      refine (Int.le_ediv_iff_mul_le (by decide)).2 ?_
      have e := Int.ediv_mul_le q (show unitI c ≠ 0 by omega)
      have k0 : 0 ≤ q / unitI c := Int.ediv_nonneg (by omega) (by omega)
      have := Int.mul_le_mul_of_nonneg_left u1 k0
      omega
    omega
  · rw [byI_out c q h]; decide
theorem byI_mono (c a b : Int) (ha : May a) (hb : May b) (h : a ≤ b) : byI c a ≤ byI c b := by
  by_cases hc : 0 ≤ c ∧ c ≤ 7
  · obtain ⟨u1, _, p1, _, _⟩ := small_unit c hc.1 hc.2
    refine byI_le c a _ hc.1 hc.2 ha ?_
    exact Int.le_trans (Int.ediv_le_ediv (by omega) h) (byI_enough c b hc.1 hc.2 hb)
  · rw [byI_out c a (fun k => hc ⟨k.1, k.2.1⟩), byI_out c b (fun k => hc ⟨k.1, k.2.1⟩)]; exact Int.le_refl _
theorem sumBy_nonneg (q : Int) : ∀ k, 0 ≤ sumBy q k
  | 0 => Int.le_refl _
  | k + 1 => by have h1 := sumBy_nonneg q k; have h2 := byI_nonneg k q; simp only [sumBy]; omega
theorem sumBy_small (q : Int) : ∀ k : Nat, sumBy q k ≤ 4096 * k
  | 0 => by simp [sumBy]
  | k + 1 => by have h1 := sumBy_small q k; have h2 := byI_small k q; simp only [sumBy]; omega
theorem sumBy_mono (a b : Int) (ha : May a) (hb : May b) (h : a ≤ b) : ∀ k, sumBy a k ≤ sumBy b k
  | 0 => Int.le_refl _
  | k + 1 => by have h1 := sumBy_mono a b ha hb h k; have h2 := byI_mono k a b ha hb h; simp only [sumBy]; omega
theorem sumBy_part (q : Int) : ∀ (k j : Nat), j < k → byI j q ≤ sumBy q k
  | 0, _, h => by omega
  | k + 1, j, h => by
    have h2 := byI_nonneg k q
    have h3 := sumBy_nonneg q k
    simp only [sumBy]
    by_cases e : j = k
    · subst e; omega
    · have := sumBy_part q k j (by omega); omega
theorem runsI_range (q : Int) : 0 ≤ runsI q ∧ runsI q ≤ 128 := by
  unfold runsI
  by_cases h : May q
  · rw [if_pos h]; unfold May at h; omega
  · rw [if_neg h]; decide
theorem takesI_range (q : Int) : 0 ≤ takesI q ∧ takesI q ≤ 40000 := by
  have h1 := sumBy_nonneg q 8
  have h2 := sumBy_small q 8
  have h3 := runsI_range q
  unfold takesI
  omega
theorem takesI_mono (a b : Int) (ha : May a) (hb : May b) (h : a ≤ b) : takesI a ≤ takesI b := by
  have h1 := sumBy_mono a b ha hb h 8
  unfold takesI runsI
  rw [if_pos ha, if_pos hb]
  have : a / 512 ≤ b / 512 := Int.ediv_le_ediv (by decide) h
  omega
theorem sumBy_out (q : Int) (h : ¬ May q) : ∀ k, sumBy q k = 0
  | 0 => rfl
  | k + 1 => by simp only [sumBy, sumBy_out q h k, byI_out k q (fun e => h e.2.2)]; rfl
theorem takesI_out (q : Int) (h : ¬ May q) : takesI q = 0 := by
  unfold takesI runsI
  rw [sumBy_out q h, if_neg h]; rfl
/-- What Of answers. -/
def quA (q : Int) : Int := if May q then q else 0
def quE (q : Int) : Int := if May q then 0 else 12
theorem qu_yes {q : Int} (h : May q) : quA q = q ∧ quE q = 0 := by simp [quA, quE, h]
theorem qu_no {q : Int} (h : ¬ May q) : quA q = 0 ∧ quE q = 12 ∧ takesI q = 0 := by simp [quA, quE, h, takesI_out q h]
end Go.Proofs.YtcfeeeloceeicaaDoor
