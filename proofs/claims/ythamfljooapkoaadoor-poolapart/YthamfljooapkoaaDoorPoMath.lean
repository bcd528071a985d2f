/-
  What is granted are the lowest ones; what is kept are the lowest ones: plain mathematics. Nothing of the program is named here.
-/
import Derived.Test.YthamfljooapkoaaDoorPoBase
namespace Go.Proofs.YthamfljooapkoaaDoor

theorem setAll_get (o : Int) (d : Int) : ∀ (l : List Nat) (own : List Int) (c : Nat), c < own.length → (setAll own l o).getD c d = if c ∈ l then o else own.getD c d := by
  intro l
  induction l with
  | nil => intro own c _; simp [setAll]
  | cons i r ih =>
    intro own c hc
    have h := ih (own.set i o) c (by simpa using hc)
    have e : setAll own (i :: r) o = setAll (own.set i o) r o := rfl
    rw [e, h]
    by_cases h1 : c ∈ r
    · rw [if_pos h1, if_pos (List.mem_cons_of_mem _ h1)]
    · rw [if_neg h1]
      by_cases h2 : c = i
      · subst h2; rw [if_pos (List.mem_cons_self ..)]; simp [List.getD, hc]
      · rw [if_neg (by simp [h1, h2])]; simp [List.getD, List.getElem?_set_ne (Ne.symm h2)]
theorem wN_mem {own : List Int} {o : Int} {c : Nat} : c ∈ wN own o ↔ c < own.length ∧ own.getD c 99 = o := by
  unfold wN; rw [List.mem_filter]; simp
theorem owI_nat {own : List Int} {c : Nat} (h : c < own.length) : owI own c = own.getD c 99 := by
  unfold owI; rw [if_pos ⟨by omega, by omega⟩]; simp [List.getD, List.getElem?_eq_getElem h]
theorem rises_lt {l : List Nat} (h : l.Pairwise (· < ·)) {i j : Nat} (hi : i < l.length) (hj : j < l.length) (hij : i < j) : l[i] < l[j] := List.pairwise_iff_getElem.1 h i j hi hj hij
/-- Behind a grant, all below the last one that was granted have an owner. -/
theorem low_granted {own : List Int} {o k : Int} (ho : Ow o) {m : Nat} (hm : m < (grL own o k).length) {c : Nat} (hc : c < (grL own o k)[m]) : owI (grS own o k) c ≠ -1 := by
  unfold Ow at ho
  unfold grS
  have hL : grL own o k = (wN own (-1)).take k.toNat := by
    unfold grL at hm ⊢
    split
    · rfl
    · rename_i h; rw [if_neg h] at hm; simp at hm
  generalize hl : grL own o k = L at *
  have hlast : L[m] ∈ wN own (-1) := by
    subst hL
    exact List.mem_of_mem_take (List.getElem_mem hm)
  have hcl : c < own.length := Nat.lt_trans hc (wN_lt hlast)
  rw [owI_nat (by rw [setAll_length]; exact hcl), setAll_get _ _ _ _ _ hcl]
  by_cases h1 : c ∈ L
  · rw [if_pos h1]; omega
  · rw [if_neg h1]
    intro e
    apply h1
    have h2 : c ∈ wN own (-1) := wN_mem.2 ⟨hcl, e⟩
    obtain ⟨i, hi, hci⟩ := List.mem_iff_getElem.1 h2
    have hm2 : m < (wN own (-1)).length := by rw [hL, List.length_take] at hm; omega
    have e2 : L[m] = (wN own (-1))[m] := by subst hL; rw [List.getElem_take]
    have him : i < m := by
      rcases Nat.lt_or_ge i m with h | h
      · exact h
      · exfalso
        rcases Nat.lt_or_eq_of_le h with h | h
        · have := rises_lt (wN_rises own (-1)) hm2 hi h; omega
        · subst h; omega
    have hik : i < k.toNat := by rw [hL, List.length_take] at hm; omega
    rw [hL, ← hci]
    exact List.mem_iff_getElem.2 ⟨i, by rw [List.length_take]; omega, by rw [List.getElem_take]⟩
theorem take_drop_apart {l : List Nat} (h : l.Pairwise (· < ·)) (k : Nat) : ∀ x ∈ l.take k, x ∉ l.drop k := by
  intro x h1 h2
  obtain ⟨i, hi, rfl⟩ := List.mem_iff_getElem.1 h1
  obtain ⟨j, hj, e⟩ := List.mem_iff_getElem.1 h2
  rw [List.length_take] at hi
  rw [List.length_drop] at hj
  rw [List.getElem_drop, List.getElem_take] at e
  have := rises_lt h (i := i) (j := k + j) (by omega) (by omega) (by omega)
  omega
/-- Who is shrunk keeps its lowest ones. -/
theorem kept_low {own : List Int} {o : Int} {k : Nat} (ho : Ow o) (hk : k ≤ (wN own o).length) : wN (shS own o k) o = (wN own o).take k := by
  unfold Ow at ho
  have hL : shL own o k = (wN own o).drop k := by unfold shL; rw [if_pos ⟨⟨by unfold Ow; omega, by omega⟩, by omega⟩]; rfl
  unfold shS
  rw [hL]
  have h1 : wN (setAll own ((wN own o).drop k) (-1)) o = (wN own o).filter fun i => decide (i ∉ (wN own o).drop k) := by
    generalize (wN own o).drop k = D
    unfold wN
    rw [setAll_length, List.filter_filter]
    apply List.filter_congr
    intro i hi
    rw [List.mem_range] at hi
    rw [setAll_get _ _ _ _ _ hi]
    by_cases h : i ∈ D
    · rw [if_pos h, decide_eq_false (fun e => e h), Bool.false_and]
      exact beq_false_of_ne (by omega)
    · rw [if_neg h, decide_eq_true h, Bool.true_and]
  rw [h1]
  conv => lhs; rw [← List.take_append_drop k (wN own o)]
  rw [List.filter_append]
  have h2 : ((wN own o).take k).filter (fun i => decide (i ∉ (wN own o).drop k)) = (wN own o).take k := List.filter_eq_self.2 fun x hx => by simpa using take_drop_apart (wN_rises own o) k x hx
  have h3 : ((wN own o).drop k).filter (fun i => decide (i ∉ (wN own o).drop k)) = [] := List.filter_eq_nil_iff.2 fun x hx => by simpa using hx
  simp only [List.take_append_drop]
  rw [h2, h3, List.append_nil]
theorem grE_cases (own : List Int) (o k : Int) : grE own o k = 0 ∨ grE own o k = 9 ∨ grE own o k = 12 := by
  unfold grE
  split
  · split
    · exact .inl rfl
    · exact .inr (.inl rfl)
  · exact .inr (.inr rfl)
theorem shS_len (own : List Int) (o k : Int) : (shS own o k).length = own.length := setAll_length _ _ _
theorem grS_len (own : List Int) (o k : Int) : (grS own o k).length = own.length := setAll_length _ _ _
end Go.Proofs.YthamfljooapkoaaDoor
