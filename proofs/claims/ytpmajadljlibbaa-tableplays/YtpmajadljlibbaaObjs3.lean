/-
  More of things side by side: one takes another one's place. Nothing of the program is named here.
-/
import Derived.Test.YtpmajadljlibbaaObjs1
namespace Go.Proofs.Ytpmajadljlibbaa
open Go.RowKit

theorem set_same {α : Type} {ts : List α} {i : Nat} {x : α} (h : ts[i]? = some x) : ts.set i x = ts := by
  apply List.ext_getElem?
  intro m
  rw [List.getElem?_set]
  by_cases e : i = m
  · subst e; rw [if_pos rfl, if_pos (List.getElem?_eq_some_iff.1 h).1, h]
  · rw [if_neg e]
theorem set_other {α : Type} {ts : List α} {i j : Nat} {x R : α} (h : i ≠ j) (hi : ts[i]? = some x) : (ts.set j R)[i]? = some x := by rw [List.getElem?_set_ne (Ne.symm h)]; exact hi
theorem cellO {w : World} {B : Nat} {x : Value} {T : TypeId} (h : w.heap[B]? = some (.cells #[x] T (0, 0))) : w.cell? ⟨B, 0, none⟩ = some x ∧ w.frozen? ⟨B, 0, none⟩ = false := ⟨by simp [World.cell?, h], by simp [World.frozen?, h]⟩
theorem append_at {α : Type} {ts : List α} {i : Nat} {x R : α} (hi : ts[i]? = some x) : (ts ++ [R])[i]? = some x := by rw [List.getElem?_append_left (List.getElem?_eq_some_iff.1 hi).1]; exact hi
theorem set_last {α : Type} (ts : List α) (x y : α) : (ts ++ [x]).set ts.length y = ts ++ [y] := by simp
/-- The last one takes the place of another one. -/
theorem Things.takeLast {W w : World} {ts : List (World → (Nat → Prop) → Prop)} {R : World → (Nat → Prop) → Prop} (h : Things W w (ts ++ [R])) (j : Nat) : Things W w (ts.set j R) := by
  classical
  by_cases hj : j < ts.length
  case neg =>
    have e : ts.set j R = ts := List.set_eq_of_length_le (by omega)
    rw [e]
    exact Things.less h
  obtain ⟨o, h1, h2, h3, h4⟩ := h
  have hb : ∀ i, o i ≤ ts.length + 1 := fun i => by have := h2 i; simpa using this
  refine ⟨fun i => if o i = ts.length + 1 then j + 1 else if o i = j + 1 then 0 else o i, ⟨h1.nw, fun i hi => ?_⟩, fun i => ?_, fun Q hQ => ?_, fun m Q hm => ?_⟩
  · refine h1.dom i fun e => hi ?_
    simp [e]
  · rw [List.length_set]
    show (if o i = ts.length + 1 then j + 1 else if o i = j + 1 then 0 else o i) ≤ ts.length
    have := hb i
    split
    · omega
    · split <;> omega
  · rcases List.mem_or_eq_of_mem_set hQ with e | rfl
    · exact h3 Q (List.mem_append_left _ e)
    · exact h3 Q (by simp)
  · rw [List.getElem?_set] at hm
    split at hm
    case isTrue e =>
      subst e
      simp only [Option.some.injEq] at hm
      subst hm
      have hG := h3 R (by simp)
      have hp := h4 ts.length R (by simp)
      refine hG.mono hp (fun i hi => ?_) fun i hi => ?_
      · have h5 : o i = ts.length + 1 := hi
        show (if o i = ts.length + 1 then j + 1 else if o i = j + 1 then 0 else o i) = j + 1
        rw [if_pos h5]
      · have h5 : (if o i = ts.length + 1 then j + 1 else if o i = j + 1 then 0 else o i) = j + 1 := hi
        refine (h1.dom i fun e => ?_).2
        simp [e] at h5
    case isFalse e =>
      have hml := (List.getElem?_eq_some_iff.1 hm).1
      have hG := h3 Q (List.mem_append_left _ (List.mem_of_getElem? hm))
      have hp := h4 m Q (by rw [List.getElem?_append_left hml]; exact hm)
      refine hG.mono hp (fun i hi => ?_) fun i hi => ?_
      · have h5 : o i = m + 1 := hi
        show (if o i = ts.length + 1 then j + 1 else if o i = j + 1 then 0 else o i) = m + 1
        rw [if_neg (by omega), if_neg (by omega)]; exact h5
      · have h5 : (if o i = ts.length + 1 then j + 1 else if o i = j + 1 then 0 else o i) = m + 1 := hi
        refine (h1.dom i fun e => ?_).2
        simp [e] at h5
end Go.Proofs.Ytpmajadljlibbaa
