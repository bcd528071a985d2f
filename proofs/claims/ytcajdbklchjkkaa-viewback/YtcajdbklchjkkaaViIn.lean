/-
  A thing that has come in, and all that was there beside it: as things side by side.
-/
import Derived.Test.YtcajdbklchjkkaaObjs1
namespace Go.Proofs.Ytcajdbklchjkkaa
open Go.RowKit

/-- The world with nothing in it. -/
def Bare (w : World) : World := { w with heap := #[] }
theorem Bare.nw (w : World) : Nw (Bare w) w := ⟨rfl, rfl, rfl, Nat.zero_le _, fun i hi => by simp [Bare] at hi⟩
/-- All that was in w but for Z, as it was. -/
def Old (w : World) (Z : Nat → Prop) (w' : World) (U : Nat → Prop) : Prop := w.heap.size ≤ w'.heap.size ∧ (∀ i, i < w.heap.size → ¬ Z i → U i ∧ w'.heap[i]? = w.heap[i]?) ∧ ∀ i, U i → i < w'.heap.size
theorem Old.good (w : World) (Z : Nat → Prop) : Good (Old w Z) :=
  ⟨fun ⟨h0, h1, h2⟩ f hs => ⟨Nat.le_trans h0 f.size, fun i hi hn => ⟨(h1 i hi hn).1, (f.block i (h2 i (h1 i hi hn).1) (hs i (h1 i hi hn).1)).trans (h1 i hi hn).2⟩, fun i hi => Nat.lt_of_lt_of_le (h2 i hi) f.size⟩,
   fun ⟨h0, h1, _⟩ k1 k2 => ⟨h0, fun i hi hn => ⟨k1 i (h1 i hi hn).1, (h1 i hi hn).2⟩, k2⟩⟩
theorem Things.begin {w : World} {P : World → (Nat → Prop) → Prop} {Z : Nat → Prop} (hP : Good P) (hp : P w Z) (hz : ∀ i, Z i → i < w.heap.size) : Things (Bare w) w [P, Old w Z] := by
  classical
  refine ⟨fun i => if Z i then 1 else if i < w.heap.size then 2 else 0, ⟨Bare.nw w, fun i hi => ⟨Nat.zero_le _, ?_⟩⟩, fun i => ?_, fun R hR => ?_, fun j R hj => ?_⟩
  · by_cases h1 : Z i
    · exact hz i h1
    · by_cases h2 : i < w.heap.size
      · exact h2
      · simp [h1, h2] at hi
  · show (if Z i then 1 else if i < w.heap.size then 2 else 0) ≤ 2
    split
    · omega
    · split <;> omega
  · simp only [List.mem_cons, List.not_mem_nil, or_false] at hR
    rcases hR with rfl | rfl
    · exact hP
    · exact Old.good w Z
  · rcases j with _ | _ | j
    · simp only [List.getElem?_cons_zero, Option.some.injEq] at hj
      subst hj
      refine hP.mono hp (fun i hi => by simp [lab, hi]) fun i hi => ?_
      by_cases h1 : Z i
      · exact hz i h1
      · exfalso
        simp only [lab, if_neg h1] at hi
        split at hi <;> omega
    · simp only [Nat.zero_add, List.getElem?_cons_succ, List.getElem?_cons_zero, Option.some.injEq] at hj
      subst hj
      refine ⟨Nat.le_refl _, fun i hi hn => ⟨by simp [lab, hi, hn], rfl⟩, fun i hi => ?_⟩
      by_cases h1 : Z i
      · exact hz i h1
      · by_cases h2 : i < w.heap.size
        · exact h2
        · simp [lab, h1, h2] at hi
    · simp at hj
theorem Things.finish {w w' : World} {P : World → (Nat → Prop) → Prop} {Z : Nat → Prop} {ts : List (World → (Nat → Prop) → Prop)} (h : Things (Bare w) w' (P :: Old w Z :: ts)) (hz : ∀ i, Z i → i < w.heap.size) : ∃ Z', P w' Z' ∧ Gw w w' Z Z' := by
  obtain ⟨o, h1, h2, h3, h4⟩ := h
  have hP := h4 0 P rfl
  obtain ⟨s1, s2, s3⟩ := h4 1 _ rfl
  have hg := h3 P (List.mem_cons_self ..)
  have hlt : ∀ i, (lab o 1 i ∨ Z i) → i < w'.heap.size := fun i hi => by
    rcases hi with hi | hi
    · exact h1.lt (j := 1) (by omega) i hi
    · exact Nat.lt_of_lt_of_le (hz i hi) s1
  refine ⟨fun i => lab o 1 i ∨ Z i, hg.mono hP (fun _ => .inl) hlt, ⟨fun _ => .inr, fun i hi => ?_, hlt, ⟨h1.nw.os, h1.nw.tape, h1.nw.output, s1, fun i hi hn => (s2 i hi hn).2⟩⟩⟩
  rcases hi with hi | hi
  · by_cases h5 : i < w.heap.size
    · by_cases h6 : Z i
      · exact .inl h6
      · have e2 := (s2 i h5 h6).1
        unfold lab at hi e2
        omega
    · exact .inr (by omega)
  · exact .inl hi
end Go.Proofs.Ytcajdbklchjkkaa
