/-
  What was pushed so far, of blocks that were seen.
-/
import Derived.Test.YtjgkcaibapffhaaChTools
import Derived.Test.YtjgkcaibapffhaaSeen
namespace Go.Proofs.Ytjgkcaibapffhaa
open Go.RowKit
open An

/-- What was pushed so far: blocks that were seen. -/
structure PutI (k : Ck) (x U Pn N : Nat) (bs : List UInt8) (ss : List Sp) (j : Nat) (seen : List Int) (put : List Nat) : Prop where
  b : k.base = x
  u : k.unit = U
  p : k.per = Pn
  n : bs.length = N
  s : ss.length ≤ j
  ch : Ch k bs put
  seen : ∀ y ∈ put, (y : Int) ∈ seen
section
variable {k : Ck} {x U Pn N j : Nat} {bs : List UInt8} {ss : List Sp} {seen : List Int} {put : List Nat}
theorem PutI.skip (h : PutI k x U Pn N bs ss j seen put) (z : Int) : PutI k x U Pn N bs ss (j + 1) (z :: seen) put := ⟨h.b, h.u, h.p, h.n, by have := h.s; omega, h.ch, fun y hy => List.mem_cons_of_mem _ (h.seen y hy)⟩
theorem PutI.no (h : PutI k x U Pn N bs ss j seen put) {z : Int} (hz : ¬ k.Has z) : PutI (puS k z) x U Pn N (puB k bs z) (puT k ss z) (j + 1) (z :: seen) put := by
  obtain ⟨e1, e2, _⟩ := skip_pu (bs := bs) hz
  have e3 : puT k ss z = ss := if_neg hz
  rw [e1, e2, e3]
  exact h.skip z
theorem PutI.yes (h : PutI k x U Pn N bs ss j seen put) {z : Nat} (hz : z < k.per) (hn : (z : Int) ∉ seen) : PutI (puS k z) x U Pn N (puB k bs z) (puT k ss z) (j + 1) (z :: seen) (z :: put) := by
  refine ⟨?_, ?_, ?_, (puB_len h.ch.ok z).trans h.n, by have := h.s; have := puT_len (k := k) (ss := ss) z; omega, h.ch.push hz fun e => hn (h.seen z e), fun y hy => ?_⟩
  · unfold puS; split <;> exact h.b
  · unfold puS; split <;> exact h.u
  · unfold puS; split <;> exact h.p
  · simp only [List.mem_cons] at hy ⊢
    rcases hy with rfl | hy
    · exact .inl rfl
    · exact .inr (h.seen y hy)
/-- Pushed, if it wasn't seen. -/
theorem PutI.push (h : PutI k x U Pn N bs ss j seen put) {z : Int} (hn : z ∉ seen) : ∃ put', PutI (puS k z) x U Pn N (puB k bs z) (puT k ss z) (j + 1) (z :: seen) put' := by
  by_cases hz : k.Has z
  · obtain ⟨z, rfl⟩ := Int.eq_ofNat_of_zero_le hz.1
    exact ⟨_, h.yes (by omega) hn⟩
  · exact ⟨_, h.no hz⟩
theorem PutI.start {u p : Int} {plus : Nat} (h : Sizes u p U Pn N plus) (hx : x ≤ plus) : PutI ⟨x, U, Pn, 0⟩ x U Pn N (List.replicate N 0) [] 0 [] [] :=
  ⟨rfl, rfl, rfl, List.length_replicate, Nat.le_refl _, by
    have := Ch.new (x := x) (u := U) (p := Pn) (n := N) (by have := h.ok hx; rwa [List.length_replicate] at this)
    exact this, fun y hy => by simp at hy⟩
theorem PutI.eq (h : PutI k x U Pn N bs ss j seen put) : k = ⟨x, U, Pn, lnk put⟩ := by
  obtain ⟨b, u, p, hd⟩ := k
  have h1 := h.b; have h2 := h.u; have h3 := h.p; have h4 := h.ch.hd
  simp only at h1 h2 h3 h4
  subst h1 h2 h3 h4
  rfl
end
end Go.Proofs.Ytjgkcaibapffhaa
