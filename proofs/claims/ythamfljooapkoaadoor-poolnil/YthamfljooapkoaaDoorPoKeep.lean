/-
  Lists that were answered, and lie in no block of the pool's.
-/
import Derived.Test.YthamfljooapkoaaDoorPoMem
namespace Go.Proofs.YthamfljooapkoaaDoor
open Go.RowKit

/-- A list that lies in no block of Z. -/
structure Kp (w : World) (Z : Nat → Prop) (ad : Option Addr) (l : List Int) : Prop where
  at_ : NumsAt w ad l
  off : Off Z ad l
theorem Kp.on {w w' : World} {Z Z' : Nat → Prop} {ad : Option Addr} {l : List Int} (h : Kp w Z ad l) (f : Fr Z w w') (hz : ∀ i, Z' i → Z i ∨ w.heap.size ≤ i) : Kp w' Z' ad l :=
  ⟨h.at_.carry f h.off, fun b off e h0 hb => by
    obtain ⟨b', off', h1, h2, _⟩ := h.at_ 0 h0
    rw [e] at h1
    simp only [Option.some.injEq, Addr.mk.injEq, and_true] at h1
    rcases hz b hb with k | k
    · exact h.off b off e h0 k
    · omega⟩
theorem Kp.kept {w w' : World} {Z : Nat → Prop} {ad : Option Addr} {l : List Int} (h : Kp w Z ad l) (f : Fr (fun _ => False) w w') : Kp w' Z ad l := ⟨h.at_.fr f, h.off⟩
/-- The answer is a list that is new, and in no block of Z. -/
def LsK (W w : World) (Z : Nat → Prop) (l : List Int) (E : Int) (e : Ending) : Prop := ∃ ad cap, e = .returned (.tuple #[.slice ad l.length cap, .int .i64 E]) ∧ Kp w Z ad l ∧ ∀ b off, ad = some ⟨b, off, none⟩ → W.heap.size ≤ b
def LsW (W w : World) (Z : Nat → Prop) (l : List Int) (e : Ending) : Prop := ∃ ad cap, e = .returned (.slice ad l.length cap) ∧ Kp w Z ad l ∧ (∀ b off, ad = some ⟨b, off, none⟩ → W.heap.size ≤ b) ∧ l.length ≤ cap
end Go.Proofs.YthamfljooapkoaaDoor
