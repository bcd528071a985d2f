/-
  What the calls of package chain do: All (a backward goto).
-/
import Derived.Test.YthndakhnhnipnaaDoorChCallsA
import Derived.ScopeJumps
namespace Go.Proofs.YthndakhnhnipnaaDoor
open Go.RowKit
open An
/-- A scope whose label is jumped back to: what stands ahead of the label, and a pass. -/
theorem wp_scope_back {P : Program} {Q : Exit → Act → World → Prop} {a : Act} {w : World} {c rest : Code} (l : Nat) (J : Act → World → Prop) (μ : Act → World → Nat) (hf : findLabel c l = some (Code.skip.seq rest))
    (pre : ∀ R : Exit → Act → World → Prop, (∀ a w, J a w → rest.wp P R a w) → c.wp P R a w)
    (pass : ∀ a w, J a w → rest.wp P (Exit.jump l (fun a' w' => J a' w' ∧ μ a' w' < μ a w) Q) a w) : (Code.scope c).wp P Q a w :=
  wp_scope_jumps l J μ hf (pre _ fun a w h => Code.wp_mono (fun e a w he => by
    cases e with
    | goto l' => exact ⟨he.1, he.2.1⟩
    | _ => exact he) (pass a w h)) fun a w h => wp_seq (wp_skip (pass a w h))
section
variable {w : World} {a c : Nat} {Z : Nat → Prop} {bs : List UInt8} {ss : List Sp} {k : Ck}
theorem InAll.load {Q : World → Nat → Nat → Ck → Prop} {T : TypeId} {n v : Nat} {t t2 : List Sp} {os : List Nat} {Zr Z2 : Nat → Prop} {wr w3 : World} {y : Value} (h : InAll Q T w c a Z bs ss k os n v t Zr y wr) (hL : Left T Q w c a Z bs t2 k Z2 w3) (hG : Gw wr w3 Zr Z2) :
    Left T Q w c a Z bs t2 k Z2 w3 ∧ w3.ownsRow w.heap.size 3 1 y (nI os).length (ic (nI os)) ∧ ∀ g, y.ownBlock = some g → ¬ Z2 g := by
  refine ⟨hL, own_turn h.row hG.fr fun x e => h.apart x e, fun g e e2 => ?_⟩
  have := (h.row.lt g e).2
  rcases hG.new g e2 with e3 | e3
  · exact h.apart g e e3
  · omega
theorem InAll.push {Q : World → Nat → Nat → Ck → Prop} (hQ : Chain1 Q) (hc : c < w.heap.size) {T : TypeId} {n x : Nat} {t : List Sp} {os : List Nat} {Z2 : Nat → Prop} {w3 w2 : World} {y : Value} (hA : Amid k bs ss os (n + 1) (x + 1) t) (hv : wd bs (k.pos x) ≤ k.per) (ht : t.length ≤ ss.length + os.length)
    (h : Left T Q w c a Z bs (t ++ [((k.pos x : Int), (8 : Int), false)]) k Z2 w3 ∧ w3.ownsRow w.heap.size 3 1 y (nI os).length (ic (nI os)) ∧ ∀ g, y.ownBlock = some g → ¬ Z2 g) {ob : Obj} {g m m2 cap : Nat}
    (hown : w2.ownsRow w.heap.size 3 1 (.slice (some ⟨g, 0, none⟩) m cap) m2 (ic (nI os ++ [(x : Int)]))) (hm : m2 = os.length + 1) (hg : (w3.alloc ob).grownBy w2 y.ownBlock) (hw : y.ownBlock = some g ∨ g = w3.heap.size + 1) :
    InAll Q T w c a Z bs ss k (os ++ [x]) n (wd bs (k.pos x)) (t ++ [((k.pos x : Int), (8 : Int), false)]) Z2 (.slice (some ⟨g, 0, none⟩) m cap) w2 := by
  obtain ⟨hL, hrow, hap⟩ := h
  have hs := hL.fr.size
  refine ⟨hA.next hv, hL.other hQ hc (S := fun i => y.ownBlock = some i) (((Fr.refl _ w3).alloc ob).grown hg fun k e => .inl e) fun i e => ⟨(hrow.lt i e).1, hap i e⟩, ?_, fun g' e => ?_, by simp only [List.length_append, List.length_singleton]; omega⟩
  · subst hm; rw [nI_snoc, List.length_append, nI_length]; exact hown
  · have : g = g' := by simpa [Value.ownBlock] using e
    subst this
    rcases hw with e | e
    · exact hap g e
    · intro e2
      have := hL.am.lt g e2
      omega
end
end Go.Proofs.YthndakhnhnipnaaDoor
