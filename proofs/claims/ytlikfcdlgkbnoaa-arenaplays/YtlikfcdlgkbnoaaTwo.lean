/-
  Two arenas side by side, the program's and the document's, and a block beside them.
-/
import Derived.Test.YtlikfcdlgkbnoaaRefB
import Derived.Test.YtlikfcdlgkbnoaaSame
namespace Go.Proofs.Ytlikfcdlgkbnoaa
open Go.RowKit

/-- Nothing that the one has is the other one's. -/
structure Sep (a1 b1 : Nat) (v1 : Value) (a2 b2 : Nat) (v2 : Value) : Prop where
  aa : a1 ≠ a2
  ab : a1 ≠ b2
  ba : b1 ≠ a2
  bb : b1 ≠ b2
  o1 : ∀ y, v1.ownBlock = some y → y ≠ a2 ∧ y ≠ b2
  o2 : ∀ y, v2.ownBlock = some y → y ≠ a1 ∧ y ≠ b1
  oo : ∀ y, v1.ownBlock = some y → v2.ownBlock ≠ some y
theorem Sep.symm {a1 b1 : Nat} {v1 : Value} {a2 b2 : Nat} {v2 : Value} (h : Sep a1 b1 v1 a2 b2 v2) : Sep a2 b2 v2 a1 b1 v1 :=
  ⟨h.aa.symm, h.ba.symm, h.ab.symm, h.bb.symm, h.o2, h.o1, fun y hy e => h.oo y e hy⟩

/-- One arena steps, the other one stays. -/
theorem step_other {w w' : World} {T1 T2 : TypeId} {B1 a1 b1 B2 a2 b2 : Nat} {bs1' bs2 : List UInt8} {ss1' ss2 : List Sp} {v1 v2 : Value}
    (h2 : Ar w T2 B2 a2 b2 bs2 v2 ss2) (hs : Sep a1 b1 v1 a2 b2 v2) (hn : Noted w w' T1 B1 a1 b1 bs1' v1 ss1') :
    ∃ v1', Ar w' T1 B1 a1 b1 bs1' v1' ss1' ∧ Ar w' T2 B2 a2 b2 bs2 v2 ss2 ∧ Sep a1 b1 v1' a2 b2 v2 ∧ Fr (fun y => y = a1 ∨ y = b1 ∨ v1.ownBlock = some y) w w' ∧ (∀ y, v1'.ownBlock = some y → v1.ownBlock = some y ∨ w.heap.size ≤ y) := by
  obtain ⟨v1', g1, f, r⟩ := hn
  have la := h2.la; have lb := h2.lb; have lB := h2.lB
  refine ⟨v1', g1, h2.carry f ?_ ?_ ?_, ⟨hs.aa, hs.ab, hs.ba, hs.bb, ?_, hs.o2, ?_⟩, f, r⟩
  · rintro (h | h | h)
    · exact hs.aa h.symm
    · exact hs.ba h.symm
    · exact (hs.o1 _ h).1 rfl
  · rintro (h | h | h)
    · exact hs.ab h.symm
    · exact hs.bb h.symm
    · exact (hs.o1 _ h).2 rfl
  · intro x hx
    rintro (h | h | h)
    · exact (hs.o2 _ hx).1 h
    · exact (hs.o2 _ hx).2 h
    · exact hs.oo _ h hx
  · intro y hy
    rcases r y hy with h | h
    · exact hs.o1 y h
    · exact ⟨by omega, by omega⟩
  · intro y hy e
    rcases r y hy with h | h
    · exact hs.oo y h e
    · have := (h2.own y e).2; omega

/-- Both arenas lie in w, made behind W; block bx holds ob, and is none of theirs. -/
def Two (W w : World) (B1 a1 b1 : Nat) (bs1 : List UInt8) (ss1 : List Sp) (B2 a2 b2 : Nat) (bs2 : List UInt8) (ss2 : List Sp) (bx : Nat) (ob : Obj) : Prop :=
  ∃ v1 v2, Ar w 61 B1 a1 b1 bs1 v1 ss1 ∧ Ar w 41 B2 a2 b2 bs2 v2 ss2 ∧ Sep a1 b1 v1 a2 b2 v2 ∧ (W.heap.size ≤ a1 ∧ W.heap.size ≤ b1 ∧ W.heap.size ≤ a2 ∧ W.heap.size ≤ b2) ∧ Fr (fun _ => False) W w ∧
    w.heap[bx]? = some ob ∧ bx ≠ a1 ∧ bx ≠ b1 ∧ bx ≠ a2 ∧ bx ≠ b2 ∧ v1.ownBlock ≠ some bx ∧ v2.ownBlock ≠ some bx

/-- The same with no block beside them. -/
def Pair (W w : World) (B1 a1 b1 : Nat) (bs1 : List UInt8) (ss1 : List Sp) (B2 a2 b2 : Nat) (bs2 : List UInt8) (ss2 : List Sp) : Prop :=
  ∃ v1 v2, Ar w 61 B1 a1 b1 bs1 v1 ss1 ∧ Ar w 41 B2 a2 b2 bs2 v2 ss2 ∧ Sep a1 b1 v1 a2 b2 v2 ∧ (W.heap.size ≤ a1 ∧ W.heap.size ≤ b1 ∧ W.heap.size ≤ a2 ∧ W.heap.size ≤ b2) ∧ Fr (fun _ => False) W w

section
variable {W w w' : World} {B1 a1 b1 B2 a2 b2 : Nat} {bs1 bs1' bs2 bs2' : List UInt8} {ss1 ss1' ss2 ss2' : List Sp} {bx : Nat} {ob : Obj}

theorem Two.pair (h : Two W w B1 a1 b1 bs1 ss1 B2 a2 b2 bs2 ss2 bx ob) : Pair W w B1 a1 b1 bs1 ss1 B2 a2 b2 bs2 ss2 := by
  obtain ⟨v1, v2, g1, g2, hs, hw, hf, _⟩ := h
  exact ⟨v1, v2, g1, g2, hs, hw, hf⟩
theorem Pair.box (h : Pair W w B1 a1 b1 bs1 ss1 B2 a2 b2 bs2 ss2) (ob : Obj) : Two W (w.alloc ob) B1 a1 b1 bs1 ss1 B2 a2 b2 bs2 ss2 w.heap.size ob := by
  obtain ⟨v1, v2, g1, g2, hs, hw, hf⟩ := h
  have f : Fr (fun _ => False) w (w.alloc ob) := (Fr.refl _ w).alloc ob
  have l1 := g1.la; have l2 := g1.lb; have l3 := g1.lB; have l4 := g2.la; have l5 := g2.lb; have l6 := g2.lB
  refine ⟨v1, v2, g1.carry f (fun h => h) (fun h => h) (fun _ _ h => h), g2.carry f (fun h => h) (fun h => h) (fun _ _ h => h), hs, hw, hf.trans f, heap_alloc_new w ob, by omega, by omega, by omega, by omega, ?_, ?_⟩
  · intro e; have := (g1.own _ e).2; omega
  · intro e; have := (g2.own _ e).2; omega
theorem Pair.fr (h : Pair W w B1 a1 b1 bs1 ss1 B2 a2 b2 bs2 ss2) (f : Fr (fun _ => False) w w') : Pair W w' B1 a1 b1 bs1 ss1 B2 a2 b2 bs2 ss2 := by
  obtain ⟨v1, v2, g1, g2, hs, hw, hf⟩ := h
  exact ⟨v1, v2, g1.carry f (fun h => h) (fun h => h) (fun _ _ h => h), g2.carry f (fun h => h) (fun h => h) (fun _ _ h => h), hs, hw, hf.trans f⟩
theorem Two.fr (h : Two W w B1 a1 b1 bs1 ss1 B2 a2 b2 bs2 ss2 bx ob) (f : Fr (fun _ => False) w w') : Two W w' B1 a1 b1 bs1 ss1 B2 a2 b2 bs2 ss2 bx ob := by
  obtain ⟨v1, v2, g1, g2, hs, hw, hf, k0, k1⟩ := h
  refine ⟨v1, v2, g1.carry f (fun h => h) (fun h => h) (fun _ _ h => h), g2.carry f (fun h => h) (fun h => h) (fun _ _ h => h), hs, hw, hf.trans f, ?_, k1⟩
  rw [f.block _ (Array.getElem?_eq_some_iff.1 k0).1 (fun h => h)]; exact k0
theorem Two.drew (h : Two W w B1 a1 b1 bs1 ss1 B2 a2 b2 bs2 ss2 bx ob) : Two W w.drew B1 a1 b1 bs1 ss1 B2 a2 b2 bs2 ss2 bx ob := h.fr (Fr.refl _ w).drew
theorem Two.cell (h : Two W w B1 a1 b1 bs1 ss1 B2 a2 b2 bs2 ss2 bx ob) : w.heap[bx]? = some ob := by
  obtain ⟨v1, v2, g1, g2, hs, hw, hf, k0, k1⟩ := h
  exact k0
theorem Two.frame (h : Two W w B1 a1 b1 bs1 ss1 B2 a2 b2 bs2 ss2 bx ob) : Fr (fun _ => False) W w := by
  obtain ⟨v1, v2, g1, g2, hs, hw, hf, k0, k1⟩ := h
  exact hf

/-- The program's arena steps. -/
theorem Two.one {v1 v2 : Value} (g1 : Ar w 61 B1 a1 b1 bs1 v1 ss1) (g2 : Ar w 41 B2 a2 b2 bs2 v2 ss2) (hs : Sep a1 b1 v1 a2 b2 v2) (hw : W.heap.size ≤ a1 ∧ W.heap.size ≤ b1 ∧ W.heap.size ≤ a2 ∧ W.heap.size ≤ b2) (hf : Fr (fun _ => False) W w)
    (k0 : w.heap[bx]? = some ob) (k1 : bx ≠ a1 ∧ bx ≠ b1 ∧ bx ≠ a2 ∧ bx ≠ b2 ∧ v1.ownBlock ≠ some bx ∧ v2.ownBlock ≠ some bx)
    (hn : Noted w w' 61 B1 a1 b1 bs1' v1 ss1') : Two W w' B1 a1 b1 bs1' ss1' B2 a2 b2 bs2 ss2 bx ob := by
  obtain ⟨v1', e1, e2, es, f, r⟩ := step_other g2 hs hn
  have l1 := g1.la
  have lt := (Array.getElem?_eq_some_iff.1 k0).1
  obtain ⟨m1, m2, m3, m4, m5, m6⟩ := k1
  refine ⟨v1', v2, e1, e2, es, hw, hf.trans' f ?_, ?_, m1, m2, m3, m4, ?_, m6⟩
  · rintro i hi (h | h | h)
    · omega
    · omega
    · have := (g1.own _ h).1; omega
  · rw [f.block bx lt (by rintro (h | h | h); exact m1 h; exact m2 h; exact m5 h)]; exact k0
  · intro e
    rcases r _ e with h | h
    · exact m5 h
    · omega
/-- The document's arena steps. -/
theorem Two.other {v1 v2 : Value} (g1 : Ar w 61 B1 a1 b1 bs1 v1 ss1) (g2 : Ar w 41 B2 a2 b2 bs2 v2 ss2) (hs : Sep a1 b1 v1 a2 b2 v2) (hw : W.heap.size ≤ a1 ∧ W.heap.size ≤ b1 ∧ W.heap.size ≤ a2 ∧ W.heap.size ≤ b2) (hf : Fr (fun _ => False) W w)
    (k0 : w.heap[bx]? = some ob) (k1 : bx ≠ a1 ∧ bx ≠ b1 ∧ bx ≠ a2 ∧ bx ≠ b2 ∧ v1.ownBlock ≠ some bx ∧ v2.ownBlock ≠ some bx)
    (hn : Noted w w' 41 B2 a2 b2 bs2' v2 ss2') : Two W w' B1 a1 b1 bs1 ss1 B2 a2 b2 bs2' ss2' bx ob := by
  obtain ⟨v2', e2, e1, es, f, r⟩ := step_other g1 hs.symm hn
  have l1 := g2.la
  have lt := (Array.getElem?_eq_some_iff.1 k0).1
  obtain ⟨m1, m2, m3, m4, m5, m6⟩ := k1
  refine ⟨v1, v2', e1, e2, es.symm, hw, hf.trans' f ?_, ?_, m1, m2, m3, m4, m5, ?_⟩
  · rintro i hi (h | h | h)
    · omega
    · omega
    · have := (g2.own _ h).1; omega
  · rw [f.block bx lt (by rintro (h | h | h); exact m3 h; exact m4 h; exact m6 h)]; exact k0
  · intro e
    rcases r _ e with h | h
    · exact m6 h
    · omega
end
end Go.Proofs.Ytlikfcdlgkbnoaa
