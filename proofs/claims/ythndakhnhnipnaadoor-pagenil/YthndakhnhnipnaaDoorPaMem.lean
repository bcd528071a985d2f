/-
  The document's page in memory.
-/
import Derived.Test.YthndakhnhnipnaaDoorChRef
import Derived.Test.YthndakhnhnipnaaDoorClRef
import Derived.Test.YthndakhnhnipnaaDoorPaBase
namespace Go.Proofs.YthndakhnhnipnaaDoor
open Go.RowKit
open An

/-- Two things as one. -/
def Both (P Q : World → (Nat → Prop) → Prop) (w : World) (U : Nat → Prop) : Prop := ∃ Z Y, P w Z ∧ Q w Y ∧ (∀ i, Z i → ¬ Y i) ∧ (∀ i, Z i → U i) ∧ (∀ i, Y i → U i) ∧ ∀ i, U i → i < w.heap.size
theorem Both.good {P Q : World → (Nat → Prop) → Prop} (hP : Good P) (hQ : Good Q) : Good (Both P Q) :=
  ⟨fun ⟨Z, Y, h1, h2, h3, h4, h5, h6⟩ f hs => ⟨Z, Y, hP.carry h1 f fun i hi => hs i (h4 i hi), hQ.carry h2 f fun i hi => hs i (h5 i hi), h3, h4, h5, fun i hi => Nat.lt_of_lt_of_le (h6 i hi) f.size⟩,
   fun ⟨Z, Y, h1, h2, h3, h4, h5, _⟩ k1 k2 => ⟨Z, Y, h1, h2, h3, fun i hi => k1 i (h4 i hi), fun i hi => k1 i (h5 i hi), k2⟩⟩
/-- A page's cells. -/
def pgc (r : Nat) (at_ of_ fresh : Int) (hd : List Bool) (rd wt : Nat) : List Value := [.pointer (some ⟨r, 0, none⟩), .int .i64 at_, .int .i64 of_, .int .i64 fresh] ++ (hd.map Value.bool ++ [.pointer (some ⟨rd, 0, none⟩), .pointer (some ⟨wt, 0, none⟩)])
structure Rw12 (w : World) (p r : Nat) (at_ of_ fresh : Int) (hd : List Bool) (rd wt : Nat) : Prop where
  st : w.heap[p]? = some (.cells (pgc r at_ of_ fresh hd rd wt).toArray 49 (0, 0))
  len : hd.length = 32
section
variable {w w' : World} {p r rd wt : Nat} {at_ of_ fresh : Int} {hd : List Bool}
theorem Rw12.lt (h : Rw12 w p r at_ of_ fresh hd rd wt) : p < w.heap.size := (Array.getElem?_eq_some_iff.1 h.st).1
theorem Rw12.carry {S : Nat → Prop} (h : Rw12 w p r at_ of_ fresh hd rd wt) (f : Fr S w w') (hn : ¬ S p) : Rw12 w' p r at_ of_ fresh hd rd wt := ⟨by rw [f.block p h.lt hn]; exact h.st, h.len⟩
theorem Rw12.cell (h : Rw12 w p r at_ of_ fresh hd rd wt) (j : Nat) : w.cell? ⟨p, j, none⟩ = (pgc r at_ of_ fresh hd rd wt)[j]? := by simp [World.cell?, h.st]
theorem Rw12.c0 (h : Rw12 w p r at_ of_ fresh hd rd wt) : w.cell? ⟨p, 0, none⟩ = some (.pointer (some ⟨r, 0, none⟩)) := by rw [h.cell]; rfl
theorem Rw12.c1 (h : Rw12 w p r at_ of_ fresh hd rd wt) : w.cell? ⟨p, 1, none⟩ = some (.int .i64 at_) := by rw [h.cell]; rfl
theorem Rw12.c2 (h : Rw12 w p r at_ of_ fresh hd rd wt) : w.cell? ⟨p, 2, none⟩ = some (.int .i64 of_) := by rw [h.cell]; rfl
theorem Rw12.c3 (h : Rw12 w p r at_ of_ fresh hd rd wt) : w.cell? ⟨p, 3, none⟩ = some (.int .i64 fresh) := by rw [h.cell]; rfl
theorem Rw12.had (h : Rw12 w p r at_ of_ fresh hd rd wt) (j : Nat) (hj : j < 32) : w.cell? ⟨p, 4 + j, none⟩ = some (.bool (hd[j]'(by rw [h.len]; exact hj))) := by
  have hl := h.len
  rw [h.cell]
  unfold pgc
  rw [List.getElem?_append_right (by simp)]
  simp only [List.length_cons, List.length_nil, Nat.zero_add, Nat.reduceAdd, Nat.add_sub_cancel_left]
  rw [List.getElem?_append_left (by simp; omega)]
  simp [hl, hj]
theorem Rw12.c36 (h : Rw12 w p r at_ of_ fresh hd rd wt) : w.cell? ⟨p, 36, none⟩ = some (.pointer (some ⟨rd, 0, none⟩)) := by
  have hl := h.len
  rw [h.cell]
  unfold pgc
  rw [List.getElem?_append_right (by simp), List.getElem?_append_right (by simp; omega)]
  simp [hl]
theorem Rw12.c37 (h : Rw12 w p r at_ of_ fresh hd rd wt) : w.cell? ⟨p, 37, none⟩ = some (.pointer (some ⟨wt, 0, none⟩)) := by
  have hl := h.len
  rw [h.cell]
  unfold pgc
  rw [List.getElem?_append_right (by simp), List.getElem?_append_right (by simp; omega)]
  simp [hl]
theorem Rw12.fz (h : Rw12 w p r at_ of_ fresh hd rd wt) (j : Nat) : w.frozen? ⟨p, j, none⟩ = false := by simp [World.frozen?, h.st]
theorem Rw12.setFresh (h : Rw12 w p r at_ of_ fresh hd rd wt) (x : Int) : Rw12 (w.setCell ⟨p, 3, none⟩ (.int .i64 x)) p r at_ of_ x hd rd wt := ⟨by simp [World.setCell, Array.getElem?_modify, h.st, pgc], h.len⟩
theorem Rw12.setAt (h : Rw12 w p r at_ of_ fresh hd rd wt) (x : Int) : Rw12 (w.setCell ⟨p, 1, none⟩ (.int .i64 x)) p r x of_ fresh hd rd wt := ⟨by simp [World.setCell, Array.getElem?_modify, h.st, pgc], h.len⟩
theorem Rw12.setHad (h : Rw12 w p r at_ of_ fresh hd rd wt) (j : Nat) (hj : j < 32) (b : Bool) : Rw12 (w.setCell ⟨p, 4 + j, none⟩ (.bool b)) p r at_ of_ fresh (hd.set j b) rd wt := by
  have hl := h.len
  refine ⟨?_, by rw [List.length_set]; exact h.len⟩
  have e : (pgc r at_ of_ fresh (hd.set j b) rd wt) = (pgc r at_ of_ fresh hd rd wt).set (4 + j) (.bool b) := by
    unfold pgc
    rw [List.set_append_right _ _ (by simp), List.map_set, List.set_append_left _ _ (by simp; omega)]
    simp
  rw [e]
  simp [World.setCell, Array.getElem?_modify, h.st]
end
end Go.Proofs.YthndakhnhnipnaaDoor
