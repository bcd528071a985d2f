/-
  The document's pool in memory.
-/
import Derived.Test.YthamfljooapkoaaDoorLists
import Derived.Test.YthamfljooapkoaaDoorPoBase
namespace Go.Proofs.YthamfljooapkoaaDoor
open Go.RowKit

def nI (l : List Nat) : List Int := l.map fun n : Nat => (n : Int)
theorem nI_length (l : List Nat) : (nI l).length = l.length := by simp [nI]
/-- In w there lies a pool of the document's at block r: its numbers lie in block t. -/
structure Rp (w : World) (r t : Nat) (own : List Int) : Prop where
  st : w.heap[r]? = some (.cells #[.slice (some ⟨t, 0, none⟩) own.length own.length] 55 (0, 0))
  row : w.heap[t]? = some (.cells (ic own).toArray 3 (0, 0))
  ne : r ≠ t
  own : Own own
section
variable {w w' : World} {r t : Nat} {own : List Int}
theorem Rp.c0 (h : Rp w r t own) : w.cell? ⟨r, 0, none⟩ = some (.slice (some ⟨t, 0, none⟩) own.length own.length) := by simp [World.cell?, h.st]
theorem Rp.ct (h : Rp w r t own) (j : Nat) (hj : j < own.length) : w.cell? ⟨t, j, none⟩ = some (.int .i64 own[j]) := by simp [World.cell?, h.row, ic, hj]
theorem Rp.ft (h : Rp w r t own) (j : Nat) : w.frozen? ⟨t, j, none⟩ = false := row_frozen h.row j
theorem Rp.ltr (h : Rp w r t own) : r < w.heap.size := (Array.getElem?_eq_some_iff.1 h.st).1
theorem Rp.ltt (h : Rp w r t own) : t < w.heap.size := (Array.getElem?_eq_some_iff.1 h.row).1
theorem Rp.carry {S : Nat → Prop} (h : Rp w r t own) (hf : Fr S w w') (h1 : ¬ S r) (h2 : ¬ S t) : Rp w' r t own :=
  ⟨by rw [hf.block r h.ltr h1]; exact h.st, by rw [hf.block t h.ltt h2]; exact h.row, h.ne, h.own⟩
theorem Rp.kept (h : Rp w r t own) (hf : Fr (fun _ => False) w w') : Rp w' r t own := h.carry hf id id
theorem Rp.alloc (h : Rp w r t own) (o : Obj) : Rp (w.alloc o) r t own := h.kept ((Fr.refl _ _).alloc o)
theorem row_set {w : World} {t : Nat} {own : List Int} {T : TypeId} (h : w.heap[t]? = some (.cells (ic own).toArray T (0, 0))) (j : Nat) (x : Int) : (w.setCell ⟨t, j, none⟩ (.int .i64 x)).heap[t]? = some (.cells (ic (own.set j x)).toArray T (0, 0)) := by
  rw [heap_setCell_same w t j _ _ _ h]
  congr 2
  apply Array.ext'
  simp [ic, List.map_set]
theorem Rp.set (h : Rp w r t own) (j : Nat) (x : Int) (ho : Own (own.set j x)) : Rp (w.setCell ⟨t, j, none⟩ (.int .i64 x)) r t (own.set j x) := by
  refine ⟨?_, row_set h.row j x, h.ne, ho⟩
  rw [Below.heap_setCell w _ _ r h.ne]; simpa using h.st
theorem Fr.one (w : World) (t j : Nat) (x : Value) : Fr (fun i => i = t) w (w.setCell ⟨t, j, none⟩ x) := Fr.setCell (S := fun i => i = t) (p := ⟨t, j, none⟩) (Fr.refl _ _) rfl _
end
end Go.Proofs.YthamfljooapkoaaDoor
