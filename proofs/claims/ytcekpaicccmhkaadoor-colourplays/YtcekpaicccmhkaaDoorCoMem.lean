/-
  The document's map of pages in memory; lists of numbers that come in.
-/
import Derived.Test.YtcekpaicccmhkaaDoorRows
import Derived.Test.YtcekpaicccmhkaaDoorCoBase
import Derived.Deep.RegionHeld
import Derived.Deep.QuietTactic
import Derived.BigQuiet
import Derived.BigRegion
import Derived.Laws.OwnMore
namespace Go.Proofs.YtcekpaicccmhkaaDoor
open Go.RowKit

/-- Numbers that lie where a slice says. -/
def NumsAt (w : World) (ad : Option Addr) (l : List Int) : Prop := ∀ i (h : i < l.length), ∃ b off, ad = some ⟨b, off, none⟩ ∧ b < w.heap.size ∧ w.cell? ⟨b, off + i, none⟩ = some (.int .i64 l[i])
theorem NumsAt.fr {w w' : World} {ad : Option Addr} {l : List Int} (h : NumsAt w ad l) (hf : Fr (fun _ => False) w w') : NumsAt w' ad l := fun i hi => by
  obtain ⟨b, off, h1, h2, h3⟩ := h i hi
  exact ⟨b, off, h1, by have := hf.size; omega, (World.cell?_of_block (hf.block b h2 (fun h => h))).trans h3⟩
theorem frOf {w w' : World} (f : ∃ m, w' = w.drewN m) : Fr (fun _ => False) w w' := by obtain ⟨m, rfl⟩ := f; exact (Fr.refl _ w).drewN m
theorem more_drew {w w1 w2 : World} (h : ∃ m, w1 = w.drewN m) (n : Nat) (e : w2 = w1.drewN n) : ∃ m, w2 = w.drewN m := by
  obtain ⟨m, rfl⟩ := h; subst e; exact ⟨m + n, by simp [World.drewN, Nat.add_assoc]⟩
def bl (l : List Bool) : List Value := l.map Value.bool
/-- In w there lies a map of the document's at block r: its Booleans lie in block t. -/
structure Rf (w : World) (r t : Nat) (k : Nat) (has : List Bool) : Prop where
  st : w.heap[r]? = some (.cells #[.int .i64 (has.length : Int), .int .i64 (k : Int), .slice (some ⟨t, 0, none⟩) has.length has.length] 55 (0, 0))
  row : w.heap[t]? = some (.cells (bl has).toArray 4 (0, 0))
  ne : r ≠ t
  le : has.length ≤ 4096
  k0 : 0 < k
  k1 : k ≤ 32
section
variable {w w' : World} {r t k : Nat} {has : List Bool}
theorem Rf.c0 (h : Rf w r t k has) : w.cell? ⟨r, 0, none⟩ = some (.int .i64 (has.length : Int)) := by simp [World.cell?, h.st]
theorem Rf.c1 (h : Rf w r t k has) : w.cell? ⟨r, 1, none⟩ = some (.int .i64 (k : Int)) := by simp [World.cell?, h.st]
theorem Rf.c2 (h : Rf w r t k has) : w.cell? ⟨r, 2, none⟩ = some (.slice (some ⟨t, 0, none⟩) has.length has.length) := by simp [World.cell?, h.st]
theorem Rf.ct (h : Rf w r t k has) (j : Nat) (hj : j < has.length) : w.cell? ⟨t, j, none⟩ = some (.bool has[j]) := by simp [World.cell?, h.row, bl, hj]
theorem Rf.ft (h : Rf w r t k has) (j : Nat) : w.frozen? ⟨t, j, none⟩ = false := row_frozen h.row j
theorem Rf.ltr (h : Rf w r t k has) : r < w.heap.size := (Array.getElem?_eq_some_iff.1 h.st).1
theorem Rf.ltt (h : Rf w r t k has) : t < w.heap.size := (Array.getElem?_eq_some_iff.1 h.row).1
theorem Rf.carry {S : Nat → Prop} (h : Rf w r t k has) (hf : Fr S w w') (h1 : ¬ S r) (h2 : ¬ S t) : Rf w' r t k has :=
  ⟨by rw [hf.block r h.ltr h1]; exact h.st, by rw [hf.block t h.ltt h2]; exact h.row, h.ne, h.le, h.k0, h.k1⟩
theorem Rf.kept (h : Rf w r t k has) (hf : Fr (fun _ => False) w w') : Rf w' r t k has := h.carry hf id id
theorem Rf.drewN (h : Rf w r t k has) (m : Nat) : Rf (w.drewN m) r t k has := h.kept ((Fr.refl _ w).drewN m)
theorem Rf.set (h : Rf w r t k has) (j : Nat) (b : Bool) : Rf (w.setCell ⟨t, j, none⟩ (.bool b)) r t k (has.set j b) := by
  refine ⟨?_, ?_, h.ne, by simpa using h.le, h.k0, h.k1⟩
  · rw [Below.heap_setCell w _ _ r h.ne]; simpa using h.st
  · rw [heap_setCell_same w t j _ _ _ h.row]
    congr 2
    apply Array.ext'
    simp [bl, List.map_set]
theorem Fr.one (w : World) (t j : Nat) (b : Bool) : Fr (fun i => i = t) w (w.setCell ⟨t, j, none⟩ (.bool b)) := Fr.setCell (S := fun i => i = t) (p := ⟨t, j, none⟩) (Fr.refl _ _) rfl _
end
end Go.Proofs.YtcekpaicccmhkaaDoor
