/-
  slices.Sort of a row of numbers that is the call's own.
-/
import Derived.Test.YthamfljooapkoaaDoorLaySort
import Derived.Test.YthamfljooapkoaaDoorLists
import Derived.Shelf.Sort.Plain
import Derived.Shelf.Slices.In.SortNone
import Derived.Sort.OwnSortedInts
namespace Go.Proofs.YthamfljooapkoaaDoor
open Go.RowKit

theorem srt_one (blk off cap : Nat) (zs : List Int) (w : World) (hH : Sort.Holds (Value.int .i64) w blk off zs.toArray) (hblk : blk < w.heap.size) (hsz : zs.length < 4611686018427387904) :
    Calls Tryd.prog 26 #[.slice (some ⟨blk, off, none⟩) zs.length cap] w fun e w' =>
      e = .returned (.tuple #[]) ∧ ∃ n os, w' = Sort.grow (Sort.putRow (Value.int .i64) (Sort.ahead w n) blk off (zs.mergeSort fun x y => decide (x ≤ y)).toArray) os := Any.slices_Sort_int Tryd.laysSort blk off cap zs w hH hblk hsz
theorem srt_none (p : Option Addr) (cap : Nat) (w : World) : Calls Tryd.prog 26 #[.slice p 0 cap] w fun e w' => e = .returned (.tuple #[]) ∧ w' = w := Any.slices_Sort_int_none Tryd.laysSort p cap w
/-- A row of the call's own is sorted in its place; no other block turns. -/
theorem srt_any {w : World} {base : Nat} {v : Value} {l : List Int} (h : w.ownsRow base 3 1 v l.length (ic l)) (hn : l.length ≤ 100000) :
    Calls Tryd.prog 26 #[v] w fun e w' => e = .returned (.tuple #[]) ∧ w'.ownsRow base 3 1 v l.length (ic (l.mergeSort fun x y => decide (x ≤ y))) ∧ Fr (fun x => v.ownBlock = some x) w w' := by
  rcases h.2 with ⟨rfl, e2⟩ | ⟨g, cap, cur, rfl, hb, hc, h1, h2, h3, h4⟩
  · have e3 : l = [] := List.eq_nil_of_length_eq_zero e2
    subst e3
    refine (srt_none none 0 w).mono ?_
    rintro e w' ⟨rfl, rfl⟩
    exact ⟨rfl, by rw [List.mergeSort_nil]; exact World.ownsRow_nil _ _ _ _, Fr.refl _ _⟩
  · rw [Nat.mul_one] at h4
    refine (srt_one g 0 cap l w (holds_of_blockI hc h4) (Array.getElem?_eq_some_iff.1 hc).1 (by omega)).mono ?_
    rintro e w' ⟨rfl, n, os, rfl⟩
    refine ⟨rfl, ownsRow_sortedI (List.length_mergeSort _) hb hc h1 h2 h3, ?_⟩
    exact (Fr.refl _ w).grown (grownBy_sortedI _) fun k hk => .inl (by simp only [Option.some.injEq] at hk; subst hk; rfl)
end Go.Proofs.YthamfljooapkoaaDoor
