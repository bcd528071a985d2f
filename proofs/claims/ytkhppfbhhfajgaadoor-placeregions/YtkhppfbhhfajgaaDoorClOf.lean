/-
  What the calls of package class answer, each for every number: contracts.
-/
import Derived.Test.YtkhppfbhhfajgaaDoorRows
import Derived.Test.YtkhppfbhhfajgaaDoorBase
import Derived.Test.YtkhppfbhhfajgaaDoorClBase
import Derived.WalkMore
import Derived.BigQuiet
import Derived.Deep.QuietTactic
namespace Go.Proofs.YtkhppfbhhfajgaaDoor
open Go.RowKit

/-- The table of the small kinds lies in its variable. -/
def Tab (w : World) : Prop := ∀ j : Nat, j < 8 → w.cell? ⟨0, j, none⟩ = some (.int .i64 (unitI j))
theorem Tab.pos {w : World} (h : Tab w) : 0 < w.heap.size := World.block_lt_of_cell? w _ (h 0 (by decide))
theorem Tab.carry {S : Nat → Prop} {w w' : World} (h : Tab w) (hf : Fr S w w') (h0 : ¬ S 0) : Tab w' := fun j hj => by
  rw [World.cell?_of_block (hf.block 0 h.pos h0)]; exact h j hj

set_option maxRecDepth 20000 in
theorem isSmall_any (c : Int) (w : World) : Calls Tryd.prog 31 #[.int .i64 c] w fun e w' => e = .returned (.bool (decide (0 ≤ c ∧ c ≤ 7))) ∧ w' = w := by
  by_cases h0 : 0 ≤ c
  · by_cases h7 : c ≤ 7
    · go_enter Tryd.func31, Tryd.ntmps31
      go_wp2
      go_ret
      exact ⟨by simp; omega, rfl⟩
    · go_enter Tryd.func31, Tryd.ntmps31
      go_wp2
      go_ret
      exact ⟨by simp; omega, rfl⟩
  · go_enter Tryd.func31, Tryd.ntmps31
    go_wp2
    go_ret
    exact ⟨by simp; omega, rfl⟩
set_option maxRecDepth 20000 in
theorem isRun_any (c : Int) (w : World) : Calls Tryd.prog 32 #[.int .i64 c] w fun e w' => e = .returned (.bool (decide (7 < c ∧ c < 24))) ∧ w' = w := by
  by_cases h0 : 7 < c
  · by_cases h7 : c < 24
    · go_enter Tryd.func32, Tryd.ntmps32
      go_wp2
      go_ret
      exact ⟨by simp; omega, rfl⟩
    · go_enter Tryd.func32, Tryd.ntmps32
      go_wp2
      go_ret
      exact ⟨by simp; omega, rfl⟩
  · go_enter Tryd.func32, Tryd.ntmps32
    go_wp2
    go_ret
    exact ⟨by simp; omega, rfl⟩


end Go.Proofs.YtkhppfbhhfajgaaDoor
