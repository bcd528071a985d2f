/-
  What the calls of package class answer, each for every number: contracts.
-/
import Derived.Test.YtdjpkpgajifjiaaDoorRows
import Derived.Test.YtdjpkpgajifjiaaDoorBase
import Derived.Test.YtdjpkpgajifjiaaDoorClBase
import Derived.WalkMore
import Derived.BigQuiet
import Derived.Deep.QuietTactic
namespace Go.Proofs.YtdjpkpgajifjiaaDoor
open Go.RowKit

/-- The table of the small kinds lies in its variable. -/
def Tab (w : World) : Prop := ∀ j : Nat, j < 8 → w.cell? ⟨1, j, none⟩ = some (.int .i64 (unitI j))
theorem Tab.pos {w : World} (h : Tab w) : 1 < w.heap.size := World.block_lt_of_cell? w _ (h 0 (by decide))
theorem Tab.carry {S : Nat → Prop} {w w' : World} (h : Tab w) (hf : Fr S w w') (h0 : ¬ S 1) : Tab w' := fun j hj => by
  rw [World.cell?_of_block (hf.block 1 h.pos h0)]; exact h j hj



set_option maxRecDepth 20000 in
theorem of_none (n : Int) (w : World) (h : n < 1 ∨ 8192 < n) : Calls Tryd.prog 21 #[.int .i64 n] w fun e w' => e = .returned (.int .i64 (-1)) ∧ w' = w := by
  by_cases h1 : n < 1
  all_goals
    go_enter Tryd.func21, Tryd.ntmps21
    go_wp2
    refine wp_scope_forward 0 27 w rfl ?first ?pass
    case first =>
      go_wp2
      go_step3
      exact ⟨rfl, rfl, rfl, rfl⟩
    case pass =>
      intro A hd hs
      go_wp2
      rw [jump_ret]
      go_ret
      exact ⟨by simp [hs], rfl⟩
set_option maxRecDepth 20000 in
theorem of_run (n : Int) (w : World) (h1 : 256 < n) (h2 : n ≤ 8192) : Calls Tryd.prog 21 #[.int .i64 n] w fun e w' => e = .returned (.int .i64 (7 + (n + 511) / 512)) ∧ w' = w := by
  go_enter Tryd.func21, Tryd.ntmps21
  go_wp2
  refine wp_scope_jumps 1 (fun a' w' => w' = w ∧ ∃ (u4 u5 u6 u7 u8 u9 u10 u11 u12 u13 u14 u15 u16 u17 u18 u19 u20 u21 u22 u23 u24 u25 u26 : Value), a' = { tmps := #[.int .i64 n, undef, .int .i64 0, .int .i64 0, u4, u5, u6, u7, u8, u9, u10, u11, u12, u13, u14, u15, u16, u17, u18, u19, u20, u21, u22, u23, u24, u25, u26], defers := [] }) (fun _ _ => 0) rfl ?first ?pass
  case first =>
    go_wp2
    go_step3
    exact ⟨rfl, rfl, _, _, _, _, _, _, _, _, _, _, _, _, _, _, _, _, _, _, _, _, _, _, _, rfl⟩
  case pass =>
    rintro a' w' ⟨hw', u4, u5, u6, u7, u8, u9, u10, u11, u12, u13, u14, u15, u16, u17, u18, u19, u20, u21, u22, u23, u24, u25, u26, rfl⟩
    obtain rfl := hw'.symm
    clear hw'
    go_wp2
    rw [jump_ret]
    go_ret
    exact ⟨by go_num, rfl⟩
set_option maxRecDepth 20000 in
theorem of_small (n : Int) (w : World) (hT : Tab w) (h1 : 1 ≤ n) (h2 : n ≤ 256) : Calls Tryd.prog 21 #[.int .i64 n] w fun e w' => e = .returned (.int .i64 (ofI n)) ∧ w' = w := by
  have HT := hid hT
  clear hT
  go_enter Tryd.func21, Tryd.ntmps21
  go_wp2
  refine wp_scope_jumps 2 (fun a' w' => w' = w ∧ ∃ (j : Nat) (u4 u5 u6 u7 u8 u9 u10 u11 u12 u13 u14 u15 u16 u17 u18 u19 u20 u21 u22 u23 u24 u25 u26 : Value), a' = { tmps := #[.int .i64 n, undef, .int .i64 0, .int .i64 j, u4, u5, u6, u7, u8, u9, u10, u11, u12, u13, u14, u15, u16, u17, u18, u19, u20, u21, u22, u23, u24, u25, u26], defers := [] } ∧ j < 8 ∧ Hid (∀ d : Int, 0 ≤ d → d < j → unitI d < n)) (fun a' _ => 8 - (intOf (a'.tmps.getD 3 undef)).toNat) rfl ?first ?pass
  case first =>
    go_wp2
    go_step3
    exact ⟨rfl, rfl, 0, _, _, _, _, _, _, _, _, _, _, _, _, _, _, _, _, _, _, _, _, _, _, _, rfl, by omega, fun d h0 hd => by omega⟩
  case pass =>
    rintro a' w' ⟨hw', j, u4, u5, u6, u7, u8, u9, u10, u11, u12, u13, u14, u15, u16, u17, u18, u19, u20, u21, u22, u23, u24, u25, u26, rfl, hj, hb⟩
    obtain rfl := hw'.symm
    clear hw'
    have cj := HT.out j hj
    by_cases hlt : unitI j < n
    · have hj7 : j < 7 := by
        rcases Nat.lt_or_ge j 7 with h | h
        · exact h
        · obtain rfl : j = 7 := by omega
          have : unitI ((7 : Nat) : Int) = 256 := rfl
          omega
      have hb' : Hid (∀ d : Int, 0 ≤ d → d < ((j + 1 : Nat) : Int) → unitI d < n) := fun d h0 hd => by
        rcases Int.lt_or_le d j with h | h
        · exact hb.out d h0 h
        · obtain rfl : d = j := by omega
          exact hlt
      generalize unitI j = u at *
      go_wp2
      go_step3
      exact ⟨rfl, ⟨rfl, j + 1, _, _, _, _, _, _, _, _, _, _, _, _, _, _, _, _, _, _, _, _, _, _, _, by go_num, by omega, hb'⟩, by simp [intOf]; omega⟩
    · have he : Hid (ofI n = j) := ofI_unique n j h1 (by omega) (by omega) (by omega) hb.out
      generalize unitI j = u at *
      go_wp2
      rw [jump_ret]
      go_ret
      exact ⟨by rw [he.out]; rfl, rfl⟩
theorem of_any (n : Int) (w : World) (hT : Tab w) : Calls Tryd.prog 21 #[.int .i64 n] w fun e w' => e = .returned (.int .i64 (ofI n)) ∧ w' = w := by
  by_cases h : n < 1 ∨ 8192 < n
  · rw [(ofI_none n).2 h]; exact of_none n w h
  · by_cases h2 : n ≤ 256
    · exact of_small n w hT (by omega) h2
    · rw [ofI_run n (by omega) (by omega)]; exact of_run n w (by omega) (by omega)
end Go.Proofs.YtdjpkpgajifjiaaDoor
