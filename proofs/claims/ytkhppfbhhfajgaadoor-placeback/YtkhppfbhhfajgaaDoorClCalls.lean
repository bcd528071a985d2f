/-
  What the other calls of package class answer, each for every number: contracts.
-/
import Derived.Test.YtkhppfbhhfajgaaDoorClOf
import Derived.Laws.Bits64b
import Derived.Laws.OwnMore
namespace Go.Proofs.YtkhppfbhhfajgaaDoor
open Go.RowKit

set_option maxRecDepth 20000 in
theorem pages_any (c : Int) (w : World) : Calls Tryd.prog 30 #[.int .i64 c] w fun e w' => e = .returned (.int .i64 (pagesI c)) ∧ w' = w := by
  have HS := hid (isSmall_any c w)
  have HR := hid (isRun_any c w)
  by_cases hs : 0 ≤ c ∧ c ≤ 7
  · have hp : Hid (pagesI c = 1) := show pagesI c = 1 by
      unfold pagesI; repeat' split
      all_goals omega
    rw [decide_eq_true hs] at HS
    go_enter Tryd.func30, Tryd.ntmps30
    go_wp2_with fail
    refine HS.out.mono ?_
    rintro e w' ⟨rfl, hw⟩
    obtain rfl := hw.symm
    go_wp2
    go_ret
    exact ⟨by rw [hp.out]; rfl, rfl⟩
  · rw [decide_eq_false hs] at HS
    by_cases hr : 7 < c ∧ c < 24
    · have hp : Hid (pagesI c = c - 7) := show pagesI c = c - 7 by
        unfold pagesI; repeat' split
        all_goals omega
      rw [decide_eq_true hr] at HR
      go_enter Tryd.func30, Tryd.ntmps30
      go_wp2_with fail
      refine HS.out.mono ?_
      rintro e w' ⟨rfl, hw⟩
      obtain rfl := hw.symm
      go_wp2_with fail
      refine HR.out.mono ?_
      rintro e w' ⟨rfl, hw⟩
      obtain rfl := hw.symm
      go_wp2
      go_ret
      exact ⟨by rw [hp.out]; go_num, rfl⟩
    · have hp : Hid (pagesI c = 0) := show pagesI c = 0 by
        unfold pagesI; repeat' split
        all_goals omega
      rw [decide_eq_false hr] at HR
      go_enter Tryd.func30, Tryd.ntmps30
      go_wp2_with fail
      refine HS.out.mono ?_
      rintro e w' ⟨rfl, hw⟩
      obtain rfl := hw.symm
      go_wp2_with fail
      refine HR.out.mono ?_
      rintro e w' ⟨rfl, hw⟩
      obtain rfl := hw.symm
      go_wp2
      go_ret
      exact ⟨by rw [hp.out]; rfl, rfl⟩
set_option maxRecDepth 20000 in
theorem unit_any (c : Int) (w : World) (hT : Tab w) : Calls Tryd.prog 25 #[.int .i64 c] w fun e w' => e = .returned (.int .i64 (unitI c)) ∧ w' = w := by
  have HS := hid (isSmall_any c w)
  by_cases hs : 0 ≤ c ∧ c ≤ 7
  · rw [decide_eq_true hs] at HS
    obtain ⟨j, rfl⟩ : ∃ j : Nat, c = j := ⟨c.toNat, by omega⟩
    have hj : j < 8 := by omega
    have cj := hT j hj
    generalize unitI j = u at *
    clear hT hs
    go_enter Tryd.func25, Tryd.ntmps25
    go_wp2_with fail
    refine HS.out.mono ?_
    rintro e w' ⟨rfl, hw⟩
    obtain rfl := hw.symm
    go_wp2
    go_ret
    exact ⟨rfl, rfl⟩
  · rw [decide_eq_false hs] at HS
    have HP := hid (pages_any c w)
    have hu : Hid (unitI c = pagesI c * 512) := show unitI c = pagesI c * 512 by
      by_cases hr : 8 ≤ c ∧ c ≤ 23
      · exact (pages_unit c hr.1 hr.2).symm
      · have e1 : pagesI c = 0 := by
          unfold pagesI; repeat' split
          all_goals omega
        have e2 : unitI c = 0 := by
          unfold unitI; repeat' split
          all_goals omega
        rw [e1, e2]; rfl
    have hr : 0 ≤ pagesI c ∧ pagesI c ≤ 16 := by
      unfold pagesI; repeat' split
      all_goals omega
    rw [hu.out]
    generalize pagesI c = p at *
    clear hT hs hu
    go_enter Tryd.func25, Tryd.ntmps25
    go_wp2_with fail
    refine HS.out.mono ?_
    rintro e w' ⟨rfl, hw⟩
    obtain rfl := hw.symm
    go_wp2_with fail
    refine HP.out.mono ?_
    rintro e w' ⟨rfl, hw⟩
    obtain rfl := hw.symm
    go_wp2
    go_ret
    exact ⟨by go_num, rfl⟩
set_option maxRecDepth 20000 in
theorem per_any (c : Int) (w : World) (hT : Tab w) : Calls Tryd.prog 29 #[.int .i64 c] w fun e w' => e = .returned (.int .i64 (perI c)) ∧ w' = w := by
  have HS := hid (isSmall_any c w)
  by_cases hs : 0 ≤ c ∧ c ≤ 7
  · rw [decide_eq_true hs] at HS
    have c0 : w.cell? ⟨0, 0, none⟩ = some (.int .i64 16) := hT 0 (by decide)
    have c1 : w.cell? ⟨0, 1, none⟩ = some (.int .i64 32) := hT 1 (by decide)
    have c2 : w.cell? ⟨0, 2, none⟩ = some (.int .i64 48) := hT 2 (by decide)
    have c3 : w.cell? ⟨0, 3, none⟩ = some (.int .i64 64) := hT 3 (by decide)
    have c4 : w.cell? ⟨0, 4, none⟩ = some (.int .i64 96) := hT 4 (by decide)
    have c5 : w.cell? ⟨0, 5, none⟩ = some (.int .i64 128) := hT 5 (by decide)
    have c6 : w.cell? ⟨0, 6, none⟩ = some (.int .i64 192) := hT 6 (by decide)
    have c7 : w.cell? ⟨0, 7, none⟩ = some (.int .i64 256) := hT 7 (by decide)
    have hc : c = 0 ∨ c = 1 ∨ c = 2 ∨ c = 3 ∨ c = 4 ∨ c = 5 ∨ c = 6 ∨ c = 7 := by omega
    clear hT hs
    rcases hc with rfl | rfl | rfl | rfl | rfl | rfl | rfl | rfl
    all_goals
      go_enter Tryd.func29, Tryd.ntmps29
      go_wp2_with fail
      refine HS.out.mono ?_
      rintro e w' ⟨rfl, hw⟩
      obtain rfl := hw.symm
      go_wp2
      go_ret
      exact ⟨rfl, rfl⟩
  · rw [decide_eq_false hs] at HS
    have hu : Hid (perI c = 0) := show perI c = 0 by
      unfold perI; repeat' split
      all_goals omega
    clear hT hs
    go_enter Tryd.func29, Tryd.ntmps29
    go_wp2_with fail
    refine HS.out.mono ?_
    rintro e w' ⟨rfl, hw⟩
    obtain rfl := hw.symm
    go_wp2
    go_ret
    exact ⟨by rw [hu.out]; rfl, rfl⟩

/-- Where a law that began in w0 stands: no old block has turned, and the table lies there. -/
structure K (w0 w : World) : Prop where
  fr : Fr (fun _ => False) w0 w
  tab : Tab w
theorem K.start {w : World} (h : Tab w) : K w w := ⟨Fr.refl _ _, h⟩
theorem K.on {w0 w w' : World} (h : K w0 w) (f : Fr (fun _ => False) w w') : K w0 w' := ⟨h.fr.trans f, h.tab.carry f id⟩
theorem k_unit (n : Int) {w0 w : World} (k : K w0 w) : Calls Tryd.prog 25 #[.int .i64 n] w fun e w' => e = .returned (.int .i64 (unitI n)) ∧ K w0 w' := (unit_any n w k.tab).mono fun _ _ ⟨he, hw⟩ => ⟨he, hw ▸ k⟩
theorem k_per (n : Int) {w0 w : World} (k : K w0 w) : Calls Tryd.prog 29 #[.int .i64 n] w fun e w' => e = .returned (.int .i64 (perI n)) ∧ K w0 w' := (per_any n w k.tab).mono fun _ _ ⟨he, hw⟩ => ⟨he, hw ▸ k⟩
theorem k_pages (n : Int) {w0 w : World} (k : K w0 w) : Calls Tryd.prog 30 #[.int .i64 n] w fun e w' => e = .returned (.int .i64 (pagesI n)) ∧ K w0 w' := (pages_any n w).mono fun _ _ ⟨he, hw⟩ => ⟨he, hw ▸ k⟩
end Go.Proofs.YtkhppfbhhfajgaaDoor
