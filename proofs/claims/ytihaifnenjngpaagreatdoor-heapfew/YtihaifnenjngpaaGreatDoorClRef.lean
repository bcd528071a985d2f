/-
  What the calls of package class answer, each for every number: contracts.
  What the other calls of package class answer, each for every number: contracts.
  What the document's own answers are, each for every number.
-/
import Derived.Test.YtihaifnenjngpaaGreatDoorRows
import Derived.Test.YtihaifnenjngpaaGreatDoorBase
import Derived.Test.YtihaifnenjngpaaGreatDoorClBase
import Derived.WalkMore
import Derived.BigQuiet
import Derived.Deep.QuietTactic
import Derived.Laws.Bits64b
import Derived.Laws.OwnMore
namespace Go.Proofs.YtihaifnenjngpaaGreatDoor
open Go.RowKit

/-- The table of the small kinds lies in its variable. -/
def Tab (w : World) : Prop := ∀ j : Nat, j < 8 → w.cell? ⟨0, j, none⟩ = some (.int .i64 (unitI j))
theorem Tab.pos {w : World} (h : Tab w) : 0 < w.heap.size := World.block_lt_of_cell? w _ (h 0 (by decide))
theorem Tab.carry {S : Nat → Prop} {w w' : World} (h : Tab w) (hf : Fr S w w') (h0 : ¬ S 0) : Tab w' := fun j hj => by
  rw [World.cell?_of_block (hf.block 0 h.pos h0)]; exact h j hj

set_option maxRecDepth 20000 in
theorem isSmall_any (c : Int) (w : World) : Calls Tryz.prog 139 #[.int .i64 c] w fun e w' => e = .returned (.bool (decide (0 ≤ c ∧ c ≤ 7))) ∧ w' = w := by
  by_cases h0 : 0 ≤ c
  · by_cases h7 : c ≤ 7
    · go_enter Tryz.func139, Tryz.ntmps139
      go_wp2
      go_ret
      exact ⟨by simp; omega, rfl⟩
    · go_enter Tryz.func139, Tryz.ntmps139
      go_wp2
      go_ret
      exact ⟨by simp; omega, rfl⟩
  · go_enter Tryz.func139, Tryz.ntmps139
    go_wp2
    go_ret
    exact ⟨by simp; omega, rfl⟩
set_option maxRecDepth 20000 in
theorem isRun_any (c : Int) (w : World) : Calls Tryz.prog 191 #[.int .i64 c] w fun e w' => e = .returned (.bool (decide (7 < c ∧ c < 24))) ∧ w' = w := by
  by_cases h0 : 7 < c
  · by_cases h7 : c < 24
    · go_enter Tryz.func191, Tryz.ntmps191
      go_wp2
      go_ret
      exact ⟨by simp; omega, rfl⟩
    · go_enter Tryz.func191, Tryz.ntmps191
      go_wp2
      go_ret
      exact ⟨by simp; omega, rfl⟩
  · go_enter Tryz.func191, Tryz.ntmps191
    go_wp2
    go_ret
    exact ⟨by simp; omega, rfl⟩


set_option maxRecDepth 20000 in
theorem of_none (n : Int) (w : World) (h : n < 1 ∨ 8192 < n) : Calls Tryz.prog 31 #[.int .i64 n] w fun e w' => e = .returned (.int .i64 (-1)) ∧ w' = w := by
  by_cases h1 : n < 1
  all_goals
    go_enter Tryz.func31, Tryz.ntmps31
    go_wp2
    refine wp_scope_forward 0 27 w rfl ?first ?pass
    case first =>
      go_wp2
      go_step3
      exact ⟨rfl, rfl, rfl, rfl⟩
    case pass =>
      intro A hd hs
      go_wp2
      rw [jump_ret]
      go_ret
      exact ⟨by simp [hs], rfl⟩
set_option maxRecDepth 20000 in
theorem of_run (n : Int) (w : World) (h1 : 256 < n) (h2 : n ≤ 8192) : Calls Tryz.prog 31 #[.int .i64 n] w fun e w' => e = .returned (.int .i64 (7 + (n + 511) / 512)) ∧ w' = w := by
  go_enter Tryz.func31, Tryz.ntmps31
  go_wp2
  refine wp_scope_jumps 1 (fun a' w' => w' = w ∧ ∃ (u4 u5 u6 u7 u8 u9 u10 u11 u12 u13 u14 u15 u16 u17 u18 u19 u20 u21 u22 u23 u24 u25 u26 : Value), a' = { tmps := #[.int .i64 n, undef, .int .i64 0, .int .i64 0, u4, u5, u6, u7, u8, u9, u10, u11, u12, u13, u14, u15, u16, u17, u18, u19, u20, u21, u22, u23, u24, u25, u26], defers := [] }) (fun _ _ => 0) rfl ?first ?pass
  case first =>
    go_wp2
    go_step3
    exact ⟨rfl, rfl, _, _, _, _, _, _, _, _, _, _, _, _, _, _, _, _, _, _, _, _, _, _, _, rfl⟩
  case pass =>
    rintro a' w' ⟨hw', u4, u5, u6, u7, u8, u9, u10, u11, u12, u13, u14, u15, u16, u17, u18, u19, u20, u21, u22, u23, u24, u25, u26, rfl⟩
    obtain rfl := hw'.symm
    clear hw'
    go_wp2
    rw [jump_ret]
    go_ret
    exact ⟨by go_num, rfl⟩
set_option maxRecDepth 20000 in
theorem of_small (n : Int) (w : World) (hT : Tab w) (h1 : 1 ≤ n) (h2 : n ≤ 256) : Calls Tryz.prog 31 #[.int .i64 n] w fun e w' => e = .returned (.int .i64 (ofI n)) ∧ w' = w := by
  have HT := hid hT
  clear hT
  go_enter Tryz.func31, Tryz.ntmps31
  go_wp2
  refine wp_scope_jumps 2 (fun a' w' => w' = w ∧ ∃ (j : Nat) (u4 u5 u6 u7 u8 u9 u10 u11 u12 u13 u14 u15 u16 u17 u18 u19 u20 u21 u22 u23 u24 u25 u26 : Value), a' = { tmps := #[.int .i64 n, undef, .int .i64 0, .int .i64 j, u4, u5, u6, u7, u8, u9, u10, u11, u12, u13, u14, u15, u16, u17, u18, u19, u20, u21, u22, u23, u24, u25, u26], defers := [] } ∧ j < 8 ∧ Hid (∀ d : Int, 0 ≤ d → d < j → unitI d < n)) (fun a' _ => 8 - (intOf (a'.tmps.getD 3 undef)).toNat) rfl ?first ?pass
  case first =>
    go_wp2
    go_step3
    exact ⟨rfl, rfl, 0, _, _, _, _, _, _, _, _, _, _, _, _, _, _, _, _, _, _, _, _, _, _, _, rfl, by omega, fun d h0 hd => by omega⟩
  case pass =>
    rintro a' w' ⟨hw', j, u4, u5, u6, u7, u8, u9, u10, u11, u12, u13, u14, u15, u16, u17, u18, u19, u20, u21, u22, u23, u24, u25, u26, rfl, hj, hb⟩
    obtain rfl := hw'.symm
    clear hw'
    have cj := HT.out j hj
    by_cases hlt : unitI j < n
    · have hj7 : j < 7 := by
        rcases Nat.lt_or_ge j 7 with h | h
        · exact h
        · obtain rfl : j = 7 := by omega
          have : unitI ((7 : Nat) : Int) = 256 := rfl
          omega
      have hb' : Hid (∀ d : Int, 0 ≤ d → d < ((j + 1 : Nat) : Int) → unitI d < n) := fun d h0 hd => by
        rcases Int.lt_or_le d j with h | h
        · exact hb.out d h0 h
        · obtain rfl : d = j := by omega
          exact hlt
      generalize unitI j = u at *
      go_wp2
      go_step3
      exact ⟨rfl, ⟨rfl, j + 1, _, _, _, _, _, _, _, _, _, _, _, _, _, _, _, _, _, _, _, _, _, _, _, by go_num, by omega, hb'⟩, by simp [intOf]; omega⟩
    · have he : Hid (ofI n = j) := ofI_unique n j h1 (by omega) (by omega) (by omega) hb.out
      generalize unitI j = u at *
      go_wp2
      rw [jump_ret]
      go_ret
      exact ⟨by rw [he.out]; rfl, rfl⟩
theorem of_any (n : Int) (w : World) (hT : Tab w) : Calls Tryz.prog 31 #[.int .i64 n] w fun e w' => e = .returned (.int .i64 (ofI n)) ∧ w' = w := by
  by_cases h : n < 1 ∨ 8192 < n
  · rw [(ofI_none n).2 h]; exact of_none n w h
  · by_cases h2 : n ≤ 256
    · exact of_small n w hT (by omega) h2
    · rw [ofI_run n (by omega) (by omega)]; exact of_run n w (by omega) (by omega)
end Go.Proofs.YtihaifnenjngpaaGreatDoor

namespace Go.Proofs.YtihaifnenjngpaaGreatDoor
open Go.RowKit

set_option maxRecDepth 20000 in
theorem pages_any (c : Int) (w : World) : Calls Tryz.prog 140 #[.int .i64 c] w fun e w' => e = .returned (.int .i64 (pagesI c)) ∧ w' = w := by
  have HS := hid (isSmall_any c w)
  have HR := hid (isRun_any c w)
  by_cases hs : 0 ≤ c ∧ c ≤ 7
  · have hp : Hid (pagesI c = 1) := show pagesI c = 1 by
      unfold pagesI; repeat' split
      all_goals omega
    rw [decide_eq_true hs] at HS
    go_enter Tryz.func140, Tryz.ntmps140
    go_wp2_with fail
    refine HS.out.mono ?_
    rintro e w' ⟨rfl, hw⟩
    obtain rfl := hw.symm
    go_wp2
    go_ret
    exact ⟨by rw [hp.out]; rfl, rfl⟩
  · rw [decide_eq_false hs] at HS
    by_cases hr : 7 < c ∧ c < 24
    · have hp : Hid (pagesI c = c - 7) := show pagesI c = c - 7 by
        unfold pagesI; repeat' split
        all_goals omega
      rw [decide_eq_true hr] at HR
      go_enter Tryz.func140, Tryz.ntmps140
      go_wp2_with fail
      refine HS.out.mono ?_
      rintro e w' ⟨rfl, hw⟩
      obtain rfl := hw.symm
      go_wp2_with fail
      refine HR.out.mono ?_
      rintro e w' ⟨rfl, hw⟩
      obtain rfl := hw.symm
      go_wp2
      go_ret
      exact ⟨by rw [hp.out]; go_num, rfl⟩
    · have hp : Hid (pagesI c = 0) := show pagesI c = 0 by
        unfold pagesI; repeat' split
        all_goals omega
      rw [decide_eq_false hr] at HR
      go_enter Tryz.func140, Tryz.ntmps140
      go_wp2_with fail
      refine HS.out.mono ?_
      rintro e w' ⟨rfl, hw⟩
      obtain rfl := hw.symm
      go_wp2_with fail
      refine HR.out.mono ?_
      rintro e w' ⟨rfl, hw⟩
      obtain rfl := hw.symm
      go_wp2
      go_ret
      exact ⟨by rw [hp.out]; rfl, rfl⟩
set_option maxRecDepth 20000 in
theorem unit_any (c : Int) (w : World) (hT : Tab w) : Calls Tryz.prog 76 #[.int .i64 c] w fun e w' => e = .returned (.int .i64 (unitI c)) ∧ w' = w := by
  have HS := hid (isSmall_any c w)
  by_cases hs : 0 ≤ c ∧ c ≤ 7
  · rw [decide_eq_true hs] at HS
    obtain ⟨j, rfl⟩ : ∃ j : Nat, c = j := ⟨c.toNat, by omega⟩
    have hj : j < 8 := by omega
    have cj := hT j hj
    generalize unitI j = u at *
    clear hT hs
    go_enter Tryz.func76, Tryz.ntmps76
    go_wp2_with fail
    refine HS.out.mono ?_
    rintro e w' ⟨rfl, hw⟩
    obtain rfl := hw.symm
    go_wp2
    go_ret
    exact ⟨rfl, rfl⟩
  · rw [decide_eq_false hs] at HS
    have HP := hid (pages_any c w)
    have hu : Hid (unitI c = pagesI c * 512) := show unitI c = pagesI c * 512 by
      by_cases hr : 8 ≤ c ∧ c ≤ 23
      · exact (pages_unit c hr.1 hr.2).symm
      · have e1 : pagesI c = 0 := by
          unfold pagesI; repeat' split
          all_goals omega
        have e2 : unitI c = 0 := by
          unfold unitI; repeat' split
          all_goals omega
        rw [e1, e2]; rfl
    have hr : 0 ≤ pagesI c ∧ pagesI c ≤ 16 := by
      unfold pagesI; repeat' split
      all_goals omega
    rw [hu.out]
    generalize pagesI c = p at *
    clear hT hs hu
    go_enter Tryz.func76, Tryz.ntmps76
    go_wp2_with fail
    refine HS.out.mono ?_
    rintro e w' ⟨rfl, hw⟩
    obtain rfl := hw.symm
    go_wp2_with fail
    refine HP.out.mono ?_
    rintro e w' ⟨rfl, hw⟩
    obtain rfl := hw.symm
    go_wp2
    go_ret
    exact ⟨by go_num, rfl⟩
set_option maxRecDepth 20000 in
theorem per_any (c : Int) (w : World) (hT : Tab w) : Calls Tryz.prog 126 #[.int .i64 c] w fun e w' => e = .returned (.int .i64 (perI c)) ∧ w' = w := by
  have HS := hid (isSmall_any c w)
  by_cases hs : 0 ≤ c ∧ c ≤ 7
  · rw [decide_eq_true hs] at HS
    have c0 : w.cell? ⟨0, 0, none⟩ = some (.int .i64 16) := hT 0 (by decide)
    have c1 : w.cell? ⟨0, 1, none⟩ = some (.int .i64 32) := hT 1 (by decide)
    have c2 : w.cell? ⟨0, 2, none⟩ = some (.int .i64 48) := hT 2 (by decide)
    have c3 : w.cell? ⟨0, 3, none⟩ = some (.int .i64 64) := hT 3 (by decide)
    have c4 : w.cell? ⟨0, 4, none⟩ = some (.int .i64 96) := hT 4 (by decide)
    have c5 : w.cell? ⟨0, 5, none⟩ = some (.int .i64 128) := hT 5 (by decide)
    have c6 : w.cell? ⟨0, 6, none⟩ = some (.int .i64 192) := hT 6 (by decide)
    have c7 : w.cell? ⟨0, 7, none⟩ = some (.int .i64 256) := hT 7 (by decide)
    have hc : c = 0 ∨ c = 1 ∨ c = 2 ∨ c = 3 ∨ c = 4 ∨ c = 5 ∨ c = 6 ∨ c = 7 := by omega
    clear hT hs
    rcases hc with rfl | rfl | rfl | rfl | rfl | rfl | rfl | rfl
    all_goals
      go_enter Tryz.func126, Tryz.ntmps126
      go_wp2_with fail
      refine HS.out.mono ?_
      rintro e w' ⟨rfl, hw⟩
      obtain rfl := hw.symm
      go_wp2
      go_ret
      exact ⟨rfl, rfl⟩
  · rw [decide_eq_false hs] at HS
    have hu : Hid (perI c = 0) := show perI c = 0 by
      unfold perI; repeat' split
      all_goals omega
    clear hT hs
    go_enter Tryz.func126, Tryz.ntmps126
    go_wp2_with fail
    refine HS.out.mono ?_
    rintro e w' ⟨rfl, hw⟩
    obtain rfl := hw.symm
    go_wp2
    go_ret
    exact ⟨by rw [hu.out]; rfl, rfl⟩

/-- Where a law that began in w0 stands: no old block has turned, and the table lies there. -/
structure K (w0 w : World) : Prop where
  fr : Fr (fun _ => False) w0 w
  tab : Tab w
theorem K.start {w : World} (h : Tab w) : K w w := ⟨Fr.refl _ _, h⟩
theorem K.on {w0 w w' : World} (h : K w0 w) (f : Fr (fun _ => False) w w') : K w0 w' := ⟨h.fr.trans f, h.tab.carry f id⟩
theorem k_of (n : Int) {w0 w : World} (k : K w0 w) : Calls Tryz.prog 31 #[.int .i64 n] w fun e w' => e = .returned (.int .i64 (ofI n)) ∧ K w0 w' := (of_any n w k.tab).mono fun _ _ ⟨he, hw⟩ => ⟨he, hw ▸ k⟩
theorem k_unit (n : Int) {w0 w : World} (k : K w0 w) : Calls Tryz.prog 76 #[.int .i64 n] w fun e w' => e = .returned (.int .i64 (unitI n)) ∧ K w0 w' := (unit_any n w k.tab).mono fun _ _ ⟨he, hw⟩ => ⟨he, hw ▸ k⟩
theorem k_per (n : Int) {w0 w : World} (k : K w0 w) : Calls Tryz.prog 126 #[.int .i64 n] w fun e w' => e = .returned (.int .i64 (perI n)) ∧ K w0 w' := (per_any n w k.tab).mono fun _ _ ⟨he, hw⟩ => ⟨he, hw ▸ k⟩
theorem k_pages (n : Int) {w0 w : World} (k : K w0 w) : Calls Tryz.prog 140 #[.int .i64 n] w fun e w' => e = .returned (.int .i64 (pagesI n)) ∧ K w0 w' := (pages_any n w).mono fun _ _ ⟨he, hw⟩ => ⟨he, hw ▸ k⟩
end Go.Proofs.YtihaifnenjngpaaGreatDoor

namespace Go.Proofs.YtihaifnenjngpaaGreatDoor
open Go.RowKit

theorem unitI_zero (c : Int) (h : c < 0 ∨ 23 < c) : unitI c = 0 := by
  unfold unitI; repeat' split
  all_goals omega
theorem unitI_runs (c : Int) (h1 : 8 ≤ c) (h2 : c ≤ 23) : unitI c = (c - 7) * 512 := by
  have := unitI_run (c - 7) (by omega) (by omega)
  rwa [show 7 + (c - 7) = c by omega] at this
set_option maxRecDepth 20000 in
set_option maxHeartbeats 1000000 in
theorem r_unit_small (c : Int) {w0 w : World} (k : K w0 w) (hs : 0 ≤ c ∧ c ≤ 7) : Calls Tryz.prog 83 #[.int .i64 c] w fun e w' => e = .returned (.int .i64 (unitI c)) ∧ K w0 w' := by
  have HK := hid k
  clear k
  have hc : c = 0 ∨ c = 1 ∨ c = 2 ∨ c = 3 ∨ c = 4 ∨ c = 5 ∨ c = 6 ∨ c = 7 := by omega
  clear hs
  rcases hc with rfl | rfl | rfl | rfl | rfl | rfl | rfl | rfl
  all_goals
    go_enter Tryz.func83, Tryz.ntmps83
    go_wp2
    go_ret
    exact ⟨rfl, HK.out.on ((Fr.refl _ _).alloc _)⟩
set_option maxRecDepth 20000 in
theorem r_unit (c : Int) {w0 w : World} (k : K w0 w) : Calls Tryz.prog 83 #[.int .i64 c] w fun e w' => e = .returned (.int .i64 (unitI c)) ∧ K w0 w' := by
  have HK := hid k
  clear k
  by_cases hs : 0 ≤ c ∧ c ≤ 7
  · exact r_unit_small c HK.out hs
  · by_cases hr : 8 ≤ c ∧ c ≤ 23
    · have hu : Hid (unitI c = (c - 7) * 512) := unitI_runs c hr.1 hr.2
      clear hs
      obtain ⟨h1, h2⟩ := hr
      have h0 : ¬ c < 0 := by omega
      have h8 : ¬ c < 8 := by omega
      go_enter Tryz.func83, Tryz.ntmps83
      go_wp2
      go_ret
      exact ⟨by rw [hu.out]; go_num, HK.out.on ((Fr.refl _ _).alloc _)⟩
    · have hu : Hid (unitI c = 0) := unitI_zero c (by omega)
      by_cases h0 : c < 0
      · clear hs hr
        go_enter Tryz.func83, Tryz.ntmps83
        go_wp2
        go_ret
        exact ⟨by rw [hu.out]; rfl, HK.out.on ((Fr.refl _ _).alloc _)⟩
      · have h1 : 23 < c := by omega
        clear hs hr
        go_enter Tryz.func83, Tryz.ntmps83
        go_wp2
        go_ret
        exact ⟨by rw [hu.out]; rfl, HK.out.on ((Fr.refl _ _).alloc _)⟩

set_option maxRecDepth 20000 in
theorem r_of (n : Int) {w0 w : World} (k : K w0 w) : Calls Tryz.prog 82 #[.int .i64 n] w fun e w' => e = .returned (.int .i64 (ofI n)) ∧ K w0 w' := by
  have HK := hid k
  clear k
  by_cases h1 : n < 1
  · have he : Hid (ofI n = -1) := (ofI_none n).2 (.inl h1)
    go_enter Tryz.func82, Tryz.ntmps82
    go_wp2
    go_ret
    exact ⟨by rw [he.out]; rfl, HK.out⟩
  · go_enter Tryz.func82, Tryz.ntmps82
    go_wp2
    go_loopw [3] (fun i wr => ∃ j : Nat, j ≤ 24 ∧ i = .int .i64 j ∧ K w0 wr ∧ ∀ d : Int, 0 ≤ d → d < j → unitI d < n) (fun i _ => 24 - (intOf i).toNat)
    case atStart => exact ⟨0, by omega, rfl, HK.out, fun d h0 hd => by omega⟩
    case round =>
      obtain ⟨j, hj, rfl, hk, hb⟩ := hrel
      have HC := hid (r_unit j hk)
      have HB := hid hb
      have HR := hid hk
      clear hb hk HK
      by_cases hlt : j < 24
      · by_cases hu : unitI j < n
        · have hb' : Hid (∀ d : Int, 0 ≤ d → d < ((j + 1 : Nat) : Int) → unitI d < n) := fun d h0 hd => by
            rcases Int.lt_or_le d j with h | h
            · exact HB.out d h0 h
            · obtain rfl : d = j := by omega
              exact hu
          generalize unitI j = u at *
          go_wp2_with fail
          refine HC.out.mono ?_
          rintro e w2 ⟨rfl, hk⟩
          have HK := hid hk
          clear hk
          go_wp2
          go_roundw
          case rel => exact ⟨j + 1, by omega, by go_num, HK.out, hb'.out⟩
          case measure => simp [intOf]; omega
        · have he : Hid (ofI n = j) := ofI_unique n j (by omega) (by omega) (by omega) (by omega) HB.out
          generalize unitI j = u at *
          go_wp2_with fail
          refine HC.out.mono ?_
          rintro e w2 ⟨rfl, hk⟩
          have HK := hid hk
          clear hk
          go_wp2
          go_ret
          exact ⟨by rw [he.out]; rfl, HK.out⟩
      · obtain rfl : j = 24 := by omega
        have he : Hid (ofI n = -1) := (ofI_none n).2 (.inr (by have := HB.out 23 (by omega) (by omega); have e : unitI 23 = 8192 := rfl; omega))
        clear HC HB hlt
        go_wp2
        go_ret
        exact ⟨by rw [he.out]; rfl, HR.out⟩

set_option maxRecDepth 20000 in
theorem r_per (c : Int) {w0 w : World} (k : K w0 w) : Calls Tryz.prog 65 #[.int .i64 c] w fun e w' => e = .returned (.int .i64 (perI c)) ∧ K w0 w' := by
  have HU := hid (r_unit c k)
  have HK := hid k
  clear k
  by_cases hs : 0 ≤ c ∧ c ≤ 7
  · have hc : c = 0 ∨ c = 1 ∨ c = 2 ∨ c = 3 ∨ c = 4 ∨ c = 5 ∨ c = 6 ∨ c = 7 := by omega
    clear hs
    have u0 : unitI 0 = 16 := rfl
    have u1 : unitI 1 = 32 := rfl
    have u2 : unitI 2 = 48 := rfl
    have u3 : unitI 3 = 64 := rfl
    have u4 : unitI 4 = 96 := rfl
    have u5 : unitI 5 = 128 := rfl
    have u6 : unitI 6 = 192 := rfl
    have u7 : unitI 7 = 256 := rfl
    rcases hc with rfl | rfl | rfl | rfl | rfl | rfl | rfl | rfl
    all_goals
      simp only [u0, u1, u2, u3, u4, u5, u6, u7] at HU
      clear u0 u1 u2 u3 u4 u5 u6 u7
      go_enter Tryz.func65, Tryz.ntmps65
      go_wp2_with fail
      refine HU.out.mono ?_
      rintro e w2 ⟨rfl, hk⟩
      have HK2 := hid hk
      clear hk
      go_wp2
      go_ret
      exact ⟨rfl, HK2.out⟩
  · have hu : Hid (perI c = 0) := show perI c = 0 by
      unfold perI; repeat' split
      all_goals omega
    by_cases h0 : c < 0
    · clear hs HU
      go_enter Tryz.func65, Tryz.ntmps65
      go_wp2
      go_ret
      exact ⟨by rw [hu.out]; rfl, HK.out⟩
    · have h1 : 7 < c := by omega
      clear hs HU
      go_enter Tryz.func65, Tryz.ntmps65
      go_wp2
      go_ret
      exact ⟨by rw [hu.out]; rfl, HK.out⟩
set_option maxRecDepth 20000 in
theorem r_charge (n : Int) {w0 w : World} (k : K w0 w) : Calls Tryz.prog 29 #[.int .i64 n] w fun e w' => e = .returned (.int .i64 (chargeI n)) ∧ K w0 w' := by
  have HO := hid (r_of n k)
  clear k
  by_cases h0 : ofI n < 0
  · have hu : Hid (chargeI n = 0) := show chargeI n = 0 by unfold chargeI; rw [if_pos h0]
    generalize ofI n = o at *
    go_enter Tryz.func29, Tryz.ntmps29
    go_wp2_with fail
    refine HO.out.mono ?_
    rintro e w2 ⟨rfl, hk⟩
    have HK2 := hid hk
    clear hk
    go_wp2
    go_ret
    exact ⟨by rw [hu.out]; rfl, HK2.out⟩
  · have hu : Hid (chargeI n = unitI (ofI n)) := show chargeI n = unitI (ofI n) by unfold chargeI; rw [if_neg h0]
    rw [hu.out]
    have HR : Hid (∀ {w : World}, K w0 w → Calls Tryz.prog 82 #[.int .i64 n] w fun e w' => e = .returned (.int .i64 (ofI n)) ∧ K w0 w') := fun h => r_of n h
    have HU : Hid (∀ {w : World}, K w0 w → Calls Tryz.prog 83 #[.int .i64 (ofI n)] w fun e w' => e = .returned (.int .i64 (unitI (ofI n))) ∧ K w0 w') := fun h => r_unit _ h
    clear hu
    generalize unitI (ofI n) = u at *
    generalize ofI n = o at *
    go_enter Tryz.func29, Tryz.ntmps29
    go_wp2_with fail
    refine HO.out.mono ?_
    rintro e w2 ⟨rfl, hk⟩
    have HK2 := hid hk
    clear hk
    go_wp2_with fail
    refine (HR.out HK2.out).mono ?_
    rintro e w3 ⟨rfl, hk⟩
    have HK3 := hid hk
    clear hk
    go_wp2_with fail
    refine (HU.out HK3.out).mono ?_
    rintro e w4 ⟨rfl, hk⟩
    have HK4 := hid hk
    clear hk
    go_wp2
    go_ret
    exact ⟨rfl, HK4.out⟩
end Go.Proofs.YtihaifnenjngpaaGreatDoor
