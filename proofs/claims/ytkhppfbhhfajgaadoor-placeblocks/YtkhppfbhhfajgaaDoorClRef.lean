/-
  What the document's own answers are, each for every number.
-/
import Derived.Test.YtkhppfbhhfajgaaDoorClCalls
namespace Go.Proofs.YtkhppfbhhfajgaaDoor
open Go.RowKit

theorem unitI_zero (c : Int) (h : c < 0 ∨ 23 < c) : unitI c = 0 := by
  unfold unitI; repeat' split
  all_goals omega
theorem unitI_runs (c : Int) (h1 : 8 ≤ c) (h2 : c ≤ 23) : unitI c = (c - 7) * 512 := by
  have := unitI_run (c - 7) (by omega) (by omega)
  rwa [show 7 + (c - 7) = c by omega] at this
set_option maxRecDepth 20000 in
set_option maxHeartbeats 1000000 in
theorem r_unit_small (c : Int) {w0 w : World} (k : K w0 w) (hs : 0 ≤ c ∧ c ≤ 7) : Calls Tryd.prog 16 #[.int .i64 c] w fun e w' => e = .returned (.int .i64 (unitI c)) ∧ K w0 w' := by
  have HK := hid k
  clear k
  have hc : c = 0 ∨ c = 1 ∨ c = 2 ∨ c = 3 ∨ c = 4 ∨ c = 5 ∨ c = 6 ∨ c = 7 := by omega
  clear hs
  rcases hc with rfl | rfl | rfl | rfl | rfl | rfl | rfl | rfl
  all_goals
    go_enter Tryd.func16, Tryd.ntmps16
    go_wp2
    go_ret
    exact ⟨rfl, HK.out.on ((Fr.refl _ _).alloc _)⟩
set_option maxRecDepth 20000 in
theorem r_unit (c : Int) {w0 w : World} (k : K w0 w) : Calls Tryd.prog 16 #[.int .i64 c] w fun e w' => e = .returned (.int .i64 (unitI c)) ∧ K w0 w' := by
  have HK := hid k
  clear k
  by_cases hs : 0 ≤ c ∧ c ≤ 7
  · exact r_unit_small c HK.out hs
  · by_cases hr : 8 ≤ c ∧ c ≤ 23
    · have hu : Hid (unitI c = (c - 7) * 512) := unitI_runs c hr.1 hr.2
      clear hs
      obtain ⟨h1, h2⟩ := hr
      have h0 : ¬ c < 0 := by omega
      have h8 : ¬ c < 8 := by omega
      go_enter Tryd.func16, Tryd.ntmps16
      go_wp2
      go_ret
      exact ⟨by rw [hu.out]; go_num, HK.out.on ((Fr.refl _ _).alloc _)⟩
    · have hu : Hid (unitI c = 0) := unitI_zero c (by omega)
      by_cases h0 : c < 0
      · clear hs hr
        go_enter Tryd.func16, Tryd.ntmps16
        go_wp2
        go_ret
        exact ⟨by rw [hu.out]; rfl, HK.out.on ((Fr.refl _ _).alloc _)⟩
      · have h1 : 23 < c := by omega
        clear hs hr
        go_enter Tryd.func16, Tryd.ntmps16
        go_wp2
        go_ret
        exact ⟨by rw [hu.out]; rfl, HK.out.on ((Fr.refl _ _).alloc _)⟩


set_option maxRecDepth 20000 in
theorem r_per (c : Int) {w0 w : World} (k : K w0 w) : Calls Tryd.prog 26 #[.int .i64 c] w fun e w' => e = .returned (.int .i64 (perI c)) ∧ K w0 w' := by
  have HU := hid (r_unit c k)
  have HK := hid k
  clear k
  by_cases hs : 0 ≤ c ∧ c ≤ 7
  · have hc : c = 0 ∨ c = 1 ∨ c = 2 ∨ c = 3 ∨ c = 4 ∨ c = 5 ∨ c = 6 ∨ c = 7 := by omega
    clear hs
    have u0 : unitI 0 = 16 := rfl
    have u1 : unitI 1 = 32 := rfl
    have u2 : unitI 2 = 48 := rfl
    have u3 : unitI 3 = 64 := rfl
    have u4 : unitI 4 = 96 := rfl
    have u5 : unitI 5 = 128 := rfl
    have u6 : unitI 6 = 192 := rfl
    have u7 : unitI 7 = 256 := rfl
    rcases hc with rfl | rfl | rfl | rfl | rfl | rfl | rfl | rfl
    all_goals
      simp only [u0, u1, u2, u3, u4, u5, u6, u7] at HU
      clear u0 u1 u2 u3 u4 u5 u6 u7
      go_enter Tryd.func26, Tryd.ntmps26
      go_wp2_with fail
      refine HU.out.mono ?_
      rintro e w2 ⟨rfl, hk⟩
      have HK2 := hid hk
      clear hk
      go_wp2
      go_ret
      exact ⟨rfl, HK2.out⟩
  · have hu : Hid (perI c = 0) := show perI c = 0 by
      unfold perI; repeat' split
      all_goals omega
    by_cases h0 : c < 0
    · clear hs HU
      go_enter Tryd.func26, Tryd.ntmps26
      go_wp2
      go_ret
      exact ⟨by rw [hu.out]; rfl, HK.out⟩
    · have h1 : 7 < c := by omega
      clear hs HU
      go_enter Tryd.func26, Tryd.ntmps26
      go_wp2
      go_ret
      exact ⟨by rw [hu.out]; rfl, HK.out⟩
set_option maxRecDepth 20000 in
theorem r_pages (c : Int) {w0 w : World} (k : K w0 w) : Calls Tryd.prog 27 #[.int .i64 c] w fun e w' => e = .returned (.int .i64 (pagesI c)) ∧ K w0 w' := by
  have HK := hid k
  clear k
  by_cases h0 : c < 0
  · have hu : Hid (pagesI c = 0) := show pagesI c = 0 by
      unfold pagesI; repeat' split
      all_goals omega
    go_enter Tryd.func27, Tryd.ntmps27
    go_wp2
    go_ret
    exact ⟨by rw [hu.out]; rfl, HK.out⟩
  · by_cases h1 : 23 < c
    · have hu : Hid (pagesI c = 0) := show pagesI c = 0 by
        unfold pagesI; repeat' split
        all_goals omega
      go_enter Tryd.func27, Tryd.ntmps27
      go_wp2
      go_ret
      exact ⟨by rw [hu.out]; rfl, HK.out⟩
    · have hu : Hid (pagesI c = max (c - 7) 1) := show pagesI c = max (c - 7) 1 by
        unfold pagesI; repeat' split
        all_goals omega
      go_enter Tryd.func27, Tryd.ntmps27
      go_wp2
      all_goals
        go_ret
        exact ⟨by rw [hu.out]; go_num, HK.out⟩
theorem align_step (c : Int) (h0 : 0 ≤ c) (h1 : c ≤ 23) (j : Nat) (hj : j ≤ 9) (hle : (2 : Int) ^ j ≤ alignI c) :
    ((2 : Int) ^ j < 512 ∧ unitI c % (2 * 2 ^ j) = 0 → 2 * (2 : Int) ^ j ≤ alignI c ∧ j < 9) ∧ (¬ ((2 : Int) ^ j < 512 ∧ unitI c % (2 * 2 ^ j) = 0) → alignI c = 2 ^ j) := by
  have key : ∀ (a : Fin 24) (j : Fin 10), (2 : Int) ^ j.val ≤ alignI (a.val : Int) → ((2 : Int) ^ j.val < 512 ∧ unitI (a.val : Int) % (2 * 2 ^ j.val) = 0 → 2 * (2 : Int) ^ j.val ≤ alignI (a.val : Int) ∧ j.val < 9) ∧ (¬ ((2 : Int) ^ j.val < 512 ∧ unitI (a.val : Int) % (2 * 2 ^ j.val) = 0) → alignI (a.val : Int) = 2 ^ j.val) := by decide +kernel
  obtain ⟨a, rfl⟩ := fin24 c h0 h1
  exact key a ⟨j, by omega⟩ hle
set_option maxRecDepth 20000 in
theorem r_align (c : Int) {w0 w : World} (k : K w0 w) : Calls Tryd.prog 17 #[.int .i64 c] w fun e w' => e = .returned (.int .i64 (alignI c)) ∧ K w0 w' := by
  have HK := hid k
  clear k
  by_cases h0 : c < 0
  · have hu : Hid (alignI c = 0) := show alignI c = 0 by unfold alignI; rw [if_pos h0]
    go_enter Tryd.func17, Tryd.ntmps17
    go_wp2
    go_ret
    exact ⟨by rw [hu.out]; rfl, HK.out⟩
  · by_cases h1 : 23 < c
    · have hu : Hid (alignI c = 0) := show alignI c = 0 by
        unfold alignI; repeat' split
        all_goals omega
      go_enter Tryd.func17, Tryd.ntmps17
      go_wp2
      go_ret
      exact ⟨by rw [hu.out]; rfl, HK.out⟩
    · have HA : Hid (∀ (j : Nat) (_ : j ≤ 9) (_ : (2 : Int) ^ j ≤ alignI c), ((2 : Int) ^ j < 512 ∧ unitI c % (2 * 2 ^ j) = 0 → 2 * (2 : Int) ^ j ≤ alignI c ∧ j < 9) ∧ (¬ ((2 : Int) ^ j < 512 ∧ unitI c % (2 * 2 ^ j) = 0) → alignI c = 2 ^ j)) := fun j hj hle => align_step c (by omega) (by omega) j hj hle
      have HU : Hid (∀ {w : World}, K w0 w → Calls Tryd.prog 16 #[.int .i64 c] w fun e w' => e = .returned (.int .i64 (unitI c)) ∧ K w0 w') := fun h => r_unit _ h
      have h8 : 8 ≤ alignI c := (alignI_divides c (by omega) (by omega)).1
      have hur := unitI_range c (by omega) (by omega)
      generalize unitI c = u at *
      generalize alignI c = al at *
      obtain ⟨hu1, hu2⟩ := hur
      go_enter Tryd.func17, Tryd.ntmps17
      go_wp2
      go_loopw [3] (fun i wr => ∃ j : Nat, j ≤ 9 ∧ i = .int .i64 (2 ^ j) ∧ K w0 wr ∧ (2 : Int) ^ j ≤ al) (fun i _ => 512 - (intOf i).toNat)
      case atStart => exact ⟨0, by omega, rfl, HK.out, by omega⟩
      case round =>
        obtain ⟨j, hj, rfl, hk, hle⟩ := hrel
        have hpow : 1 ≤ (2 : Int) ^ j ∧ (2 : Int) ^ j ≤ 512 := by
          have : ∀ j : Fin 10, 1 ≤ (2 : Int) ^ j.val ∧ (2 : Int) ^ j.val ≤ 512 := by decide
          exact this ⟨j, by omega⟩
        have hs : Hid ((2 : Int) ^ (j + 1) = 2 * 2 ^ j) := show (2 : Int) ^ (j + 1) = 2 * 2 ^ j by rw [Int.pow_succ]; omega
        obtain ⟨hA, hB⟩ := HA.out j hj hle
        have HR := hid hk
        have HC := hid (HU.out hk)
        clear hk HK HA HU h0 h1
        have hrel2 : Hid (∀ wr, K w0 wr → 2 * (2 : Int) ^ j ≤ al ∧ j < 9 → ∃ i : Nat, i ≤ 9 ∧ Value.int .i64 (2 * 2 ^ j) = .int .i64 (2 ^ i) ∧ K w0 wr ∧ (2 : Int) ^ i ≤ al) := fun wr hk h => ⟨j + 1, by omega, by rw [hs.out], hk, by rw [hs.out]; exact h.1⟩
        clear hs
        generalize (2 : Int) ^ j = p at *
        obtain ⟨hp1, hp2⟩ := hpow
        have hm : u.tmod (2 * p) = u % (2 * p) := Int.tmod_eq_emod_of_nonneg (by omega)
        by_cases hlt : p < 512
        · by_cases hz : u % (2 * p) = 0
          · have hA := hid (hA ⟨hlt, hz⟩)
            rw [hz] at hm
            clear hz hB
            go_wp2_with fail
            refine HC.out.mono ?_
            rintro e w2 ⟨rfl, hk⟩
            have HK := hid hk
            clear hk HR HC
            go_wp2
            go_roundw
            case rel => exact hrel2.out _ HK.out hA.out
            case measure => simp [intOf]; omega
          · have he := hid (hB fun h => hz h.2)
            have hz' : (u % (2 * p) == 0) = false := by simpa using hz
            clear hA hB hm hz
            go_wp2_with fail
            refine HC.out.mono ?_
            rintro e w2 ⟨rfl, hk⟩
            have HK := hid hk
            clear hk HR HC
            go_wp2
            go_ret
            exact ⟨by rw [he.out]; rfl, HK.out⟩
        · have he := hid (hB fun h => hlt h.1)
          clear hA hB hm HC
          go_wp2
          go_ret
          exact ⟨by rw [he.out]; rfl, HR.out⟩
end Go.Proofs.YtkhppfbhhfajgaaDoor
