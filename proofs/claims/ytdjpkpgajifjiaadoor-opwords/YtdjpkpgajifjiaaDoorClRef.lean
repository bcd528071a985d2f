/-
  What the document's own answers are, each for every number.
-/
import Derived.Test.YtdjpkpgajifjiaaDoorClCalls
namespace Go.Proofs.YtdjpkpgajifjiaaDoor
open Go.RowKit

theorem unitI_zero (c : Int) (h : c < 0 ∨ 23 < c) : unitI c = 0 := by
  unfold unitI; repeat' split
  all_goals omega
theorem unitI_runs (c : Int) (h1 : 8 ≤ c) (h2 : c ≤ 23) : unitI c = (c - 7) * 512 := by
  have := unitI_run (c - 7) (by omega) (by omega)
  rwa [show 7 + (c - 7) = c by omega] at this
set_option maxRecDepth 20000 in
set_option maxHeartbeats 1000000 in
theorem r_unit_small (c : Int) {w0 w : World} (k : K w0 w) (hs : 0 ≤ c ∧ c ≤ 7) : Calls Tryd.prog 24 #[.int .i64 c] w fun e w' => e = .returned (.int .i64 (unitI c)) ∧ K w0 w' := by
  have HK := hid k
  clear k
  have hc : c = 0 ∨ c = 1 ∨ c = 2 ∨ c = 3 ∨ c = 4 ∨ c = 5 ∨ c = 6 ∨ c = 7 := by omega
  clear hs
  rcases hc with rfl | rfl | rfl | rfl | rfl | rfl | rfl | rfl
  all_goals
    go_enter Tryd.func24, Tryd.ntmps24
    go_wp2
    go_ret
    exact ⟨rfl, HK.out.on ((Fr.refl _ _).alloc _)⟩
set_option maxRecDepth 20000 in
theorem r_unit (c : Int) {w0 w : World} (k : K w0 w) : Calls Tryd.prog 24 #[.int .i64 c] w fun e w' => e = .returned (.int .i64 (unitI c)) ∧ K w0 w' := by
  have HK := hid k
  clear k
  by_cases hs : 0 ≤ c ∧ c ≤ 7
  · exact r_unit_small c HK.out hs
  · by_cases hr : 8 ≤ c ∧ c ≤ 23
    · have hu : Hid (unitI c = (c - 7) * 512) := unitI_runs c hr.1 hr.2
      clear hs
      obtain ⟨h1, h2⟩ := hr
      have h0 : ¬ c < 0 := by omega
      have h8 : ¬ c < 8 := by omega
      go_enter Tryd.func24, Tryd.ntmps24
      go_wp2
      go_ret
      exact ⟨by rw [hu.out]; go_num, HK.out.on ((Fr.refl _ _).alloc _)⟩
    · have hu : Hid (unitI c = 0) := unitI_zero c (by omega)
      by_cases h0 : c < 0
      · clear hs hr
        go_enter Tryd.func24, Tryd.ntmps24
        go_wp2
        go_ret
        exact ⟨by rw [hu.out]; rfl, HK.out.on ((Fr.refl _ _).alloc _)⟩
      · have h1 : 23 < c := by omega
        clear hs hr
        go_enter Tryd.func24, Tryd.ntmps24
        go_wp2
        go_ret
        exact ⟨by rw [hu.out]; rfl, HK.out.on ((Fr.refl _ _).alloc _)⟩

set_option maxRecDepth 20000 in
theorem r_of (n : Int) {w0 w : World} (k : K w0 w) : Calls Tryd.prog 22 #[.int .i64 n] w fun e w' => e = .returned (.int .i64 (ofI n)) ∧ K w0 w' := by
  have HK := hid k
  clear k
  by_cases h1 : n < 1
  · have he : Hid (ofI n = -1) := (ofI_none n).2 (.inl h1)
    go_enter Tryd.func22, Tryd.ntmps22
    go_wp2
    go_ret
    exact ⟨by rw [he.out]; rfl, HK.out⟩
  · go_enter Tryd.func22, Tryd.ntmps22
    go_wp2
    go_loopw [3] (fun i wr => ∃ j : Nat, j ≤ 24 ∧ i = .int .i64 j ∧ K w0 wr ∧ ∀ d : Int, 0 ≤ d → d < j → unitI d < n) (fun i _ => 24 - (intOf i).toNat)
    case atStart => exact ⟨0, by omega, rfl, HK.out, fun d h0 hd => by omega⟩
    case round =>
      obtain ⟨j, hj, rfl, hk, hb⟩ := hrel
      have HC := hid (r_unit j hk)
      have HB := hid hb
      have HR := hid hk
      clear hb hk HK
      by_cases hlt : j < 24
      · by_cases hu : unitI j < n
        · have hb' : Hid (∀ d : Int, 0 ≤ d → d < ((j + 1 : Nat) : Int) → unitI d < n) := fun d h0 hd => by
            rcases Int.lt_or_le d j with h | h
            · exact HB.out d h0 h
            · obtain rfl : d = j := by omega
              exact hu
          generalize unitI j = u at *
          go_wp2_with fail
          refine HC.out.mono ?_
          rintro e w2 ⟨rfl, hk⟩
          have HK := hid hk
          clear hk
          go_wp2
          go_roundw
          case rel => exact ⟨j + 1, by omega, by go_num, HK.out, hb'.out⟩
          case measure => simp [intOf]; omega
        · have he : Hid (ofI n = j) := ofI_unique n j (by omega) (by omega) (by omega) (by omega) HB.out
          generalize unitI j = u at *
          go_wp2_with fail
          refine HC.out.mono ?_
          rintro e w2 ⟨rfl, hk⟩
          have HK := hid hk
          clear hk
          go_wp2
          go_ret
          exact ⟨by rw [he.out]; rfl, HK.out⟩
      · obtain rfl : j = 24 := by omega
        have he : Hid (ofI n = -1) := (ofI_none n).2 (.inr (by have := HB.out 23 (by omega) (by omega); have e : unitI 23 = 8192 := rfl; omega))
        clear HC HB hlt
        go_wp2
        go_ret
        exact ⟨by rw [he.out]; rfl, HR.out⟩

theorem align_step (c : Int) (h0 : 0 ≤ c) (h1 : c ≤ 23) (j : Nat) (hj : j ≤ 9) (hle : (2 : Int) ^ j ≤ alignI c) :
    ((2 : Int) ^ j < 512 ∧ unitI c % (2 * 2 ^ j) = 0 → 2 * (2 : Int) ^ j ≤ alignI c ∧ j < 9) ∧ (¬ ((2 : Int) ^ j < 512 ∧ unitI c % (2 * 2 ^ j) = 0) → alignI c = 2 ^ j) := by
  have key : ∀ (a : Fin 24) (j : Fin 10), (2 : Int) ^ j.val ≤ alignI (a.val : Int) → ((2 : Int) ^ j.val < 512 ∧ unitI (a.val : Int) % (2 * 2 ^ j.val) = 0 → 2 * (2 : Int) ^ j.val ≤ alignI (a.val : Int) ∧ j.val < 9) ∧ (¬ ((2 : Int) ^ j.val < 512 ∧ unitI (a.val : Int) % (2 * 2 ^ j.val) = 0) → alignI (a.val : Int) = 2 ^ j.val) := by decide +kernel
  obtain ⟨a, rfl⟩ := fin24 c h0 h1
  exact key a ⟨j, by omega⟩ hle
set_option maxRecDepth 20000 in
theorem r_charge (n : Int) {w0 w : World} (k : K w0 w) : Calls Tryd.prog 16 #[.int .i64 n] w fun e w' => e = .returned (.int .i64 (chargeI n)) ∧ K w0 w' := by
  have HO := hid (r_of n k)
  clear k
  by_cases h0 : ofI n < 0
  · have hu : Hid (chargeI n = 0) := show chargeI n = 0 by unfold chargeI; rw [if_pos h0]
    generalize ofI n = o at *
    go_enter Tryd.func16, Tryd.ntmps16
    go_wp2_with fail
    refine HO.out.mono ?_
    rintro e w2 ⟨rfl, hk⟩
    have HK2 := hid hk
    clear hk
    go_wp2
    go_ret
    exact ⟨by rw [hu.out]; rfl, HK2.out⟩
  · have hu : Hid (chargeI n = unitI (ofI n)) := show chargeI n = unitI (ofI n) by unfold chargeI; rw [if_neg h0]
    rw [hu.out]
    have HR : Hid (∀ {w : World}, K w0 w → Calls Tryd.prog 22 #[.int .i64 n] w fun e w' => e = .returned (.int .i64 (ofI n)) ∧ K w0 w') := fun h => r_of n h
    have HU : Hid (∀ {w : World}, K w0 w → Calls Tryd.prog 24 #[.int .i64 (ofI n)] w fun e w' => e = .returned (.int .i64 (unitI (ofI n))) ∧ K w0 w') := fun h => r_unit _ h
    clear hu
    generalize unitI (ofI n) = u at *
    generalize ofI n = o at *
    go_enter Tryd.func16, Tryd.ntmps16
    go_wp2_with fail
    refine HO.out.mono ?_
    rintro e w2 ⟨rfl, hk⟩
    have HK2 := hid hk
    clear hk
    go_wp2_with fail
    refine (HR.out HK2.out).mono ?_
    rintro e w3 ⟨rfl, hk⟩
    have HK3 := hid hk
    clear hk
    go_wp2_with fail
    refine (HU.out HK3.out).mono ?_
    rintro e w4 ⟨rfl, hk⟩
    have HK4 := hid hk
    clear hk
    go_wp2
    go_ret
    exact ⟨rfl, HK4.out⟩
end Go.Proofs.YtdjpkpgajifjiaaDoor
