/-
  The law DemandParts, walked.
-/
import Derived.Test.YtcfeeeloceeicaaDoorDmAwake
import Derived.Deep.RegionHeld
namespace Go.Proofs.YtcfeeeloceeicaaDoor
open Go.RowKit

/-- What the law reckons of a kind. -/
theorem part_nums (c q : Int) (h0 : 0 ≤ c) (h1 : c ≤ 7) (hq : May q) : ∃ m1 m2 d m3, byI c q * perI c = m1 ∧ m1 * unitI c = m2 ∧ Int.tdiv q (unitI c) = d ∧ d * unitI c = m3 ∧ 0 ≤ m1 ∧ m1 ≤ 131072 ∧ 0 ≤ m2 ∧ m2 ≤ 33554432 ∧ 0 ≤ d ∧ d ≤ 65536 ∧ 0 ≤ m3 ∧ m3 ≤ 65536 ∧ m3 ≤ m2 := by
  obtain ⟨u1, u2, p1, p2, _⟩ := small_unit c h0 h1
  have b0 := byI_nonneg c q
  have b1 := byI_small c q
  have hqq := hq
  unfold May at hqq
  have hd : Int.tdiv q (unitI c) = q / unitI c := Int.tdiv_eq_ediv_of_nonneg (by omega)
  have hd0 : 0 ≤ q / unitI c := Int.ediv_nonneg (by omega) (by omega)
  have hd1 := Int.ediv_le_self (unitI c) (show 0 ≤ q by omega)
  have e := byI_enough c q h0 h1 hq
  have m0 : 0 ≤ byI c q * perI c := Int.mul_nonneg b0 (by omega)
  have m1 : byI c q * perI c ≤ 4096 * 32 := Int.mul_le_mul b1 p2 (by omega) (by decide)
  have d3 := Int.ediv_mul_le q (show unitI c ≠ 0 by omega)
  refine ⟨_, _, _, _, rfl, rfl, hd, rfl, m0, by omega, Int.mul_nonneg m0 (by omega), ?_, hd0, by omega, Int.mul_nonneg hd0 (by omega), by omega, Int.mul_le_mul_of_nonneg_right e (by omega)⟩
  have := Int.mul_le_mul m1 u2 (by omega) (by decide)
  omega
set_option maxRecDepth 20000 in
set_option maxHeartbeats 2000000 in
theorem parts_walk (q : Int) (w0 : World) (hT : Tab w0) : Calls Tryd.prog 6 #[.int .i64 q] w0 fun e w' => e = .returned (.bool true) ∧ Fr (fun _ => False) w0 w' := by
  have HK0 := hid (K.start hT)
  have H1 : Hid _ := fun w (k : K w0 w) => d_of q k
  have HA : Hid _ := fun w (k : K w0 w) => awake_any k
  have HR : Hid _ := fun w (k : K w0 w) => d_runs q k
  clear hT
  by_cases hq : May q
  · have HB : Hid _ := fun w c (k : K w0 w) => d_by c q k
    have HP : Hid _ := fun w (k : K w0 w) => b_pages (qu_rt q) k
    have HX : Hid _ := fun (j : Nat) (hj : j < 8) => part_nums (j : Int) q (by omega) (by omega) hq
    have HY : Hid _ := fun (j : Nat) (hj : j < 8) => sumBy_part q 8 j hj
    have hr := runsI_range q
    have ht := takesI_range q
    have hs8 : Hid (takesI q = sumBy q 8 + runsI q) := rfl
    have hr0 := hid (runsI_range q)
    rw [(qu_yes hq).1, (qu_yes hq).2] at H1
    rw [(qu_yes hq).1] at HP
    have HQ := hid hq
    have H8 := hid fun w (k : K w0 w) => d_by 8 q k
    have H9 := hid fun w (k : K w0 w) => d_by (-1) q k
    rw [byI_out 8 q (by omega)] at H8
    rw [byI_out (-1) q (by omega)] at H9
    unfold May at hq
    generalize fb q = x at *
    generalize hy : fb (takesI q) = y at *
    clear hy
    go_enter Tryd.func6, Tryd.ntmps6
    go_wp2_with fail
    refine (H1.out _ HK0.out).mono ?_
    rintro e w1 ⟨rfl, hk⟩
    have HK1 := hid hk
    clear hk HK0 H1
    go_wp2_with fail
    refine (HA.out _ HK1.out).mono ?_
    rintro e w2 ⟨rfl, hk⟩
    have HK2 := hid hk
    clear hk HK1 HA
    go_wp2_with fail
    refine (HR.out _ HK2.out).mono ?_
    rintro e w3 ⟨rfl, hk⟩
    have HK3 := hid hk
    clear hk HK2 HR
    go_wp2
    go_loopw [5, 6, 7, 32] (fun n _ _ i wr => ∃ j : Nat, j ≤ 8 ∧ i = .int .i64 j ∧ n = .int .i64 (runsI q + sumBy q j) ∧ Hid (K w0 wr)) (fun _ _ _ i _ => 8 - (intOf i).toNat)
    case atStart => exact ⟨0, by omega, rfl, by simp [sumBy], HK3⟩
    case round =>
      obtain ⟨j, hj, rfl, rfl, HK⟩ := hrel
      clear HK3
      by_cases hlt : j < 8
      · obtain ⟨m1, m2, d, m3, e1, e2, e3, e4, a1, a2, a3, a4, a5, a6, a7, a8, a9⟩ := HX.out j hlt
        have hle := HY.out j hlt
        have hsb := sumBy_nonneg q j
        have hsc := sumBy_small q j
        have hb0 := byI_nonneg j q
        have hb1 := byI_small j q
        have hs : Hid (runsI q + sumBy q (j + 1) = runsI q + sumBy q j + byI j q) := by
          show _ = _
          simp only [sumBy]; omega
        have hss : 0 ≤ runsI q + sumBy q j ∧ runsI q + sumBy q j ≤ 40000 := by omega
        have hle2 : byI j q ≤ takesI q := by rw [hs8.out]; omega
        have HB' : Hid _ := fun w (k : K w0 w) => HB.out w j k
        have HU : Hid _ := fun w (k : K w0 w) => r_unit j k
        have HE : Hid _ := fun w (k : K w0 w) => r_per j k
        obtain ⟨u1, u2, p1, p2, _⟩ := small_unit j (by omega) (by omega)
        generalize byI (j : Int) q = b at *
        generalize takesI q = t at *
        generalize runsI q + sumBy q j = s at *
        generalize unitI (j : Int) = u at *
        generalize perI (j : Int) = p at *
        have w1 : IntKind.i64.wrap (b * p) = m1 := by rw [e1, IntKind.wrap_i64]; omega
        have w2 : IntKind.i64.wrap (m1 * u) = m2 := by rw [e2, IntKind.wrap_i64]; omega
        have w3 : IntKind.i64.wrap d = d := by rw [IntKind.wrap_i64]; omega
        have w4 : IntKind.i64.wrap (d * u) = m3 := by rw [e4, IntKind.wrap_i64]; omega
        have w5 : decide (m2 < m3) = false := by simp; omega
        have w6 : decide (t < b) = false := by simp; omega
        have w7 : decide (b < 0) = false := by simp; omega
        clear e1 e2 e4
        go_wp2_with fail
        refine (HB'.out _ HK.out).mono ?_
        rintro e wa ⟨rfl, hk⟩
        have HKa := hid hk
        clear hk HK HB' HB
        go_wp2_with fail
        go_region_held (fun _ => True) (trivial) (first | (go_at_call 17; refine (HP.out _ (HKa.out.on (Fr.refl _ _).drew)).mono ?_; rintro e wb ⟨rfl, hk⟩; have HKc := hid hk; clear hk) | (go_at_call 23; refine (HE.out _ HKc.out).mono ?_; rintro e wb ⟨rfl, hk⟩; replace HKc := hid hk; clear hk) | (go_at_call 25; refine (HU.out _ HKc.out).mono ?_; rintro e wb ⟨rfl, hk⟩; replace HKc := hid hk; clear hk))
        all_goals
          go_wp2
          go_roundw
          case rel => exact ⟨j + 1, by omega, by go_num, by rw [hs.out], HKc⟩
          case measure => simp [intOf]; omega
      · obtain rfl : j = 8 := by omega
        have hsum : runsI q + sumBy q 8 = takesI q := by rw [hs8.out, Int.add_comm]
        rw [hsum]
        clear hsum hs8
        generalize takesI q = t at *
        go_wp2_with fail
        refine (HP.out _ HK.out).mono ?_
        rintro e w4 ⟨rfl, hk⟩
        have HK4 := hid hk
        clear hk HK
        go_wp2_with fail
        refine (H8.out _ HK4.out).mono ?_
        rintro e w5 ⟨rfl, hk⟩
        have HK5 := hid hk
        clear hk HK4
        go_wp2_with fail
        refine (H9.out _ HK5.out).mono ?_
        rintro e w6 ⟨rfl, hk⟩
        have HK6 := hid hk
        clear hk HK5
        go_wp2
        go_ret
        exact ⟨by simp, HK6.out.fr⟩
  · have H8 := hid fun w (k : K w0 w) => d_by 0 q k
    rw [byI_out 0 q (fun h => hq h.2.2)] at H8
    rw [(qu_no hq).2.1] at H1
    rw [show runsI q = 0 by unfold runsI; rw [if_neg hq]] at HR
    clear hq
    generalize fb (quA q) = x at *
    generalize fb (takesI q) = y at *
    go_enter Tryd.func6, Tryd.ntmps6
    go_wp2_with fail
    refine (H1.out _ HK0.out).mono ?_
    rintro e w1 ⟨rfl, hk⟩
    have HK1 := hid hk
    clear hk HK0
    go_wp2_with fail
    refine (HA.out _ HK1.out).mono ?_
    rintro e w2 ⟨rfl, hk⟩
    have HK2 := hid hk
    clear hk HK1
    go_wp2_with fail
    refine (HA.out _ HK2.out).mono ?_
    rintro e w3 ⟨rfl, hk⟩
    have HK3 := hid hk
    clear hk HK2
    go_wp2_with fail
    refine (H8.out _ HK3.out).mono ?_
    rintro e w4 ⟨rfl, hk⟩
    have HK4 := hid hk
    clear hk HK3
    go_wp2_with fail
    refine (HR.out _ HK4.out).mono ?_
    rintro e w5 ⟨rfl, hk⟩
    have HK5 := hid hk
    clear hk HK4
    go_wp2
    go_ret
    exact ⟨by simp, HK5.out.fr⟩
end Go.Proofs.YtcfeeeloceeicaaDoor
