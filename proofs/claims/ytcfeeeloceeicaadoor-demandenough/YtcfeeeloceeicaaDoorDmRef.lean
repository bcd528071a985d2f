/-
  What the document's own answers on quotas are.
-/
import Derived.Test.YtcfeeeloceeicaaDoorClRef
import Derived.Test.YtcfeeeloceeicaaDoorDmBase
namespace Go.Proofs.YtcfeeeloceeicaaDoor
open Go.RowKit

theorem e_may (q : Int) (w : World) : Calls Tryd.prog 9 #[.int .i64 q] w fun e w' => e = .returned (.bool (decide (May q))) ∧ w' = w := by
  by_cases h0 : 1 ≤ q
  · by_cases h1 : q ≤ 65536
    · have hm : Hid (decide (May q) = true) := decide_eq_true (p := May q) ⟨h0, h1⟩
      generalize decide (May q) = b at *
      go_enter Tryd.func9, Tryd.ntmps9
      go_wp2
      go_ret
      exact ⟨by rw [hm.out]; rfl, rfl⟩
    · have hm : Hid (decide (May q) = false) := decide_eq_false (p := May q) fun h => h1 h.2
      generalize decide (May q) = b at *
      go_enter Tryd.func9, Tryd.ntmps9
      go_wp2
      go_ret
      exact ⟨by rw [hm.out]; rfl, rfl⟩
  · have hm : Hid (decide (May q) = false) := decide_eq_false (p := May q) fun h => h0 h.1
    generalize decide (May q) = b at *
    go_enter Tryd.func9, Tryd.ntmps9
    go_wp2
    go_ret
    exact ⟨by rw [hm.out]; rfl, rfl⟩
set_option maxHeartbeats 1000000 in
theorem e_by (c q : Int) {w0 w : World} (k : K w0 w) : Calls Tryd.prog 12 #[.int .i64 c, .int .i64 q] w fun e w' => e = .returned (.int .i64 (byI c q)) ∧ K w0 w' := by
  have HK := hid k
  have HM := hid fun w => e_may q w
  clear k
  by_cases h0 : c < 0
  · have hb := hid (byI_out c q (fun h => by omega))
    go_enter Tryd.func12, Tryd.ntmps12
    go_wp2
    go_ret
    exact ⟨by rw [hb.out]; rfl, HK.out⟩
  by_cases h1 : 7 < c
  · have hb := hid (byI_out c q (fun h => by omega))
    go_enter Tryd.func12, Tryd.ntmps12
    go_wp2
    go_ret
    exact ⟨by rw [hb.out]; rfl, HK.out⟩
  by_cases hq : May q
  · rw [decide_eq_true hq] at HM
    have HU := hid fun w (k : K w0 w) => r_unit c k
    have HP := hid fun w (k : K w0 w) => r_per c k
    obtain ⟨u1, u2, p1, p2, p3⟩ := small_unit c (by omega) (by omega)
    have HB1 := hid fun n => byI_more' c q n (by omega) (by omega) hq
    have HB2 := hid fun n => byI_le c q n (by omega) (by omega) hq
    have hbs := byI_small c q
    have hb0 := byI_nonneg c q
    have hqq := hq
    unfold May at hqq
    have hk0 : 0 ≤ q / unitI c := Int.ediv_nonneg (by omega) (by omega)
    have hk1 : q / unitI c ≤ 65536 := by
      have := Int.ediv_le_self (unitI c) (show 0 ≤ q by omega); omega
    have hd : Int.tdiv q (unitI c) = q / unitI c := Int.tdiv_eq_ediv_of_nonneg (by omega)
    clear hq
    generalize unitI c = u at *
    generalize perI c = p at *
    generalize byI c q = B at *
    generalize hkk : q / u = k at *
    clear hkk
    have hw : IntKind.i64.wrap k = k := by rw [IntKind.wrap_i64]; omega
    clear p3
    obtain ⟨b, rfl⟩ : ∃ b : Nat, B = (b : Int) := ⟨B.toNat, by omega⟩
    go_enter Tryd.func12, Tryd.ntmps12
    go_wp2_with fail
    refine (HM.out _).mono ?_
    rintro e w1 ⟨rfl, hw1⟩
    obtain rfl := hw1.symm
    clear hw1
    go_wp2_with fail
    refine (HU.out _ HK.out).mono ?_
    rintro e w2 ⟨rfl, hk⟩
    have HK2 := hid hk
    clear hk HK
    go_wp2
    clear hd hw
    go_loopw [6] (fun n wr => ∃ j : Nat, j ≤ b ∧ n = .int .i64 j ∧ Hid (K w0 wr)) (fun n _ => b - (intOf n).toNat)
    case atStart => exact ⟨0, by omega, rfl, HK2⟩
    case round =>
      obtain ⟨j, hj, rfl, HK⟩ := hrel
      have hjp : 0 ≤ (j : Int) * p ∧ (j : Int) * p ≤ 4096 * 32 := by
        refine ⟨Int.mul_nonneg (by omega) (by omega), Int.mul_le_mul (by omega) p2 (by omega) (by decide)⟩
      have hwj : IntKind.i64.wrap ((j : Int) * p) = (j : Int) * p := by rw [IntKind.wrap_i64]; omega
      have hb1 := HB1.out j
      have hb2 := HB2.out j
      by_cases hlt : (j : Int) * p < k
      · have hjb : (j : Int) + 1 ≤ b := hb1 hlt
        clear hb1 hb2
        go_wp2_with fail
        refine (HP.out _ HK.out).mono ?_
        rintro e w3 ⟨rfl, hk⟩
        have HK3 := hid hk
        clear hk HK
        go_wp2
        go_roundw
        case rel => exact ⟨j + 1, by omega, by go_num, HK3⟩
        case measure => simp [intOf]; omega
      · have hjb : (b : Int) ≤ j := hb2 (by omega)
        clear hb1 hb2
        go_wp2_with fail
        refine (HP.out _ HK.out).mono ?_
        rintro e w3 ⟨rfl, hk⟩
        have HK3 := hid hk
        clear hk HK
        go_wp2
        go_ret
        exact ⟨by go_num, HK3.out⟩
  · rw [decide_eq_false hq] at HM
    have hb := hid (byI_out c q (fun h => hq h.2.2))
    clear hq
    go_enter Tryd.func12, Tryd.ntmps12
    go_wp2_with fail
    refine (HM.out _).mono ?_
    rintro e w1 ⟨rfl, hw1⟩
    obtain rfl := hw1.symm
    clear hw1
    go_wp2
    go_ret
    exact ⟨by rw [hb.out]; rfl, HK.out⟩
set_option maxHeartbeats 1000000 in
theorem e_pages (q : Int) {w0 w : World} (k : K w0 w) : Calls Tryd.prog 14 #[.int .i64 q] w fun e w' => e = .returned (.int .i64 (takesI q)) ∧ K w0 w' := by
  have HK := hid k
  have HM := hid fun w => e_may q w
  have HB := hid fun (j : Nat) w (k : K w0 w) => e_by j q k
  clear k
  go_enter Tryd.func14, Tryd.ntmps14
  go_wp2
  go_loopw [3, 4] (fun n i wr => ∃ j : Nat, j ≤ 8 ∧ i = .int .i64 j ∧ n = .int .i64 (sumBy q j) ∧ Hid (K w0 wr)) (fun _ i _ => 8 - (intOf i).toNat)
  case atStart => exact ⟨0, by omega, rfl, rfl, HK⟩
  case round =>
    obtain ⟨j, hj, rfl, rfl, HK⟩ := hrel
    by_cases hlt : j < 8
    · have HB' := hid fun w k => HB.out j w k
      have s0 := sumBy_nonneg q j
      have s1 := sumBy_small q j
      have b0 := byI_nonneg j q
      have b1 := byI_small j q
      have hs : Hid (sumBy q (j + 1) = sumBy q j + byI j q) := rfl
      generalize sumBy q j = s at *
      generalize byI (j : Int) q = b at *
      go_wp2_with fail
      refine (HB'.out _ HK.out).mono ?_
      rintro e w3 ⟨rfl, hk⟩
      have HK3 := hid hk
      clear hk HK HB'
      go_wp2
      go_roundw
      case rel => exact ⟨j + 1, by omega, by go_num, by rw [hs.out], HK3⟩
      case measure => simp [intOf]; omega
    · obtain rfl : j = 8 := by omega
      have s0 := sumBy_nonneg q 8
      have s1 := sumBy_small q 8
      have hs : Hid (takesI q = sumBy q 8 + runsI q) := rfl
      by_cases hq : May q
      · rw [decide_eq_true hq] at HM
        have hr : Hid (runsI q = q / 512) := by show _ = _; unfold runsI; rw [if_pos hq]
        unfold May at hq
        have hd : Int.tdiv q 512 = q / 512 := Int.tdiv_eq_ediv_of_nonneg (by omega)
        generalize sumBy q 8 = s at *
        go_wp2_with fail
        refine (HM.out _).mono ?_
        rintro e w1 ⟨rfl, hw1⟩
        obtain rfl := hw1.symm
        clear hw1
        go_wp2
        go_ret
        exact ⟨by rw [hs.out, hr.out]; go_num, HK.out⟩
      · rw [decide_eq_false hq] at HM
        have hr : Hid (runsI q = 0) := by show _ = _; unfold runsI; rw [if_neg hq]
        generalize sumBy q 8 = s at *
        clear hq
        go_wp2_with fail
        refine (HM.out _).mono ?_
        rintro e w1 ⟨rfl, hw1⟩
        obtain rfl := hw1.symm
        clear hw1
        go_wp2
        go_ret
        exact ⟨by rw [hs.out, hr.out, Int.add_zero]; rfl, HK.out⟩
end Go.Proofs.YtcfeeeloceeicaaDoor
