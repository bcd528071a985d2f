/-
  What the calls of package demand answer, at the landed code.
-/
import Derived.Test.YtcfeeeloceeicaaDoorClRef
import Derived.Test.YtcfeeeloceeicaaDoorDmBase
import Derived.Test.YtcfeeeloceeicaaDoorSuCalls
namespace Go.Proofs.YtcfeeeloceeicaaDoor
open Go.RowKit

theorem perI_out (c : Int) (h : c < 0 ∨ 8 ≤ c) : perI c = 0 := by
  unfold perI
  rcases h with h | h
  · rw [if_pos h]
  · rw [if_neg (by omega), if_neg (by omega), if_neg (by omega), if_neg (by omega), if_neg (by omega), if_neg (by omega), if_neg (by omega), if_neg (by omega), if_neg (by omega)]
theorem m_may (q : Int) (w : World) : Calls Tryd.prog 26 #[.int .i64 q] w fun e w' => e = .returned (.bool (decide (May q))) ∧ w' = w := by
  by_cases h0 : 1 ≤ q
  · by_cases h1 : q ≤ 65536
    · have hm : Hid (decide (May q) = true) := decide_eq_true (p := May q) ⟨h0, h1⟩
      generalize decide (May q) = b at *
      go_enter Tryd.func26, Tryd.ntmps26
      go_wp2
      go_ret
      exact ⟨by rw [hm.out]; rfl, rfl⟩
    · have hm : Hid (decide (May q) = false) := decide_eq_false (p := May q) fun h => h1 h.2
      generalize decide (May q) = b at *
      go_enter Tryd.func26, Tryd.ntmps26
      go_wp2
      go_ret
      exact ⟨by rw [hm.out]; rfl, rfl⟩
  · have hm : Hid (decide (May q) = false) := decide_eq_false (p := May q) fun h => h0 h.1
    generalize decide (May q) = b at *
    go_enter Tryd.func26, Tryd.ntmps26
    go_wp2
    go_ret
    exact ⟨by rw [hm.out]; rfl, rfl⟩
theorem m_runs (q : Int) (w : World) : Calls Tryd.prog 15 #[.int .i64 q] w fun e w' => e = .returned (.int .i64 (runsI q)) ∧ w' = w := by
  have HM := hid (m_may q w)
  by_cases hq : May q
  · rw [decide_eq_true hq] at HM
    have hr : Hid (runsI q = q / 512) := by show _ = _; unfold runsI; rw [if_pos hq]
    unfold May at hq
    have hd : Int.tdiv q 512 = q / 512 := Int.tdiv_eq_ediv_of_nonneg (by omega)
    go_enter Tryd.func15, Tryd.ntmps15
    go_wp2_with fail
    refine HM.out.mono ?_
    rintro e w' ⟨rfl, hw⟩
    obtain rfl := hw.symm
    clear hw
    go_wp2
    go_ret
    exact ⟨by rw [hr.out]; go_num, rfl⟩
  · rw [decide_eq_false hq] at HM
    have hr : Hid (runsI q = 0) := by show _ = _; unfold runsI; rw [if_neg hq]
    clear hq
    go_enter Tryd.func15, Tryd.ntmps15
    go_wp2_with fail
    refine HM.out.mono ?_
    rintro e w' ⟨rfl, hw⟩
    obtain rfl := hw.symm
    clear hw
    go_wp2
    go_ret
    exact ⟨by rw [hr.out]; rfl, rfl⟩
theorem m_by (c q : Int) (w : World) (hT : Tab w) : Calls Tryd.prog 11 #[.int .i64 c, .int .i64 q] w fun e w' => e = .returned (.int .i64 (byI c q)) ∧ w' = w := by
  have HM := hid (m_may q w)
  have HP := hid (per_any c w hT)
  by_cases h0 : c < 0 ∨ 8 ≤ c
  · have hb := hid (byI_out c q (fun h => by omega))
    rw [perI_out c h0] at HP
    clear hT h0
    go_enter Tryd.func11, Tryd.ntmps11
    go_wp2_with fail
    refine HP.out.mono ?_
    rintro e w' ⟨rfl, hw⟩
    obtain rfl := hw.symm
    clear hw
    go_wp2
    go_ret
    exact ⟨by rw [hb.out]; rfl, rfl⟩
  by_cases hq : May q
  · rw [decide_eq_true hq] at HM
    have HU := hid (unit_any c w hT)
    obtain ⟨u1, u2, p1, p2, p3⟩ := small_unit c (by omega) (by omega)
    have hb := hid (byI_in c q (by omega) (by omega) hq)
    have hbn := byI_nonneg c q
    have hbs := byI_small c q
    rw [hb.out] at hbn hbs
    have hqq := hq
    unfold May at hqq
    have hk0 : 0 ≤ q / unitI c := Int.ediv_nonneg (by omega) (by omega)
    have hk1 : q / unitI c ≤ 65536 := by
      have := Int.ediv_le_self (unitI c) (show 0 ≤ q by omega); omega
    have hd : Int.tdiv q (unitI c) = q / unitI c := Int.tdiv_eq_ediv_of_nonneg (by omega)
    have hd2 : Int.tdiv (q / unitI c + perI c - 1) (perI c) = (q / unitI c + perI c - 1) / perI c := Int.tdiv_eq_ediv_of_nonneg (by omega)
    clear hq hT h0
    generalize unitI c = u at *
    generalize perI c = p at *
    generalize q / u = k at *
    generalize (k + p - 1) / p = r at *
    have hw1 : IntKind.i64.wrap k = k := by rw [IntKind.wrap_i64]; omega
    have hw2 : IntKind.i64.wrap r = r := by rw [IntKind.wrap_i64]; omega
    go_enter Tryd.func11, Tryd.ntmps11
    go_wp2_with fail
    refine HP.out.mono ?_
    rintro e w' ⟨rfl, hw⟩
    obtain rfl := hw.symm
    clear hw
    go_wp2_with fail
    refine HM.out.mono ?_
    rintro e w' ⟨rfl, hw⟩
    obtain rfl := hw.symm
    clear hw
    go_wp2_with fail
    refine HU.out.mono ?_
    rintro e w' ⟨rfl, hw⟩
    obtain rfl := hw.symm
    clear hw
    go_wp2
    go_ret
    exact ⟨by rw [hb.out]; go_num, rfl⟩
  · rw [decide_eq_false hq] at HM
    have hb := hid (byI_out c q (fun h => hq h.2.2))
    obtain ⟨u1, u2, p1, p2, p3⟩ := small_unit c (by omega) (by omega)
    clear hq hT h0 u1 u2 p3
    generalize perI c = p at *
    go_enter Tryd.func11, Tryd.ntmps11
    go_wp2_with fail
    refine HP.out.mono ?_
    rintro e w' ⟨rfl, hw⟩
    obtain rfl := hw.symm
    clear hw
    go_wp2_with fail
    refine HM.out.mono ?_
    rintro e w' ⟨rfl, hw⟩
    obtain rfl := hw.symm
    clear hw
    go_wp2
    go_ret
    exact ⟨by rw [hb.out]; rfl, rfl⟩
theorem m_adds (c q : Int) (w : World) (hT : Tab w) : Calls Tryd.prog 28 #[.int .i64 c, .int .i64 q] w fun e w' => e = .returned (.complex .f64 (fb 0) (fb (byI c q))) ∧ w' = w := by
  have HB := hid (m_by c q w hT)
  have hb0 := byI_nonneg c q
  have hb1 := byI_small c q
  have hf : Hid (fb (byI c q) = floatOfInt .f64 (byI c q)) := rfl
  have h0 := hid fb_zero
  clear hT
  generalize byI c q = b at *
  generalize fb b = x at *
  go_enter Tryd.func28, Tryd.ntmps28
  go_wp2_with fail
  refine HB.out.mono ?_
  rintro e w' ⟨rfl, hw⟩
  obtain rfl := hw.symm
  clear hw
  go_wp2
  go_ret
  exact ⟨by rw [h0.out, hf.out]; rfl, rfl⟩
theorem d_by (c q : Int) {w0 w : World} (k : K w0 w) : Calls Tryd.prog 11 #[.int .i64 c, .int .i64 q] w fun e w' => e = .returned (.int .i64 (byI c q)) ∧ K w0 w' := (m_by c q w k.tab).mono fun _ _ h => ⟨h.1, h.2 ▸ k⟩
theorem d_adds (c q : Int) {w0 w : World} (k : K w0 w) : Calls Tryd.prog 28 #[.int .i64 c, .int .i64 q] w fun e w' => e = .returned (.complex .f64 (fb 0) (fb (byI c q))) ∧ K w0 w' := (m_adds c q w k.tab).mono fun _ _ h => ⟨h.1, h.2 ▸ k⟩
theorem d_runs (q : Int) {w0 w : World} (k : K w0 w) : Calls Tryd.prog 15 #[.int .i64 q] w fun e w' => e = .returned (.int .i64 (runsI q)) ∧ K w0 w' := (m_runs q w).mono fun _ _ h => ⟨h.1, h.2 ▸ k⟩
theorem add_run {a s b : Int} (ha : a.natAbs < 9007199254740992) (hs : s.natAbs < 9007199254740992) (hb : b.natAbs < 9007199254740992) (w : World) : (binOp .add 23 (.complex .f64 (fb a) (fb s)) (.complex .f64 (fb 0) (fb b))).run Tryd.prog w = .ok (.complex .f64 (fb a) (fb (s + b))) w := by
  have h := run_complex_sum (P := Tryd.prog) w .add (.inl rfl) 23 .f64 _ _ _ _ _ _ (csum_add (Wh.of a ha) (Wh.of s hs) (Wh.of 0 (by decide)) (Wh.of b hb))
  rwa [Int.add_zero] at h
set_option maxHeartbeats 1000000 in
theorem d_of (q : Int) {w0 w : World} (k : K w0 w) : Calls Tryd.prog 8 #[.int .i64 q] w fun e w' => e = .returned (.tuple #[.complex .f64 (fb (quA q)) (fb (takesI q)), .int .i64 (quE q)]) ∧ K w0 w' := by
  have HK := hid k
  have HM := hid (m_may q w)
  by_cases hq : May q
  · rw [decide_eq_true hq] at HM
    have HR := hid (m_runs q w)
    have HO := hid (t_of q (runsI q) w)
    have r0 : 0 ≤ runsI q ∧ runsI q ≤ 128 := by
      unfold runsI; rw [if_pos hq]; unfold May at hq; omega
    have hrt : Rt q (runsI q) := by unfold Rt; unfold May at hq; omega
    rw [(ok_right hrt).1, (ok_right hrt).2.1, (ok_right hrt).2.2] at HO
    have HA := hid fun (j : Nat) w (k : K w0 w) => d_adds j q k
    have hy1 : Hid (fb (quA q) = fb q) := by show _ = _; rw [(qu_yes hq).1]
    have hy2 := hid (qu_yes hq).2
    have ht : Hid (takesI q = sumBy q 8 + runsI q) := rfl
    have HS : Hid (∀ (j : Nat) (w : World), j < 8 → (binOp .add 23 (.complex .f64 (fb q) (fb (sumBy q j + runsI q))) (.complex .f64 (fb 0) (fb (byI j q)))).run Tryd.prog w = .ok (.complex .f64 (fb q) (fb (sumBy q (j + 1) + runsI q))) w) := fun j w hj => by
      have s0 := sumBy_nonneg q j
      have s1 := sumBy_small q j
      have b0 := byI_nonneg j q
      have b1 := byI_small j q
      have h := add_run (a := q) (s := sumBy q j + runsI q) (b := byI j q) (by unfold May at hq; omega) (by omega) (by omega) w
      rw [h]
      have e : sumBy q j + runsI q + byI j q = sumBy q (j + 1) + runsI q := by simp only [sumBy]; omega
      rw [e]
    have h0 : Hid (fb (runsI q) = fb (sumBy q 0 + runsI q)) := by
      show _ = _
      simp only [sumBy, Int.zero_add]
    clear hrt r0 k
    unfold May at hq
    generalize runsI q = r at *
    generalize fb q = x at *
    go_enter Tryd.func8, Tryd.ntmps8
    go_wp2_with fail
    refine HM.out.mono ?_
    rintro e w' ⟨rfl, hw⟩
    obtain rfl := hw.symm
    clear hw
    go_wp2_with fail
    refine HR.out.mono ?_
    rintro e w' ⟨rfl, hw⟩
    obtain rfl := hw.symm
    clear hw
    go_wp2_with fail
    refine HO.out.mono ?_
    rintro e w' ⟨rfl, hw⟩
    obtain rfl := hw.symm
    clear hw
    go_wp2
    go_loopw [4, 17] (fun a i wr => ∃ j : Nat, j ≤ 8 ∧ i = .int .i64 j ∧ a = .complex .f64 x (fb (sumBy q j + r)) ∧ Hid (K w0 wr)) (fun _ i _ => 8 - (intOf i).toNat)
    case atStart => exact ⟨0, by omega, rfl, by rw [h0.out], HK⟩
    case round =>
      obtain ⟨j, hj, rfl, rfl, HK⟩ := hrel
      by_cases hlt : j < 8
      · have HA' := hid fun w k => HA.out j w k
        obtain ⟨z, hz⟩ : ∃ z, Hid (fb (sumBy q (j + 1) + r) = z) := ⟨_, rfl⟩
        have HS' : ∀ w, (binOp .add 23 (.complex .f64 x (fb (sumBy q j + r))) (.complex .f64 (fb 0) (fb (byI j q)))).run Tryd.prog w = .ok (.complex .f64 x z) w := fun w => by rw [HS.out j w hlt, hz.out]
        generalize fb (sumBy q j + r) = y at *
        generalize fb (byI j q) = b at *
        generalize fb 0 = o at *
        go_wp2_with fail
        refine (HA'.out _ HK.out).mono ?_
        rintro e w3 ⟨rfl, hk⟩
        have HK3 := hid hk
        clear hk HK HA'
        go_wp2
        go_roundw
        case rel => exact ⟨j + 1, by omega, by go_num, by rw [hz.out], HK3⟩
        case measure => simp [intOf]; omega
      · obtain rfl : j = 8 := by omega
        go_wp2
        go_ret2
        exact ⟨by rw [hy1.out, hy2.out, ht.out]; rfl, HK.out⟩
  · rw [decide_eq_false hq] at HM
    obtain ⟨e1, e2, e3⟩ := qu_no hq
    have h1 := hid e1
    have h2 := hid e2
    have h3 := hid e3
    have h0 := hid fb_zero
    clear hq k e1 e2 e3
    go_enter Tryd.func8, Tryd.ntmps8
    go_wp2_with fail
    refine HM.out.mono ?_
    rintro e w' ⟨rfl, hw⟩
    obtain rfl := hw.symm
    clear hw
    go_wp2
    go_ret2
    exact ⟨by rw [h1.out, h2.out, h3.out, h0.out]; rfl, HK.out⟩
theorem qu_rt' (q : Int) : Rt (quA q) (takesI q) := by
  have := takesI_range q
  by_cases h : May q
  · rw [(qu_yes h).1]; unfold May at h; unfold Rt; omega
  · rw [(qu_no h).1]; unfold Rt; omega
theorem d_fits (q p : Int) {w0 w : World} (k : K w0 w) : Calls Tryd.prog 13 #[.int .i64 q, .int .i64 p] w fun e w' => e = .returned (.bool (decide (May q ∧ takesI q ≤ p))) ∧ K w0 w' := by
  have HO := hid fun w (k : K w0 w) => d_of q k
  have HP := hid fun w => s_pages (qu_rt' q) w
  have HK := hid k
  clear k
  by_cases hq : May q
  · have hf : Hid (decide (May q ∧ takesI q ≤ p) = decide (takesI q ≤ p)) := decide_eq_decide.2 ⟨fun h => h.2, fun h => ⟨hq, h⟩⟩
    rw [(qu_yes hq).2] at HO
    clear hq
    generalize fb (quA q) = x at *
    generalize decide (May q ∧ takesI q ≤ p) = b at *
    generalize takesI q = t at *
    generalize fb t = y at *
    go_enter Tryd.func13, Tryd.ntmps13
    go_wp2_with fail
    refine (HO.out _ HK.out).mono ?_
    rintro e w1 ⟨rfl, hk⟩
    have HK1 := hid hk
    clear hk HK
    go_wp2_with fail
    refine (HP.out _).mono ?_
    rintro e w2 ⟨rfl, hw⟩
    have HK2 := hid (HK1.out.on (frOf hw))
    clear hw HK1
    go_wp2
    go_ret
    exact ⟨by rw [hf.out]; rfl, HK2.out⟩
  · have hf : Hid (decide (May q ∧ takesI q ≤ p) = false) := decide_eq_false fun h => hq h.1
    rw [(qu_no hq).2.1] at HO
    clear hq HP
    generalize fb (quA q) = x at *
    generalize decide (May q ∧ takesI q ≤ p) = b at *
    generalize fb (takesI q) = y at *
    go_enter Tryd.func13, Tryd.ntmps13
    go_wp2_with fail
    refine (HO.out _ HK.out).mono ?_
    rintro e w1 ⟨rfl, hk⟩
    have HK1 := hid hk
    clear hk HK
    go_wp2
    go_ret
    exact ⟨by rw [hf.out]; rfl, HK1.out⟩
end Go.Proofs.YtcfeeeloceeicaaDoor
