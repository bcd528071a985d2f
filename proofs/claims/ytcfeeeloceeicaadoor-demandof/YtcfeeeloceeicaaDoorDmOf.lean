/-
  The law DemandOf, walked.
-/
import Derived.Test.YtcfeeeloceeicaaDoorDmAwake
namespace Go.Proofs.YtcfeeeloceeicaaDoor
open Go.RowKit

theorem order_zero : FloatKind.f64.format.order 0 0 = some .eq := by decide +kernel
set_option maxRecDepth 20000 in
theorem of_walk (q c p : Int) (w0 : World) (hT : Tab w0) : Calls Tryd.prog 3 #[.int .i64 q, .int .i64 c, .int .i64 p] w0 fun e w' => e = .returned (.bool true) ∧ Fr (fun _ => False) w0 w' := by
  have HK0 := hid (K.start hT)
  have H1 : Hid _ := fun w (k : K w0 w) => d_of q k
  have H2 : Hid _ := fun w (k : K w0 w) => d_may q k
  have H3 : Hid _ := fun w (k : K w0 w) => awake_any k
  have H4 : Hid _ := fun w (k : K w0 w) => d_by c q k
  have H5 : Hid _ := fun w (k : K w0 w) => e_by c q k
  have H6 : Hid _ := fun w (k : K w0 w) => d_fits q p k
  have H7 : Hid _ := fun w (k : K w0 w) => e_pages q k
  have H8 : Hid _ := fun w (k : K w0 w) => d_runs q k
  have H9 : Hid _ := fun w (k : K w0 w) => b_bytes (qu_rt q) k
  have H10 : Hid _ := fun w (k : K w0 w) => b_pages (qu_rt q) k
  clear hT
  by_cases hq : May q
  · have hf : decide (May q ∧ takesI q ≤ p) = decide (takesI q ≤ p) := decide_eq_decide.2 ⟨fun h => h.2, fun h => ⟨hq, h⟩⟩
    have hr : runsI q = q / 512 := by unfold runsI; rw [if_pos hq]
    rw [(qu_yes hq).1, (qu_yes hq).2] at H1
    rw [(qu_yes hq).1] at H9 H10
    rw [decide_eq_true hq] at H2
    rw [hf] at H6
    rw [hr] at H8
    clear hf hr
    unfold May at hq
    have hd : Int.tdiv q 512 = q / 512 := Int.tdiv_eq_ediv_of_nonneg (by omega)
    have hdw : IntKind.i64.wrap (q / 512) = q / 512 := by rw [IntKind.wrap_i64]; omega
    generalize hdq : q / 512 = d at *
    clear hdq
    generalize byI c q = b at *
    generalize takesI q = t at *
    generalize fb q = x at *
    generalize fb t = y at *
    by_cases ht : t ≤ p
    · have ht2 : decide (t ≤ p) = true := decide_eq_true ht
      rw [ht2] at H6
      clear hq
      go_enter Tryd.func3, Tryd.ntmps3
      go_wp2_with fail
      refine (H1.out _ HK0.out).mono ?_
      rintro e w' ⟨rfl, hk⟩
      have HK1 := hid hk
      clear hk HK0
      go_wp2_with fail
      refine (H2.out _ HK1.out).mono ?_
      rintro e w' ⟨rfl, hk⟩
      have HK2 := hid hk
      clear hk HK1
      go_wp2_with fail
      refine (H3.out _ HK2.out).mono ?_
      rintro e w' ⟨rfl, hk⟩
      have HK3 := hid hk
      clear hk HK2
      go_wp2_with fail
      refine (H4.out _ HK3.out).mono ?_
      rintro e w' ⟨rfl, hk⟩
      have HK4 := hid hk
      clear hk HK3
      go_wp2_with fail
      refine (H5.out _ HK4.out).mono ?_
      rintro e w' ⟨rfl, hk⟩
      have HK5 := hid hk
      clear hk HK4
      go_wp2_with fail
      refine (H6.out _ HK5.out).mono ?_
      rintro e w' ⟨rfl, hk⟩
      have HK6 := hid hk
      clear hk HK5
      go_wp2_with fail
      refine (H7.out _ HK6.out).mono ?_
      rintro e w' ⟨rfl, hk⟩
      have HK7 := hid hk
      clear hk HK6
      go_wp2_with fail
      refine (H9.out _ HK7.out).mono ?_
      rintro e w' ⟨rfl, hk⟩
      have HK8 := hid hk
      clear hk HK7
      go_wp2_with fail
      refine (H10.out _ HK8.out).mono ?_
      rintro e w' ⟨rfl, hk⟩
      have HK9 := hid hk
      clear hk HK8
      go_wp2_with fail
      refine (H7.out _ HK9.out).mono ?_
      rintro e w' ⟨rfl, hk⟩
      have HK10 := hid hk
      clear hk HK9
      go_wp2_with fail
      refine (H8.out _ HK10.out).mono ?_
      rintro e w' ⟨rfl, hk⟩
      have HK11 := hid hk
      clear hk HK10
      go_wp2
      go_ret
      exact ⟨by simp, HK11.out.fr⟩
    · have ht2 : decide (t ≤ p) = false := decide_eq_false ht
      rw [ht2] at H6
      clear hq
      go_enter Tryd.func3, Tryd.ntmps3
      go_wp2_with fail
      refine (H1.out _ HK0.out).mono ?_
      rintro e w' ⟨rfl, hk⟩
      have HK1 := hid hk
      clear hk HK0
      go_wp2_with fail
      refine (H2.out _ HK1.out).mono ?_
      rintro e w' ⟨rfl, hk⟩
      have HK2 := hid hk
      clear hk HK1
      go_wp2_with fail
      refine (H3.out _ HK2.out).mono ?_
      rintro e w' ⟨rfl, hk⟩
      have HK3 := hid hk
      clear hk HK2
      go_wp2_with fail
      refine (H4.out _ HK3.out).mono ?_
      rintro e w' ⟨rfl, hk⟩
      have HK4 := hid hk
      clear hk HK3
      go_wp2_with fail
      refine (H5.out _ HK4.out).mono ?_
      rintro e w' ⟨rfl, hk⟩
      have HK5 := hid hk
      clear hk HK4
      go_wp2_with fail
      refine (H6.out _ HK5.out).mono ?_
      rintro e w' ⟨rfl, hk⟩
      have HK6 := hid hk
      clear hk HK5
      go_wp2_with fail
      refine (H7.out _ HK6.out).mono ?_
      rintro e w' ⟨rfl, hk⟩
      have HK7 := hid hk
      clear hk HK6
      go_wp2_with fail
      refine (H9.out _ HK7.out).mono ?_
      rintro e w' ⟨rfl, hk⟩
      have HK8 := hid hk
      clear hk HK7
      go_wp2_with fail
      refine (H10.out _ HK8.out).mono ?_
      rintro e w' ⟨rfl, hk⟩
      have HK9 := hid hk
      clear hk HK8
      go_wp2_with fail
      refine (H7.out _ HK9.out).mono ?_
      rintro e w' ⟨rfl, hk⟩
      have HK10 := hid hk
      clear hk HK9
      go_wp2_with fail
      refine (H8.out _ HK10.out).mono ?_
      rintro e w' ⟨rfl, hk⟩
      have HK11 := hid hk
      clear hk HK10
      go_wp2
      go_ret
      exact ⟨by simp, HK11.out.fr⟩
  · have hf : decide (May q ∧ takesI q ≤ p) = false := decide_eq_false fun h => hq h.1
    have hr : runsI q = 0 := by unfold runsI; rw [if_neg hq]
    rw [(qu_no hq).1, (qu_no hq).2.1, (qu_no hq).2.2, fb_zero] at H1
    rw [decide_eq_false hq] at H2
    rw [hf] at H6
    rw [hr] at H8
    clear hf hr hq H9 H10 H7
    have hz := order_zero
    generalize byI c q = b at *
    go_enter Tryd.func3, Tryd.ntmps3
    go_wp2_with fail
    refine (H1.out _ HK0.out).mono ?_
    rintro e w' ⟨rfl, hk⟩
    have HK1 := hid hk
    clear hk HK0
    go_wp2_with fail
    refine (H2.out _ HK1.out).mono ?_
    rintro e w' ⟨rfl, hk⟩
    have HK2 := hid hk
    clear hk HK1
    go_wp2_with fail
    refine (H3.out _ HK2.out).mono ?_
    rintro e w' ⟨rfl, hk⟩
    have HK3 := hid hk
    clear hk HK2
    go_wp2_with fail
    refine (H4.out _ HK3.out).mono ?_
    rintro e w' ⟨rfl, hk⟩
    have HK4 := hid hk
    clear hk HK3
    go_wp2_with fail
    refine (H5.out _ HK4.out).mono ?_
    rintro e w' ⟨rfl, hk⟩
    have HK5 := hid hk
    clear hk HK4
    go_wp2_with fail
    refine (H6.out _ HK5.out).mono ?_
    rintro e w' ⟨rfl, hk⟩
    have HK6 := hid hk
    clear hk HK5
    go_wp2_with fail
    refine (H8.out _ HK6.out).mono ?_
    rintro e w' ⟨rfl, hk⟩
    have HK7 := hid hk
    clear hk HK6
    go_wp2
    go_ret
    exact ⟨by simp, HK7.out.fr⟩
end Go.Proofs.YtcfeeeloceeicaaDoor
