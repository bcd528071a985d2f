/-
  What is added and taken away again is as it was.
-/
import Derived.Test.YtcocdbekahokaaaSuTools
namespace Go.Proofs.Ytcocdbekahokaaa
open Go.RowKit

set_option maxHeartbeats 1000000 in
set_option maxRecDepth 20000 in
theorem back_no1 (a b c d e2 : Int) (p1 p2 q1 q2 : Nat) (w0 : World)
    (H1 : Hid (∀ w, Calls Try.prog 9 #[.int .i64 a, .int .i64 b] w fun e w' => e = .returned (.tuple #[.complex .f64 p1 p2, .int .i64 12]) ∧ Fr (fun _ => False) w w'))
    (H2 : Hid (∀ w, Calls Try.prog 9 #[.int .i64 c, .int .i64 d] w fun e w' => e = .returned (.tuple #[.complex .f64 q1 q2, .int .i64 e2]) ∧ Fr (fun _ => False) w w'))
    (HA : Hid (∀ w, Calls Try.prog 11 #[] w fun e w' => e = .returned (.bool true) ∧ Fr (fun _ => False) w w'))
    : Calls Try.prog 6 #[.int .i64 a, .int .i64 b, .int .i64 c, .int .i64 d] w0 fun e w' => e = .returned (.bool true) ∧ Fr (fun _ => False) w0 w' := by
  have HF0 := hid (Fr.refl (fun _ => False) w0)
  go_enter Try.func6, Try.ntmps6
  go_wp2_with fail
  refine (H1.out _).mono ?_
  rintro e w1 ⟨rfl, hf⟩
  have HF1 := hid (HF0.out.trans hf)
  clear hf HF0
  go_wp2_with fail
  refine (H2.out _).mono ?_
  rintro e w2 ⟨rfl, hf⟩
  have HF2 := hid (HF1.out.trans hf)
  clear hf HF1
  go_wp2_with fail
  refine (HA.out _).mono ?_
  rintro e w3 ⟨rfl, hf⟩
  have HF3 := hid (HF2.out.trans hf)
  clear hf HF2
  go_wp2_with fail
  refine (HA.out _).mono ?_
  rintro e w4 ⟨rfl, hf⟩
  have HF4 := hid (HF3.out.trans hf)
  clear hf HF3
  go_wp2
  go_ret
  exact ⟨by simp, HF4.out⟩
set_option maxHeartbeats 1000000 in
set_option maxRecDepth 20000 in
theorem back_no2 (a b c d : Int) (p1 p2 q1 q2 : Nat) (w0 : World)
    (H1 : Hid (∀ w, Calls Try.prog 9 #[.int .i64 a, .int .i64 b] w fun e w' => e = .returned (.tuple #[.complex .f64 p1 p2, .int .i64 0]) ∧ Fr (fun _ => False) w w'))
    (H2 : Hid (∀ w, Calls Try.prog 9 #[.int .i64 c, .int .i64 d] w fun e w' => e = .returned (.tuple #[.complex .f64 q1 q2, .int .i64 12]) ∧ Fr (fun _ => False) w w'))
    (HA : Hid (∀ w, Calls Try.prog 11 #[] w fun e w' => e = .returned (.bool true) ∧ Fr (fun _ => False) w w'))
    : Calls Try.prog 6 #[.int .i64 a, .int .i64 b, .int .i64 c, .int .i64 d] w0 fun e w' => e = .returned (.bool true) ∧ Fr (fun _ => False) w0 w' := by
  have HF0 := hid (Fr.refl (fun _ => False) w0)
  go_enter Try.func6, Try.ntmps6
  go_wp2_with fail
  refine (H1.out _).mono ?_
  rintro e w1 ⟨rfl, hf⟩
  have HF1 := hid (HF0.out.trans hf)
  clear hf HF0
  go_wp2_with fail
  refine (H2.out _).mono ?_
  rintro e w2 ⟨rfl, hf⟩
  have HF2 := hid (HF1.out.trans hf)
  clear hf HF1
  go_wp2_with fail
  refine (HA.out _).mono ?_
  rintro e w3 ⟨rfl, hf⟩
  have HF3 := hid (HF2.out.trans hf)
  clear hf HF2
  go_wp2_with fail
  refine (HA.out _).mono ?_
  rintro e w4 ⟨rfl, hf⟩
  have HF4 := hid (HF3.out.trans hf)
  clear hf HF3
  go_wp2
  go_ret
  exact ⟨by simp, HF4.out⟩
set_option maxHeartbeats 1000000 in
set_option maxRecDepth 20000 in
theorem back_no3 (a b c d : Int) (p1 p2 q1 q2 : Nat) (w0 : World) (oz : FloatKind.f64.format.order 0 0 = some .eq)
    (H1 : Hid (∀ w, Calls Try.prog 9 #[.int .i64 a, .int .i64 b] w fun e w' => e = .returned (.tuple #[.complex .f64 p1 p2, .int .i64 0]) ∧ Fr (fun _ => False) w w'))
    (H2 : Hid (∀ w, Calls Try.prog 9 #[.int .i64 c, .int .i64 d] w fun e w' => e = .returned (.tuple #[.complex .f64 q1 q2, .int .i64 0]) ∧ Fr (fun _ => False) w w'))
    (HA : Hid (∀ w, Calls Try.prog 11 #[] w fun e w' => e = .returned (.bool true) ∧ Fr (fun _ => False) w w'))
    (H3 : Hid (∀ w, Calls Try.prog 13 #[.complex .f64 p1 p2, .complex .f64 q1 q2] w fun e w' => e = .returned (.tuple #[.complex .f64 0 0, .int .i64 12]) ∧ Fr (fun _ => False) w w'))
    : Calls Try.prog 6 #[.int .i64 a, .int .i64 b, .int .i64 c, .int .i64 d] w0 fun e w' => e = .returned (.bool true) ∧ Fr (fun _ => False) w0 w' := by
  have HF0 := hid (Fr.refl (fun _ => False) w0)
  go_enter Try.func6, Try.ntmps6
  go_wp2_with fail
  refine (H1.out _).mono ?_
  rintro e w1 ⟨rfl, hf⟩
  have HF1 := hid (HF0.out.trans hf)
  clear hf HF0
  go_wp2_with fail
  refine (H2.out _).mono ?_
  rintro e w2 ⟨rfl, hf⟩
  have HF2 := hid (HF1.out.trans hf)
  clear hf HF1
  go_wp2_with fail
  refine (HA.out _).mono ?_
  rintro e w3 ⟨rfl, hf⟩
  have HF3 := hid (HF2.out.trans hf)
  clear hf HF2
  go_wp2_with fail
  refine (H3.out _).mono ?_
  rintro e w4 ⟨rfl, hf⟩
  have HF4 := hid (HF3.out.trans hf)
  clear hf HF3
  go_wp2
  go_ret
  exact ⟨by simp, HF4.out⟩
set_option maxHeartbeats 1000000 in
set_option maxRecDepth 20000 in
theorem back_yes (a b c d : Int) (p1 p2 q1 q2 : Nat) (u1 u2 : Nat) (w0 : World) (op1p1 : FloatKind.f64.format.order p1 p1 = some .eq) (op2p2 : FloatKind.f64.format.order p2 p2 = some .eq)
    (H1 : Hid (∀ w, Calls Try.prog 9 #[.int .i64 a, .int .i64 b] w fun e w' => e = .returned (.tuple #[.complex .f64 p1 p2, .int .i64 0]) ∧ Fr (fun _ => False) w w'))
    (H2 : Hid (∀ w, Calls Try.prog 9 #[.int .i64 c, .int .i64 d] w fun e w' => e = .returned (.tuple #[.complex .f64 q1 q2, .int .i64 0]) ∧ Fr (fun _ => False) w w'))
    (HA : Hid (∀ w, Calls Try.prog 11 #[] w fun e w' => e = .returned (.bool true) ∧ Fr (fun _ => False) w w'))
    (H3 : Hid (∀ w, Calls Try.prog 13 #[.complex .f64 p1 p2, .complex .f64 q1 q2] w fun e w' => e = .returned (.tuple #[.complex .f64 u1 u2, .int .i64 0]) ∧ Fr (fun _ => False) w w'))
    (H4 : Hid (∀ w, Calls Try.prog 15 #[.complex .f64 u1 u2, .complex .f64 q1 q2] w fun e w' => e = .returned (.tuple #[.complex .f64 p1 p2, .int .i64 0]) ∧ Fr (fun _ => False) w w'))
    (H5 : Hid (∀ w, Calls Try.prog 19 #[.complex .f64 p1 p2, .complex .f64 u1 u2] w fun e w' => e = .returned (.bool true) ∧ Fr (fun _ => False) w w'))
    (H6 : Hid (∀ w, Calls Try.prog 19 #[.complex .f64 q1 q2, .complex .f64 u1 u2] w fun e w' => e = .returned (.bool true) ∧ Fr (fun _ => False) w w'))
    : Calls Try.prog 6 #[.int .i64 a, .int .i64 b, .int .i64 c, .int .i64 d] w0 fun e w' => e = .returned (.bool true) ∧ Fr (fun _ => False) w0 w' := by
  have HF0 := hid (Fr.refl (fun _ => False) w0)
  go_enter Try.func6, Try.ntmps6
  go_wp2_with fail
  refine (H1.out _).mono ?_
  rintro e w1 ⟨rfl, hf⟩
  have HF1 := hid (HF0.out.trans hf)
  clear hf HF0
  go_wp2_with fail
  refine (H2.out _).mono ?_
  rintro e w2 ⟨rfl, hf⟩
  have HF2 := hid (HF1.out.trans hf)
  clear hf HF1
  go_wp2_with fail
  refine (HA.out _).mono ?_
  rintro e w3 ⟨rfl, hf⟩
  have HF3 := hid (HF2.out.trans hf)
  clear hf HF2
  go_wp2_with fail
  refine (H3.out _).mono ?_
  rintro e w4 ⟨rfl, hf⟩
  have HF4 := hid (HF3.out.trans hf)
  clear hf HF3
  go_wp2_with fail
  refine (H4.out _).mono ?_
  rintro e w5 ⟨rfl, hf⟩
  have HF5 := hid (HF4.out.trans hf)
  clear hf HF4
  go_wp2_with fail
  refine (H5.out _).mono ?_
  rintro e w6 ⟨rfl, hf⟩
  have HF6 := hid (HF5.out.trans hf)
  clear hf HF5
  go_wp2_with fail
  refine (H6.out _).mono ?_
  rintro e w7 ⟨rfl, hf⟩
  have HF7 := hid (HF6.out.trans hf)
  clear hf HF6
  go_wp2
  go_ret
  exact ⟨by simp, HF7.out⟩
theorem back_walk (a b c d : Int) (w0 : World) : Calls Try.prog 6 #[.int .i64 a, .int .i64 b, .int .i64 c, .int .i64 d] w0 fun e w' => e = .returned (.bool true) ∧ Fr (fun _ => False) w0 w' := by
  by_cases h1 : Rt a b
  · by_cases h2 : Rt c d
    · by_cases h3 : Rt (a + c) (b + d)
      · obtain ⟨o1, o2⟩ := order_self h1
        refine back_yes a b c d _ _ _ _ _ _ w0 o1 o2 (hid fun w => f_of_yes h1 w) (hid fun w => f_of_yes h2 w) (hid fun w => f_awake w) (hid fun w => f_plus_yes h1 h2 h3 w) (hid fun w => ?_) (hid fun w => ?_) (hid fun w => ?_)
        · have := f_less h3 h2 w
          rw [show a + c - c = a by omega, show b + d - d = b by omega] at this
          rwa [(ok_right h1).1, (ok_right h1).2.1, (ok_right h1).2.2] at this
        · have := f_fits h1 h3 w
          rwa [decide_eq_true (by unfold Rt at h2; omega)] at this
        · have := f_fits h2 h3 w
          rwa [decide_eq_true (by unfold Rt at h1; omega)] at this
      · exact back_no3 a b c d _ _ _ _ w0 order_zero (hid fun w => f_of_yes h1 w) (hid fun w => f_of_yes h2 w) (hid fun w => f_awake w) (hid fun w => f_plus_no h1 h2 h3 w)
    · exact back_no2 a b c d _ _ _ _ w0 (hid fun w => f_of_yes h1 w) (hid fun w => f_of_no h2 w) (hid fun w => f_awake w)
  · exact back_no1 a b c d _ _ _ _ _ w0 (hid fun w => f_of_no h1 w) (hid fun w => f_of c d w) (hid fun w => f_awake w)
end Go.Proofs.Ytcocdbekahokaaa
