/-
  One sum fits another one just if it can be taken away from it.
-/
import Derived.Test.YtcocdbekahokaabSuTools
namespace Go.Proofs.Ytcocdbekahokaab
open Go.RowKit

section
variable (a b c d : Int) (p1 p2 q1 q2 : Nat) (w0 : World)
theorem fits_no1 (e2 : Int)
    (H1 : Hid (∀ w, Calls Try.prog 4 #[.int .i64 a, .int .i64 b] w fun e w' => e = .returned (.tuple #[.complex .f64 p1 p2, .int .i64 12]) ∧ Fr (fun _ => False) w w'))
    (H2 : Hid (∀ w, Calls Try.prog 4 #[.int .i64 c, .int .i64 d] w fun e w' => e = .returned (.tuple #[.complex .f64 q1 q2, .int .i64 e2]) ∧ Fr (fun _ => False) w w'))
    (HA : Hid (∀ w, Calls Try.prog 5 #[] w fun e w' => e = .returned (.bool true) ∧ Fr (fun _ => False) w w')) :
    Calls Try.prog 3 #[.agg #[.int .i64 a, .int .i64 b], .agg #[.int .i64 c, .int .i64 d]] w0 fun e w' => e = .returned (.bool true) ∧ Fr (fun _ => False) w0 w' := by
  go_enter Try.func3, Try.ntmps3
  go_wp2_with fail
  refine (H1.out _).mono ?_
  rintro e w1 ⟨rfl, hf⟩
  obtain ⟨m0, m1, F1⟩ := boxes2 hf
  have M0 := hid m0
  have c0 := m1.c0
  have c1 := m1.c1
  have M1 := hid m1
  have HF1 := hid F1
  clear hf F1 m0 m1
  go_wp2_with fail
  refine (H2.out _).mono ?_
  rintro e w2 ⟨rfl, hf⟩
  have F2 := hid (HF1.out.trans hf)
  replace M0 := hid (M0.out.carry hf)
  replace M1 := hid (M1.out.carry hf)
  clear hf HF1 c0 c1
  go_wp2_with fail
  refine (HA.out _).mono ?_
  rintro e w3 ⟨rfl, hf⟩
  have F3 := hid (F2.out.trans hf)
  replace M0 := hid (M0.out.carry hf)
  replace M1 := hid (M1.out.carry hf)
  clear hf F2
  go_wp2_with fail
  refine (HA.out _).mono ?_
  rintro e w4 ⟨rfl, hf⟩
  have F4 := hid (F3.out.trans hf)
  clear hf F3
  go_wp2
  go_ret
  exact ⟨by simp, F4.out⟩
theorem fits_no2
    (H1 : Hid (∀ w, Calls Try.prog 4 #[.int .i64 a, .int .i64 b] w fun e w' => e = .returned (.tuple #[.complex .f64 p1 p2, .int .i64 0]) ∧ Fr (fun _ => False) w w'))
    (H2 : Hid (∀ w, Calls Try.prog 4 #[.int .i64 c, .int .i64 d] w fun e w' => e = .returned (.tuple #[.complex .f64 q1 q2, .int .i64 12]) ∧ Fr (fun _ => False) w w'))
    (HA : Hid (∀ w, Calls Try.prog 5 #[] w fun e w' => e = .returned (.bool true) ∧ Fr (fun _ => False) w w')) :
    Calls Try.prog 3 #[.agg #[.int .i64 a, .int .i64 b], .agg #[.int .i64 c, .int .i64 d]] w0 fun e w' => e = .returned (.bool true) ∧ Fr (fun _ => False) w0 w' := by
  go_enter Try.func3, Try.ntmps3
  go_wp2_with fail
  refine (H1.out _).mono ?_
  rintro e w1 ⟨rfl, hf⟩
  obtain ⟨m0, m1, F1⟩ := boxes2 hf
  have M0 := hid m0
  have c0 := m1.c0
  have c1 := m1.c1
  have M1 := hid m1
  have HF1 := hid F1
  clear hf F1 m0 m1
  go_wp2_with fail
  refine (H2.out _).mono ?_
  rintro e w2 ⟨rfl, hf⟩
  have F2 := hid (HF1.out.trans hf)
  replace M0 := hid (M0.out.carry hf)
  replace M1 := hid (M1.out.carry hf)
  clear hf HF1 c0 c1
  go_wp2_with fail
  refine (HA.out _).mono ?_
  rintro e w3 ⟨rfl, hf⟩
  have F3 := hid (F2.out.trans hf)
  replace M0 := hid (M0.out.carry hf)
  replace M1 := hid (M1.out.carry hf)
  clear hf F2
  go_wp2_with fail
  refine (HA.out _).mono ?_
  rintro e w4 ⟨rfl, hf⟩
  have F4 := hid (F3.out.trans hf)
  clear hf F3
  go_wp2
  go_ret
  exact ⟨by simp, F4.out⟩
set_option maxHeartbeats 2000000 in
set_option maxRecDepth 20000 in
theorem fits_yes (u1 u2 : Nat) (k1 : decide (a ≤ c) = true) (k2 : decide (b ≤ d) = true) (b1 : 0 ≤ c - a) (b2 : c - a ≤ 1099511627776) (b3 : 0 ≤ d - b) (b4 : d - b ≤ 1099511627776)
    (H1 : Hid (∀ w, Calls Try.prog 4 #[.int .i64 a, .int .i64 b] w fun e w' => e = .returned (.tuple #[.complex .f64 p1 p2, .int .i64 0]) ∧ Fr (fun _ => False) w w'))
    (H2 : Hid (∀ w, Calls Try.prog 4 #[.int .i64 c, .int .i64 d] w fun e w' => e = .returned (.tuple #[.complex .f64 q1 q2, .int .i64 0]) ∧ Fr (fun _ => False) w w'))
    (HA : Hid (∀ w, Calls Try.prog 5 #[] w fun e w' => e = .returned (.bool true) ∧ Fr (fun _ => False) w w'))
    (HL : Hid (∀ w, Calls Try.prog 6 #[.complex .f64 q1 q2, .complex .f64 p1 p2] w fun e w' => e = .returned (.tuple #[.complex .f64 u1 u2, .int .i64 0]) ∧ Fr (fun _ => False) w w'))
    (HF : Hid (∀ w, Calls Try.prog 7 #[.complex .f64 p1 p2, .complex .f64 q1 q2] w fun e w' => e = .returned (.bool true) ∧ ∃ m, w' = w.drewN m))
    (HB : Hid (∀ w, Calls Try.prog 8 #[.complex .f64 u1 u2] w fun e w' => e = .returned (.int .i64 (c - a)) ∧ ∃ m, w' = w.drewN m))
    (HP : Hid (∀ w, Calls Try.prog 9 #[.complex .f64 u1 u2] w fun e w' => e = .returned (.int .i64 (d - b)) ∧ ∃ m, w' = w.drewN m))
    : Calls Try.prog 3 #[.agg #[.int .i64 a, .int .i64 b], .agg #[.int .i64 c, .int .i64 d]] w0 fun e w' => e = .returned (.bool true) ∧ Fr (fun _ => False) w0 w' := by
  go_enter Try.func3, Try.ntmps3
  go_wp2_with fail
  refine (H1.out _).mono ?_
  rintro e w1 ⟨rfl, hf⟩
  obtain ⟨m0, m1, F1⟩ := boxes2 hf
  have M0 := hid m0
  have c0 := m1.c0
  have c1 := m1.c1
  have M1 := hid m1
  have HF1 := hid F1
  clear hf F1 m0 m1
  go_wp2_with fail
  refine (H2.out _).mono ?_
  rintro e w2 ⟨rfl, hf⟩
  have F2 := hid (HF1.out.trans hf)
  replace M0 := hid (M0.out.carry hf)
  replace M1 := hid (M1.out.carry hf)
  clear hf HF1 c0 c1
  go_wp2_with fail
  refine (HA.out _).mono ?_
  rintro e w3 ⟨rfl, hf⟩
  have F3 := hid (F2.out.trans hf)
  replace M0 := hid (M0.out.carry hf)
  replace M1 := hid (M1.out.carry hf)
  clear hf F2
  go_wp2_with fail
  refine (HL.out _).mono ?_
  rintro e w4 ⟨rfl, hf⟩
  have F4 := hid (F3.out.trans hf)
  have n00 := (M0.out.carry hf).c0
  have n01 := (M0.out.carry hf).c1
  have n10 := (M1.out.carry hf).c0
  have n11 := (M1.out.carry hf).c1
  clear hf F3 M0 M1 H1 H2 HA HL
  generalize w0.heap.size = B at *
  go_wp2_with fail
  go_quiet (first | (go_at_call 7; refine Calls.quiet_of (HF.out _)) | (go_at_call 8; refine Calls.quiet_of (HB.out _)) | (go_at_call 9; refine Calls.quiet_of (HP.out _)))
  go_wp2
  go_ret
  exact ⟨by simp, F4.out.drewN _⟩
set_option maxHeartbeats 2000000 in
set_option maxRecDepth 20000 in
theorem fits_pages (u1 u2 : Nat) (k1 : decide (a ≤ c) = true) (k2 : decide (b ≤ d) = false)
    (H1 : Hid (∀ w, Calls Try.prog 4 #[.int .i64 a, .int .i64 b] w fun e w' => e = .returned (.tuple #[.complex .f64 p1 p2, .int .i64 0]) ∧ Fr (fun _ => False) w w'))
    (H2 : Hid (∀ w, Calls Try.prog 4 #[.int .i64 c, .int .i64 d] w fun e w' => e = .returned (.tuple #[.complex .f64 q1 q2, .int .i64 0]) ∧ Fr (fun _ => False) w w'))
    (HA : Hid (∀ w, Calls Try.prog 5 #[] w fun e w' => e = .returned (.bool true) ∧ Fr (fun _ => False) w w'))
    (HL : Hid (∀ w, Calls Try.prog 6 #[.complex .f64 q1 q2, .complex .f64 p1 p2] w fun e w' => e = .returned (.tuple #[.complex .f64 u1 u2, .int .i64 12]) ∧ Fr (fun _ => False) w w'))
    (HF : Hid (∀ w, Calls Try.prog 7 #[.complex .f64 p1 p2, .complex .f64 q1 q2] w fun e w' => e = .returned (.bool false) ∧ ∃ m, w' = w.drewN m))
    : Calls Try.prog 3 #[.agg #[.int .i64 a, .int .i64 b], .agg #[.int .i64 c, .int .i64 d]] w0 fun e w' => e = .returned (.bool true) ∧ Fr (fun _ => False) w0 w' := by
  go_enter Try.func3, Try.ntmps3
  go_wp2_with fail
  refine (H1.out _).mono ?_
  rintro e w1 ⟨rfl, hf⟩
  obtain ⟨m0, m1, F1⟩ := boxes2 hf
  have M0 := hid m0
  have c0 := m1.c0
  have c1 := m1.c1
  have M1 := hid m1
  have HF1 := hid F1
  clear hf F1 m0 m1
  go_wp2_with fail
  refine (H2.out _).mono ?_
  rintro e w2 ⟨rfl, hf⟩
  have F2 := hid (HF1.out.trans hf)
  replace M0 := hid (M0.out.carry hf)
  replace M1 := hid (M1.out.carry hf)
  clear hf HF1 c0 c1
  go_wp2_with fail
  refine (HA.out _).mono ?_
  rintro e w3 ⟨rfl, hf⟩
  have F3 := hid (F2.out.trans hf)
  replace M0 := hid (M0.out.carry hf)
  replace M1 := hid (M1.out.carry hf)
  clear hf F2
  go_wp2_with fail
  refine (HL.out _).mono ?_
  rintro e w4 ⟨rfl, hf⟩
  have F4 := hid (F3.out.trans hf)
  have n00 := (M0.out.carry hf).c0
  have n01 := (M0.out.carry hf).c1
  have n10 := (M1.out.carry hf).c0
  have n11 := (M1.out.carry hf).c1
  clear hf F3 M0 M1 H1 H2 HA HL
  generalize w0.heap.size = B at *
  go_wp2_with fail
  go_quiet (first | (go_at_call 7; refine Calls.quiet_of (HF.out _)))
  go_wp2
  go_ret
  exact ⟨by simp, F4.out.drewN _⟩
set_option maxHeartbeats 2000000 in
set_option maxRecDepth 20000 in
theorem fits_bytes (u1 u2 : Nat) (k1 : decide (a ≤ c) = false)
    (H1 : Hid (∀ w, Calls Try.prog 4 #[.int .i64 a, .int .i64 b] w fun e w' => e = .returned (.tuple #[.complex .f64 p1 p2, .int .i64 0]) ∧ Fr (fun _ => False) w w'))
    (H2 : Hid (∀ w, Calls Try.prog 4 #[.int .i64 c, .int .i64 d] w fun e w' => e = .returned (.tuple #[.complex .f64 q1 q2, .int .i64 0]) ∧ Fr (fun _ => False) w w'))
    (HA : Hid (∀ w, Calls Try.prog 5 #[] w fun e w' => e = .returned (.bool true) ∧ Fr (fun _ => False) w w'))
    (HL : Hid (∀ w, Calls Try.prog 6 #[.complex .f64 q1 q2, .complex .f64 p1 p2] w fun e w' => e = .returned (.tuple #[.complex .f64 u1 u2, .int .i64 12]) ∧ Fr (fun _ => False) w w'))
    (HF : Hid (∀ w, Calls Try.prog 7 #[.complex .f64 p1 p2, .complex .f64 q1 q2] w fun e w' => e = .returned (.bool false) ∧ ∃ m, w' = w.drewN m))
    : Calls Try.prog 3 #[.agg #[.int .i64 a, .int .i64 b], .agg #[.int .i64 c, .int .i64 d]] w0 fun e w' => e = .returned (.bool true) ∧ Fr (fun _ => False) w0 w' := by
  go_enter Try.func3, Try.ntmps3
  go_wp2_with fail
  refine (H1.out _).mono ?_
  rintro e w1 ⟨rfl, hf⟩
  obtain ⟨m0, m1, F1⟩ := boxes2 hf
  have M0 := hid m0
  have c0 := m1.c0
  have c1 := m1.c1
  have M1 := hid m1
  have HF1 := hid F1
  clear hf F1 m0 m1
  go_wp2_with fail
  refine (H2.out _).mono ?_
  rintro e w2 ⟨rfl, hf⟩
  have F2 := hid (HF1.out.trans hf)
  replace M0 := hid (M0.out.carry hf)
  replace M1 := hid (M1.out.carry hf)
  clear hf HF1 c0 c1
  go_wp2_with fail
  refine (HA.out _).mono ?_
  rintro e w3 ⟨rfl, hf⟩
  have F3 := hid (F2.out.trans hf)
  replace M0 := hid (M0.out.carry hf)
  replace M1 := hid (M1.out.carry hf)
  clear hf F2
  go_wp2_with fail
  refine (HL.out _).mono ?_
  rintro e w4 ⟨rfl, hf⟩
  have F4 := hid (F3.out.trans hf)
  have n00 := (M0.out.carry hf).c0
  have n01 := (M0.out.carry hf).c1
  have n10 := (M1.out.carry hf).c0
  have n11 := (M1.out.carry hf).c1
  clear hf F3 M0 M1 H1 H2 HA HL
  generalize w0.heap.size = B at *
  go_wp2_with fail
  go_quiet (first | (go_at_call 7; refine Calls.quiet_of (HF.out _)))
  go_wp2
  go_ret
  exact ⟨by simp, F4.out.drewN _⟩
end
theorem fits_walk (a b c d : Int) (w0 : World) : Calls Try.prog 3 #[.agg #[.int .i64 a, .int .i64 b], .agg #[.int .i64 c, .int .i64 d]] w0 fun e w' => e = .returned (.bool true) ∧ Fr (fun _ => False) w0 w' := by
  by_cases h1 : Rt a b
  · by_cases h2 : Rt c d
    · have HO1 := hid fun w => f_of_yes h1 w
      have HO2 := hid fun w => f_of_yes h2 w
      have HA := hid f_awake
      have HL := hid fun w => f_less h2 h1 w
      have HF := hid fun w => s_fits h1 h2 w
      have r1 := h1
      have r2 := h2
      unfold Rt at r1 r2
      by_cases k1 : a ≤ c
      · by_cases k2 : b ≤ d
        · have hr : Rt (c - a) (d - b) := by unfold Rt; omega
          rw [(ok_right hr).1, (ok_right hr).2.1, (ok_right hr).2.2] at HL
          rw [decide_eq_true (And.intro k1 k2)] at HF
          exact fits_yes a b c d _ _ _ _ w0 _ _ (decide_eq_true k1) (decide_eq_true k2) (by omega) (by omega) (by omega) (by omega) HO1 HO2 HA HL HF (hid fun w => s_bytes hr w) (hid fun w => s_pages hr w)
        · have hr : ¬ Rt (c - a) (d - b) := by unfold Rt; omega
          rw [(ok_wrong hr).2.2] at HL
          rw [decide_eq_false (fun h => k2 h.2)] at HF
          exact fits_pages a b c d _ _ _ _ w0 _ _ (decide_eq_true k1) (decide_eq_false k2) HO1 HO2 HA HL HF
      · have hr : ¬ Rt (c - a) (d - b) := by unfold Rt; omega
        rw [(ok_wrong hr).2.2] at HL
        rw [decide_eq_false (fun h => k1 h.1)] at HF
        exact fits_bytes a b c d _ _ _ _ w0 _ _ (decide_eq_false k1) HO1 HO2 HA HL HF
    · exact fits_no2 a b c d _ _ _ _ w0 (hid fun w => f_of_yes h1 w) (hid fun w => f_of_no h2 w) (hid f_awake)
  · exact fits_no1 a b c d _ _ _ _ w0 _ (hid fun w => f_of_no h1 w) (hid fun w => f_of c d w) (hid f_awake)
end Go.Proofs.Ytcocdbekahokaab
