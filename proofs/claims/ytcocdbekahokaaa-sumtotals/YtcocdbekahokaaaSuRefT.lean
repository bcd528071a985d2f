/-
  What the document's own sums answer, so many times.
-/
import Derived.Test.YtcocdbekahokaaaSuRef
namespace Go.Proofs.Ytcocdbekahokaaa
open Go.RowKit

theorem tim_out {a b n : Int} (h : ¬ (0 ≤ n ∧ n ≤ 1099511627776)) : okA (tim a n) (tim b n) = 0 ∧ okB (tim a n) (tim b n) = 0 ∧ okE (tim a n) (tim b n) = 12 := by
  refine ok_wrong ?_
  unfold tim Rt
  simp only [if_neg h]
  omega
theorem tim_in {a n : Int} (h : 0 ≤ n ∧ n ≤ 1099511627776) : tim a n = a * n := by unfold tim; rw [if_pos h]
/-- A part above what the bound has of them is too great so many times; and not, if it isn't. -/
theorem tim_great {a n : Int} (hn : 0 < n) (h : 1099511627776 / n < a) : 1099511627776 < a * n := by
  have h1 : 1099511627776 / n + 1 ≤ a := by omega
  have h2 := Int.mul_le_mul_of_nonneg_right h1 (Int.le_of_lt hn)
  have h3 := Int.mul_ediv_add_emod 1099511627776 n
  have h4 := Int.emod_lt_of_pos 1099511627776 hn
  rw [Int.add_mul, Int.one_mul, Int.mul_comm (1099511627776 / n)] at h2
  omega
theorem tim_fits {a n : Int} (hn : 0 < n) (h : a ≤ 1099511627776 / n) : a * n ≤ 1099511627776 := by
  have h2 := Int.mul_le_mul_of_nonneg_right h (Int.le_of_lt hn)
  have h3 := Int.ediv_mul_le 1099511627776 (show n ≠ 0 by omega)
  omega

section
variable (a b n : Int) (w : World)
/-- The call's head: what Times answers where the test says no. -/
theorem r_times_no (x y z : Int) (q : Int)
    (H1 : Hid (∀ w, Calls Try.prog 26 #[.int .i64 n] w fun e w' => e = .returned (.bool true) ∧ w' = w))
    (H2 : Hid (∀ w, Calls Try.prog 10 #[.int .i64 (a * n), .int .i64 (b * n)] w fun e w' => e = .returned (.tuple #[.agg #[.int .i64 x, .int .i64 y], .int .i64 z]) ∧ Fr (fun _ => False) w w'))
    (n0 : 0 < n) (n1 : n ≤ 1099511627776) (hq : Int.tdiv 1099511627776 n = q) (hq2 : IntKind.i64.wrap q = q) (ha : decide (q < a) = false) (hb : decide (q < b) = false)
    (ha0 : 0 ≤ a * n) (ha1 : a * n ≤ 1099511627776) (hb0 : 0 ≤ b * n) (hb1 : b * n ≤ 1099511627776) :
    Calls Try.prog 18 #[.agg #[.int .i64 a, .int .i64 b], .int .i64 n] w fun e w' => e = .returned (.tuple #[.agg #[.int .i64 x, .int .i64 y], .int .i64 z]) ∧ Fr (fun _ => False) w w' := by
  have hn0 : (n == 0) = false := by simp; omega
  go_enter Try.func18, Try.ntmps18
  go_wp2_with fail
  go_quiet (first | (go_at_call 26; refine Calls.quiet_of_same (H1.out _)))
  go_wp2_with fail
  refine (H2.out _).mono ?_
  rintro e w1 ⟨rfl, hf0⟩
  have hf := ((Fr.refl (fun _ => False) _).drewN nq).trans hf0
  obtain ⟨k0, k1, g0, g1⟩ := laid2 hf
  have HF := hid hf
  clear hf hf0 H1 H2
  go_wp2
  exact bodyPost_ret (v := .tuple #[.agg #[.int .i64 x, .int .i64 y], .int .i64 z]) (by simp [results, Try.results18, go_sem, k0, k1]) rfl ⟨rfl, over2 HF.out _ _⟩
theorem r_times_zero (x y z : Int)
    (H1 : Hid (∀ w, Calls Try.prog 26 #[.int .i64 0] w fun e w' => e = .returned (.bool true) ∧ w' = w))
    (H2 : Hid (∀ w, Calls Try.prog 10 #[.int .i64 0, .int .i64 0] w fun e w' => e = .returned (.tuple #[.agg #[.int .i64 x, .int .i64 y], .int .i64 z]) ∧ Fr (fun _ => False) w w')) :
    Calls Try.prog 18 #[.agg #[.int .i64 a, .int .i64 b], .int .i64 0] w fun e w' => e = .returned (.tuple #[.agg #[.int .i64 x, .int .i64 y], .int .i64 z]) ∧ Fr (fun _ => False) w w' := by
  go_enter Try.func18, Try.ntmps18
  go_wp2_with fail
  go_quiet (first | (go_at_call 26; refine Calls.quiet_of_same (H1.out _)))
  go_wp2_with fail
  refine (H2.out _).mono ?_
  rintro e w1 ⟨rfl, hf0⟩
  have hf := ((Fr.refl (fun _ => False) _).drewN nq).trans hf0
  obtain ⟨k0, k1, g0, g1⟩ := laid2 hf
  have HF := hid hf
  clear hf hf0 H1 H2
  go_wp2
  exact bodyPost_ret (v := .tuple #[.agg #[.int .i64 x, .int .i64 y], .int .i64 z]) (by simp [results, Try.results18, go_sem, k0, k1]) rfl ⟨rfl, over2 HF.out _ _⟩
theorem r_times_out
    (H1 : Hid (∀ w, Calls Try.prog 26 #[.int .i64 n] w fun e w' => e = .returned (.bool false) ∧ w' = w)) :
    Calls Try.prog 18 #[.agg #[.int .i64 a, .int .i64 b], .int .i64 n] w fun e w' => e = .returned (.tuple #[.agg #[.int .i64 0, .int .i64 0], .int .i64 12]) ∧ Fr (fun _ => False) w w' := by
  go_enter Try.func18, Try.ntmps18
  go_wp2_with fail
  go_quiet (first | (go_at_call 26; refine Calls.quiet_of_same (H1.out _)))
  go_wp2
  exact bodyPost_ret (v := .tuple #[.agg #[.int .i64 0, .int .i64 0], .int .i64 12]) (by simp [results, Try.results18, go_sem]) rfl ⟨rfl, over2 ((Fr.refl (fun _ => False) _).drewN _) _ _⟩
theorem r_times_great (q : Int)
    (H1 : Hid (∀ w, Calls Try.prog 26 #[.int .i64 n] w fun e w' => e = .returned (.bool true) ∧ w' = w))
    (n0 : 0 < n) (n1 : n ≤ 1099511627776) (hq : Int.tdiv 1099511627776 n = q) (hq2 : IntKind.i64.wrap q = q) (ha : decide (q < a) = true) :
    Calls Try.prog 18 #[.agg #[.int .i64 a, .int .i64 b], .int .i64 n] w fun e w' => e = .returned (.tuple #[.agg #[.int .i64 0, .int .i64 0], .int .i64 12]) ∧ Fr (fun _ => False) w w' := by
  have hn0 : (n == 0) = false := by simp; omega
  go_enter Try.func18, Try.ntmps18
  go_wp2_with fail
  go_quiet (first | (go_at_call 26; refine Calls.quiet_of_same (H1.out _)))
  go_wp2
  exact bodyPost_ret (v := .tuple #[.agg #[.int .i64 0, .int .i64 0], .int .i64 12]) (by simp [results, Try.results18, go_sem]) rfl ⟨rfl, over2 ((Fr.refl (fun _ => False) _).drewN _) _ _⟩
theorem r_times_great2 (q : Int)
    (H1 : Hid (∀ w, Calls Try.prog 26 #[.int .i64 n] w fun e w' => e = .returned (.bool true) ∧ w' = w))
    (n0 : 0 < n) (n1 : n ≤ 1099511627776) (hq : Int.tdiv 1099511627776 n = q) (hq2 : IntKind.i64.wrap q = q) (ha : decide (q < a) = false) (hb : decide (q < b) = true) :
    Calls Try.prog 18 #[.agg #[.int .i64 a, .int .i64 b], .int .i64 n] w fun e w' => e = .returned (.tuple #[.agg #[.int .i64 0, .int .i64 0], .int .i64 12]) ∧ Fr (fun _ => False) w w' := by
  have hn0 : (n == 0) = false := by simp; omega
  go_enter Try.func18, Try.ntmps18
  go_wp2_with fail
  go_quiet (first | (go_at_call 26; refine Calls.quiet_of_same (H1.out _)))
  go_wp2
  exact bodyPost_ret (v := .tuple #[.agg #[.int .i64 0, .int .i64 0], .int .i64 12]) (by simp [results, Try.results18, go_sem]) rfl ⟨rfl, over2 ((Fr.refl (fun _ => False) _).drewN _) _ _⟩
end
theorem r_times (a b n : Int) (w : World) (h : Rt a b) : Calls Try.prog 18 #[.agg #[.int .i64 a, .int .i64 b], .int .i64 n] w fun e w' => e = .returned (.tuple #[.agg #[.int .i64 (okA (tim a n) (tim b n)), .int .i64 (okB (tim a n) (tim b n))], .int .i64 (okE (tim a n) (tim b n))]) ∧ Fr (fun _ => False) w w' := by
  have H1 : Hid (∀ w, Calls Try.prog 26 #[.int .i64 n] w fun e w' => e = .returned (.bool (decide (0 ≤ n ∧ n ≤ 1099511627776))) ∧ w' = w) := fun w => r_right n w
  by_cases hn : 0 ≤ n ∧ n ≤ 1099511627776
  · rw [decide_eq_true hn] at H1
    rw [tim_in (a := a) hn, tim_in (a := b) hn]
    by_cases hz : n = 0
    · subst hz
      rw [Int.mul_zero, Int.mul_zero]
      exact r_times_zero a b w _ _ _ H1 (hid fun w => r_of 0 0 w)
    · have n0 : 0 < n := by omega
      have hq : Int.tdiv 1099511627776 n = 1099511627776 / n := Int.tdiv_eq_ediv_of_nonneg (by decide)
      have hq0 : 0 ≤ 1099511627776 / n := Int.ediv_nonneg (by decide) hn.1
      have hq1 : 1099511627776 / n ≤ 1099511627776 := Int.ediv_le_self _ (by decide)
      have hq2 : IntKind.i64.wrap (1099511627776 / n) = 1099511627776 / n := by
        generalize 1099511627776 / n = q at *
        rw [IntKind.wrap_i64]; omega
      unfold Rt at h
      by_cases ha : 1099511627776 / n < a
      · have hw : ¬ Rt (a * n) (b * n) := fun hr => by have := tim_great n0 ha; have := hr.2.1; omega
        obtain ⟨e1, e2, e3⟩ := ok_wrong hw
        rw [e1, e2, e3]
        exact r_times_great a b n w _ H1 n0 hn.2 hq hq2 (decide_eq_true ha)
      · have a1 := tim_fits n0 (show a ≤ 1099511627776 / n by omega)
        by_cases hb : 1099511627776 / n < b
        · have hw : ¬ Rt (a * n) (b * n) := fun hr => by have := tim_great n0 hb; have := hr.2.2.2; omega
          obtain ⟨e1, e2, e3⟩ := ok_wrong hw
          rw [e1, e2, e3]
          exact r_times_great2 a b n w _ H1 n0 hn.2 hq hq2 (decide_eq_false ha) (decide_eq_true hb)
        · have b1 := tim_fits n0 (show b ≤ 1099511627776 / n by omega)
          exact r_times_no a b n w _ _ _ _ H1 (hid fun w => r_of _ _ w) n0 hn.2 hq hq2 (decide_eq_false ha) (decide_eq_false hb) (Int.mul_nonneg h.1 hn.1) a1 (Int.mul_nonneg h.2.2.1 hn.1) b1
  · rw [decide_eq_false hn] at H1
    obtain ⟨e1, e2, e3⟩ := tim_out (a := a) (b := b) hn
    rw [e1, e2, e3]
    exact r_times_out a b n w H1
end Go.Proofs.Ytcocdbekahokaaa
