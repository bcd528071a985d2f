/-
  What the document's own sums answer.
-/
import Derived.Test.YtnlaocokjilncaaRows
import Derived.Test.YtnlaocokjilncaaSuSpec
import Derived.WalkMore
import Derived.BigQuiet
import Derived.Deep.QuietTactic
namespace Go.Proofs.Ytnlaocokjilncaa
open Go.RowKit

theorem r_right (n : Int) (w : World) : Calls Try.prog 37 #[.int .i64 n] w fun e w' => e = .returned (.bool (decide (0 ≤ n ∧ n ≤ 1099511627776))) ∧ w' = w := by
  by_cases h0 : 0 ≤ n
  · by_cases h1 : n ≤ 1099511627776
    all_goals
      go_enter Try.func37, Try.ntmps37
      go_wp2
      go_ret
      exact ⟨by simp; omega, rfl⟩
  · go_enter Try.func37, Try.ntmps37
    go_wp2
    go_ret
    exact ⟨by simp; omega, rfl⟩
theorem r_of (a b : Int) (w : World) : Calls Try.prog 25 #[.int .i64 a, .int .i64 b] w fun e w' => e = .returned (.tuple #[.agg #[.int .i64 (okA a b), .int .i64 (okB a b)], .int .i64 (okE a b)]) ∧ Fr (fun _ => False) w w' := by
  have H1 : Hid (∀ w, Calls Try.prog 37 #[.int .i64 a] w fun e w' => e = .returned (.bool (decide (0 ≤ a ∧ a ≤ 1099511627776))) ∧ w' = w) := fun w => r_right a w
  have H2 : Hid (∀ w, Calls Try.prog 37 #[.int .i64 b] w fun e w' => e = .returned (.bool (decide (0 ≤ b ∧ b ≤ 1099511627776))) ∧ w' = w) := fun w => r_right b w
  by_cases h1 : 0 ≤ a ∧ a ≤ 1099511627776
  · rw [decide_eq_true h1] at H1
    by_cases h2 : 0 ≤ b ∧ b ≤ 1099511627776
    · rw [decide_eq_true h2] at H2
      have hk := hid (ok_right (a := a) (b := b) ⟨h1.1, h1.2, h2.1, h2.2⟩)
      clear h1 h2
      go_enter Try.func25, Try.ntmps25
      go_wp2_with fail
      refine (H1.out _).mono ?_
      rintro e w1 ⟨rfl, hw⟩
      obtain rfl := hw
      go_wp2_with fail
      refine (H2.out _).mono ?_
      rintro e w1 ⟨rfl, hw⟩
      obtain rfl := hw
      go_wp2
      refine bodyPost_ret (v := .tuple #[.agg #[.int .i64 a, .int .i64 b], .int .i64 0]) (by simp [results, Try.results25, go_sem]) rfl ⟨by rw [hk.out.1, hk.out.2.1, hk.out.2.2], (Fr.refl _ _).alloc _⟩
    · rw [decide_eq_false h2] at H2
      have hk := hid (ok_wrong (a := a) (b := b) (fun h => h2 ⟨h.2.2.1, h.2.2.2⟩))
      clear h1 h2
      go_enter Try.func25, Try.ntmps25
      go_wp2_with fail
      refine (H1.out _).mono ?_
      rintro e w1 ⟨rfl, hw⟩
      obtain rfl := hw
      go_wp2_with fail
      refine (H2.out _).mono ?_
      rintro e w1 ⟨rfl, hw⟩
      obtain rfl := hw
      go_wp2
      refine bodyPost_ret (v := .tuple #[.agg #[.int .i64 0, .int .i64 0], .int .i64 12]) (by simp [results, Try.results25, go_sem]) rfl ⟨by rw [hk.out.1, hk.out.2.1, hk.out.2.2], (Fr.refl _ _).alloc _⟩
  · rw [decide_eq_false h1] at H1
    have hk := hid (ok_wrong (a := a) (b := b) (fun h => h1 ⟨h.1, h.2.1⟩))
    clear h1
    go_enter Try.func25, Try.ntmps25
    go_wp2_with fail
    refine (H1.out _).mono ?_
    rintro e w1 ⟨rfl, hw⟩
    obtain rfl := hw
    go_wp2
    refine bodyPost_ret (v := .tuple #[.agg #[.int .i64 0, .int .i64 0], .int .i64 12]) (by simp [results, Try.results25, go_sem]) rfl ⟨by rw [hk.out.1, hk.out.2.1, hk.out.2.2], (Fr.refl _ _).alloc _⟩
theorem r_fits (a b c d : Int) (w : World) : Calls Try.prog 39 #[.agg #[.int .i64 a, .int .i64 b], .agg #[.int .i64 c, .int .i64 d]] w fun e w' => e = .returned (.bool (decide (a ≤ c ∧ b ≤ d))) ∧ Fr (fun _ => False) w w' := by
  by_cases h1 : a ≤ c
  · by_cases h2 : b ≤ d
    all_goals
      go_enter Try.func39, Try.ntmps39
      go_wp2
      go_ret
      exact ⟨by simp; omega, ((Fr.refl _ _).alloc _).alloc _⟩
  · go_enter Try.func39, Try.ntmps39
    go_wp2
    go_ret
    exact ⟨by simp; omega, ((Fr.refl _ _).alloc _).alloc _⟩
end Go.Proofs.Ytnlaocokjilncaa
