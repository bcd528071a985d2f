/-
  The document's own examples stand, so the laws are awake.
-/
import Derived.Test.YtcfeeeloceeicaaDoorDmCalls
import Derived.Test.YtcfeeeloceeicaaDoorDmRef
import Derived.Laws.OwnMore
namespace Go.Proofs.YtcfeeeloceeicaaDoor
open Go.RowKit

theorem qu_rt (q : Int) : Rt (quA q) (takesI q) := by
  have := takesI_range q
  by_cases h : May q
  · rw [(qu_yes h).1]; unfold May at h; unfold Rt; omega
  · rw [(qu_no h).1]; unfold Rt; omega
theorem b_bytes {a b : Int} (h : Rt a b) {w0 w : World} (k : K w0 w) : Calls Tryd.prog 16 #[.complex .f64 (fb a) (fb b)] w fun e w' => e = .returned (.int .i64 a) ∧ K w0 w' := (t_bytes (rt_raw h) (fb_int a (by unfold Rt at h; omega)) w).mono fun _ _ r => ⟨r.1, r.2 ▸ k⟩
theorem b_pages {a b : Int} (h : Rt a b) {w0 w : World} (k : K w0 w) : Calls Tryd.prog 17 #[.complex .f64 (fb a) (fb b)] w fun e w' => e = .returned (.int .i64 b) ∧ K w0 w' := (t_pages (rt_raw h) (fb_int b (by unfold Rt at h; omega)) w).mono fun _ _ r => ⟨r.1, r.2 ▸ k⟩
theorem b_fits {a b c d : Int} (h : Rt a b) (h2 : Rt c d) {w0 w : World} (k : K w0 w) : Calls Tryd.prog 18 #[.complex .f64 (fb a) (fb b), .complex .f64 (fb c) (fb d)] w fun e w' => e = .returned (.bool (decide (a ≤ c ∧ b ≤ d))) ∧ K w0 w' := (t_fits h h2 w).mono fun _ _ r => ⟨r.1, r.2 ▸ k⟩
theorem d_may (q : Int) {w0 w : World} (k : K w0 w) : Calls Tryd.prog 9 #[.int .i64 q] w fun e w' => e = .returned (.bool (decide (May q))) ∧ K w0 w' := (e_may q w).mono fun _ _ r => ⟨r.1, r.2 ▸ k⟩
set_option maxRecDepth 20000 in
theorem awake_any {w0 w : World} (k : K w0 w) : Calls Tryd.prog 10 #[] w fun e w' => e = .returned (.bool true) ∧ K w0 w' := by
  have HK0 := hid k
  have H1 : Hid (∀ w, K w0 w → Calls Tryd.prog 8 #[.int .i64 1024] w fun e w' => e = .returned (.tuple #[.complex .f64 (fb 1024) (fb 20), .int .i64 0]) ∧ K w0 w') := fun _ k => by have := d_of 1024 k; rwa [show quA 1024 = 1024 by decide, show takesI 1024 = 20 by decide, show quE 1024 = 0 by decide] at this
  have H2 : Hid (∀ w, K w0 w → Calls Tryd.prog 8 #[.int .i64 0] w fun e w' => e = .returned (.tuple #[.complex .f64 (fb 0) (fb 0), .int .i64 12]) ∧ K w0 w') := fun _ k => by have := d_of 0 k; rwa [show quA 0 = 0 by decide, show takesI 0 = 0 by decide, show quE 0 = 12 by decide] at this
  have H3 : Hid (∀ w, K w0 w → Calls Tryd.prog 16 #[.complex .f64 (fb 1024) (fb 20)] w fun e w' => e = .returned (.int .i64 1024) ∧ K w0 w') := fun _ k => b_bytes (by decide) k
  have H4 : Hid (∀ w, K w0 w → Calls Tryd.prog 17 #[.complex .f64 (fb 1024) (fb 20)] w fun e w' => e = .returned (.int .i64 20) ∧ K w0 w') := fun _ k => b_pages (by decide) k
  have H5 : Hid (∀ w, K w0 w → Calls Tryd.prog 11 #[.int .i64 2, .int .i64 1024] w fun e w' => e = .returned (.int .i64 3) ∧ K w0 w') := fun _ k => by have := d_by 2 1024 k; rwa [show byI 2 1024 = 3 by decide] at this
  have H6 : Hid (∀ w, K w0 w → Calls Tryd.prog 13 #[.int .i64 16, .int .i64 1] w fun e w' => e = .returned (.bool true) ∧ K w0 w') := fun _ k => by have := d_fits 16 1 k; rwa [show decide (May 16 ∧ takesI 16 ≤ 1) = true by decide] at this
  have H7 : Hid (∀ w, K w0 w → Calls Tryd.prog 13 #[.int .i64 512, .int .i64 8] w fun e w' => e = .returned (.bool false) ∧ K w0 w') := fun _ k => by have := d_fits 512 8 k; rwa [show decide (May 512 ∧ takesI 512 ≤ 8) = false by decide] at this
  clear k
  generalize fb 1024 = p1 at *
  generalize fb 20 = p2 at *
  generalize fb 0 = p3 at *
  go_enter Tryd.func10, Tryd.ntmps10
  go_wp2_with fail
  refine (H1.out _ HK0.out).mono ?_
  rintro e w' ⟨rfl, hk⟩
  have HK1 := hid hk
  clear hk HK0
  go_wp2_with fail
  refine (H2.out _ HK1.out).mono ?_
  rintro e w' ⟨rfl, hk⟩
  have HK2 := hid hk
  clear hk HK1
  go_wp2_with fail
  refine (H3.out _ HK2.out).mono ?_
  rintro e w' ⟨rfl, hk⟩
  have HK3 := hid hk
  clear hk HK2
  go_wp2_with fail
  refine (H4.out _ HK3.out).mono ?_
  rintro e w' ⟨rfl, hk⟩
  have HK4 := hid hk
  clear hk HK3
  go_wp2_with fail
  refine (H5.out _ HK4.out).mono ?_
  rintro e w' ⟨rfl, hk⟩
  have HK5 := hid hk
  clear hk HK4
  go_wp2_with fail
  refine (H6.out _ HK5.out).mono ?_
  rintro e w' ⟨rfl, hk⟩
  have HK6 := hid hk
  clear hk HK5
  go_wp2_with fail
  refine (H7.out _ HK6.out).mono ?_
  rintro e w' ⟨rfl, hk⟩
  have HK7 := hid hk
  clear hk HK6
  go_wp2
  go_ret
  exact ⟨by simp, HK7.out⟩
end Go.Proofs.YtcfeeeloceeicaaDoor
