/-
  The law PlacePlaces, walked.
-/
import Derived.Test.YtkhppfbhhfajgaaDoorPlRefA
import Derived.Deep.QuietTactic
import Derived.BigQuiet
namespace Go.Proofs.YtkhppfbhhfajgaaDoor
open Go.RowKit

theorem order_z : FloatKind.f64.format.order 0 0 = some .eq := by decide +kernel
theorem order_s {n : Int} (h : 0 ≤ n ∧ n ≤ 1048576) : FloatKind.f64.format.order (floatOfInt .f64 n) (floatOfInt .f64 n) = some .eq := by
  have := fb_order n n (by omega) (by omega)
  rw [show compare n n = .eq from by simp] at this
  exact this
set_option maxRecDepth 20000 in
set_option maxHeartbeats 4000000 in
theorem pl_in_yes {a n : Int} {x y : Nat} {w0 : World} (HK0 : Hid (K w0 w0)) (i1 : 131072 ≤ a) (i2 : a < 3276800) (p q : Int) (t1 : Int.tdiv a 512 = p) (t2 : IntKind.i64.wrap p = p) (t3 : Int.tmod a 512 = q) (_ : IntKind.i64.wrap q = q) (oX : FloatKind.f64.format.order (floatOfInt .f64 p) (floatOfInt .f64 p) = some .eq) (oY : FloatKind.f64.format.order (floatOfInt .f64 q) (floatOfInt .f64 q) = some .eq) (H1 : Hid (∀ w, K w0 w → Calls Tryd.prog 19 #[.int .i64 a] w fun e w' => e = .returned (.tuple #[.complex .f64 (floatOfInt .f64 p) (floatOfInt .f64 q), .int .i64 0]) ∧ K w0 w')) (H4 : Hid (∀ w, K w0 w → Calls Tryd.prog 21 #[.complex .f64 (floatOfInt .f64 p) (floatOfInt .f64 q)] w fun e w' => e = .returned (.tuple #[.int .i64 a, .int .i64 0]) ∧ K w0 w')) (HA : Hid (∀ w, K w0 w → Calls Tryd.prog 10 #[] w fun e w' => e = .returned (.bool true) ∧ K w0 w')) (b : Bool) (H2 : Hid (∀ w, K w0 w → Calls Tryd.prog 18 #[.int .i64 a, .int .i64 n] w fun e w' => e = .returned (.bool b) ∧ K w0 w')) (H3 : Hid (∀ w, K w0 w → Calls Tryd.prog 20 #[.int .i64 a, .int .i64 n] w fun e w' => e = .returned (.bool b) ∧ K w0 w')) (r qx qy : Int) (H5 : Hid (∀ w, K w0 w → Calls Tryd.prog 21 #[.complex .f64 x y] w fun e w' => e = .returned (.tuple #[.int .i64 r, .int .i64 0]) ∧ K w0 w')) (H6 : Hid (∀ w, K w0 w → Calls Tryd.prog 19 #[.int .i64 r] w fun e w' => e = .returned (.tuple #[.complex .f64 (floatOfInt .f64 qx) (floatOfInt .f64 qy), .int .i64 0]) ∧ K w0 w')) (e1 : (FloatKind.f64.format.order (floatOfInt .f64 qx) x == some .eq) = true) (e2 : (FloatKind.f64.format.order (floatOfInt .f64 qy) y == some .eq) = true) : Calls Tryd.prog 6 #[.int .i64 a, .int .i64 n, .float .f64 x, .float .f64 y] w0 fun e w' => e = .returned (.bool true) ∧ Fr (fun _ => False) w0 w' := by
  go_enter Tryd.func6, Tryd.ntmps6
  go_wp2_with fail
  refine (H1.out _ HK0.out).mono ?_
  rintro e w1 ⟨rfl, hk⟩
  have HK1 := hid hk
  clear hk HK0
  go_wp2_with fail
  refine (HA.out _ HK1.out).mono ?_
  rintro e w2 ⟨rfl, hk⟩
  have HK2 := hid hk
  clear hk HK1
  go_wp2_with fail
  refine (H2.out _ HK2.out).mono ?_
  rintro e w3 ⟨rfl, hk⟩
  have HK3 := hid hk
  clear hk HK2
  go_wp2_with fail
  refine (H3.out _ HK3.out).mono ?_
  rintro e w4 ⟨rfl, hk⟩
  have HK4 := hid hk
  clear hk HK3
  go_wp2_with fail
  refine (H4.out _ HK4.out).mono ?_
  rintro e w5 ⟨rfl, hk⟩
  have HK5 := hid hk
  clear hk HK4
  go_wp2_with fail
  refine (H5.out _ HK5.out).mono ?_
  rintro e w6 ⟨rfl, hk⟩
  have HK6 := hid hk
  clear hk HK5
  go_wp2_with fail
  refine (H6.out _ HK6.out).mono ?_
  rintro e w7 ⟨rfl, hk⟩
  have HK7 := hid hk
  clear hk HK6
  go_wp2
  go_ret
  exact ⟨by simp, HK7.out.fr⟩
set_option maxRecDepth 20000 in
set_option maxHeartbeats 4000000 in
theorem pl_in_out0 {a n : Int} {x y : Nat} {w0 : World} (HK0 : Hid (K w0 w0)) (i1 : 131072 ≤ a) (i2 : a < 3276800) (p q : Int) (t1 : Int.tdiv a 512 = p) (t2 : IntKind.i64.wrap p = p) (t3 : Int.tmod a 512 = q) (_ : IntKind.i64.wrap q = q) (oX : FloatKind.f64.format.order (floatOfInt .f64 p) (floatOfInt .f64 p) = some .eq) (oY : FloatKind.f64.format.order (floatOfInt .f64 q) (floatOfInt .f64 q) = some .eq) (H1 : Hid (∀ w, K w0 w → Calls Tryd.prog 19 #[.int .i64 a] w fun e w' => e = .returned (.tuple #[.complex .f64 (floatOfInt .f64 p) (floatOfInt .f64 q), .int .i64 0]) ∧ K w0 w')) (H4 : Hid (∀ w, K w0 w → Calls Tryd.prog 21 #[.complex .f64 (floatOfInt .f64 p) (floatOfInt .f64 q)] w fun e w' => e = .returned (.tuple #[.int .i64 a, .int .i64 0]) ∧ K w0 w')) (HA : Hid (∀ w, K w0 w → Calls Tryd.prog 10 #[] w fun e w' => e = .returned (.bool true) ∧ K w0 w')) (b : Bool) (H2 : Hid (∀ w, K w0 w → Calls Tryd.prog 18 #[.int .i64 a, .int .i64 n] w fun e w' => e = .returned (.bool b) ∧ K w0 w')) (H3 : Hid (∀ w, K w0 w → Calls Tryd.prog 20 #[.int .i64 a, .int .i64 n] w fun e w' => e = .returned (.bool b) ∧ K w0 w')) (H5 : Hid (∀ w, K w0 w → Calls Tryd.prog 21 #[.complex .f64 x y] w fun e w' => e = .returned (.tuple #[.int .i64 0, .int .i64 4]) ∧ K w0 w')) (g1 : (FloatKind.f64.format.order x 4643211215818981376 == some .gt || FloatKind.f64.format.order x 4643211215818981376 == some .eq) = false) : Calls Tryd.prog 6 #[.int .i64 a, .int .i64 n, .float .f64 x, .float .f64 y] w0 fun e w' => e = .returned (.bool true) ∧ Fr (fun _ => False) w0 w' := by
  go_enter Tryd.func6, Tryd.ntmps6
  go_wp2_with fail
  refine (H1.out _ HK0.out).mono ?_
  rintro e w1 ⟨rfl, hk⟩
  have HK1 := hid hk
  clear hk HK0
  go_wp2_with fail
  refine (HA.out _ HK1.out).mono ?_
  rintro e w2 ⟨rfl, hk⟩
  have HK2 := hid hk
  clear hk HK1
  go_wp2_with fail
  refine (H2.out _ HK2.out).mono ?_
  rintro e w3 ⟨rfl, hk⟩
  have HK3 := hid hk
  clear hk HK2
  go_wp2_with fail
  refine (H3.out _ HK3.out).mono ?_
  rintro e w4 ⟨rfl, hk⟩
  have HK4 := hid hk
  clear hk HK3
  go_wp2_with fail
  refine (H4.out _ HK4.out).mono ?_
  rintro e w5 ⟨rfl, hk⟩
  have HK5 := hid hk
  clear hk HK4
  go_wp2_with fail
  refine (H5.out _ HK5.out).mono ?_
  rintro e w6 ⟨rfl, hk⟩
  have HK6 := hid hk
  clear hk HK5
  go_wp2
  go_ret
  exact ⟨by simp, HK6.out.fr⟩
set_option maxRecDepth 20000 in
set_option maxHeartbeats 4000000 in
theorem pl_in_out1 {a n : Int} {x y : Nat} {w0 : World} (HK0 : Hid (K w0 w0)) (i1 : 131072 ≤ a) (i2 : a < 3276800) (p q : Int) (t1 : Int.tdiv a 512 = p) (t2 : IntKind.i64.wrap p = p) (t3 : Int.tmod a 512 = q) (_ : IntKind.i64.wrap q = q) (oX : FloatKind.f64.format.order (floatOfInt .f64 p) (floatOfInt .f64 p) = some .eq) (oY : FloatKind.f64.format.order (floatOfInt .f64 q) (floatOfInt .f64 q) = some .eq) (H1 : Hid (∀ w, K w0 w → Calls Tryd.prog 19 #[.int .i64 a] w fun e w' => e = .returned (.tuple #[.complex .f64 (floatOfInt .f64 p) (floatOfInt .f64 q), .int .i64 0]) ∧ K w0 w')) (H4 : Hid (∀ w, K w0 w → Calls Tryd.prog 21 #[.complex .f64 (floatOfInt .f64 p) (floatOfInt .f64 q)] w fun e w' => e = .returned (.tuple #[.int .i64 a, .int .i64 0]) ∧ K w0 w')) (HA : Hid (∀ w, K w0 w → Calls Tryd.prog 10 #[] w fun e w' => e = .returned (.bool true) ∧ K w0 w')) (b : Bool) (H2 : Hid (∀ w, K w0 w → Calls Tryd.prog 18 #[.int .i64 a, .int .i64 n] w fun e w' => e = .returned (.bool b) ∧ K w0 w')) (H3 : Hid (∀ w, K w0 w → Calls Tryd.prog 20 #[.int .i64 a, .int .i64 n] w fun e w' => e = .returned (.bool b) ∧ K w0 w')) (H5 : Hid (∀ w, K w0 w → Calls Tryd.prog 21 #[.complex .f64 x y] w fun e w' => e = .returned (.tuple #[.int .i64 0, .int .i64 4]) ∧ K w0 w')) (g1 : (FloatKind.f64.format.order x 4643211215818981376 == some .gt || FloatKind.f64.format.order x 4643211215818981376 == some .eq) = true) (l1 : (FloatKind.f64.format.order x 4663758889118859264 == some .lt) = false) : Calls Tryd.prog 6 #[.int .i64 a, .int .i64 n, .float .f64 x, .float .f64 y] w0 fun e w' => e = .returned (.bool true) ∧ Fr (fun _ => False) w0 w' := by
  go_enter Tryd.func6, Tryd.ntmps6
  go_wp2_with fail
  refine (H1.out _ HK0.out).mono ?_
  rintro e w1 ⟨rfl, hk⟩
  have HK1 := hid hk
  clear hk HK0
  go_wp2_with fail
  refine (HA.out _ HK1.out).mono ?_
  rintro e w2 ⟨rfl, hk⟩
  have HK2 := hid hk
  clear hk HK1
  go_wp2_with fail
  refine (H2.out _ HK2.out).mono ?_
  rintro e w3 ⟨rfl, hk⟩
  have HK3 := hid hk
  clear hk HK2
  go_wp2_with fail
  refine (H3.out _ HK3.out).mono ?_
  rintro e w4 ⟨rfl, hk⟩
  have HK4 := hid hk
  clear hk HK3
  go_wp2_with fail
  refine (H4.out _ HK4.out).mono ?_
  rintro e w5 ⟨rfl, hk⟩
  have HK5 := hid hk
  clear hk HK4
  go_wp2_with fail
  refine (H5.out _ HK5.out).mono ?_
  rintro e w6 ⟨rfl, hk⟩
  have HK6 := hid hk
  clear hk HK5
  go_wp2
  go_ret
  exact ⟨by simp, HK6.out.fr⟩
set_option maxRecDepth 20000 in
set_option maxHeartbeats 4000000 in
theorem pl_in_out2 {a n : Int} {x y : Nat} {w0 : World} (HK0 : Hid (K w0 w0)) (i1 : 131072 ≤ a) (i2 : a < 3276800) (p q : Int) (t1 : Int.tdiv a 512 = p) (t2 : IntKind.i64.wrap p = p) (t3 : Int.tmod a 512 = q) (_ : IntKind.i64.wrap q = q) (oX : FloatKind.f64.format.order (floatOfInt .f64 p) (floatOfInt .f64 p) = some .eq) (oY : FloatKind.f64.format.order (floatOfInt .f64 q) (floatOfInt .f64 q) = some .eq) (H1 : Hid (∀ w, K w0 w → Calls Tryd.prog 19 #[.int .i64 a] w fun e w' => e = .returned (.tuple #[.complex .f64 (floatOfInt .f64 p) (floatOfInt .f64 q), .int .i64 0]) ∧ K w0 w')) (H4 : Hid (∀ w, K w0 w → Calls Tryd.prog 21 #[.complex .f64 (floatOfInt .f64 p) (floatOfInt .f64 q)] w fun e w' => e = .returned (.tuple #[.int .i64 a, .int .i64 0]) ∧ K w0 w')) (HA : Hid (∀ w, K w0 w → Calls Tryd.prog 10 #[] w fun e w' => e = .returned (.bool true) ∧ K w0 w')) (b : Bool) (H2 : Hid (∀ w, K w0 w → Calls Tryd.prog 18 #[.int .i64 a, .int .i64 n] w fun e w' => e = .returned (.bool b) ∧ K w0 w')) (H3 : Hid (∀ w, K w0 w → Calls Tryd.prog 20 #[.int .i64 a, .int .i64 n] w fun e w' => e = .returned (.bool b) ∧ K w0 w')) (H5 : Hid (∀ w, K w0 w → Calls Tryd.prog 21 #[.complex .f64 x y] w fun e w' => e = .returned (.tuple #[.int .i64 0, .int .i64 4]) ∧ K w0 w')) (g1 : (FloatKind.f64.format.order x 4643211215818981376 == some .gt || FloatKind.f64.format.order x 4643211215818981376 == some .eq) = true) (l1 : (FloatKind.f64.format.order x 4663758889118859264 == some .lt) = true) (g2 : (FloatKind.f64.format.order y 0 == some .gt || FloatKind.f64.format.order y 0 == some .eq) = false) : Calls Tryd.prog 6 #[.int .i64 a, .int .i64 n, .float .f64 x, .float .f64 y] w0 fun e w' => e = .returned (.bool true) ∧ Fr (fun _ => False) w0 w' := by
  go_enter Tryd.func6, Tryd.ntmps6
  go_wp2_with fail
  refine (H1.out _ HK0.out).mono ?_
  rintro e w1 ⟨rfl, hk⟩
  have HK1 := hid hk
  clear hk HK0
  go_wp2_with fail
  refine (HA.out _ HK1.out).mono ?_
  rintro e w2 ⟨rfl, hk⟩
  have HK2 := hid hk
  clear hk HK1
  go_wp2_with fail
  refine (H2.out _ HK2.out).mono ?_
  rintro e w3 ⟨rfl, hk⟩
  have HK3 := hid hk
  clear hk HK2
  go_wp2_with fail
  refine (H3.out _ HK3.out).mono ?_
  rintro e w4 ⟨rfl, hk⟩
  have HK4 := hid hk
  clear hk HK3
  go_wp2_with fail
  refine (H4.out _ HK4.out).mono ?_
  rintro e w5 ⟨rfl, hk⟩
  have HK5 := hid hk
  clear hk HK4
  go_wp2_with fail
  refine (H5.out _ HK5.out).mono ?_
  rintro e w6 ⟨rfl, hk⟩
  have HK6 := hid hk
  clear hk HK5
  go_wp2
  go_ret
  exact ⟨by simp, HK6.out.fr⟩
set_option maxRecDepth 20000 in
set_option maxHeartbeats 4000000 in
theorem pl_in_out3 {a n : Int} {x y : Nat} {w0 : World} (HK0 : Hid (K w0 w0)) (i1 : 131072 ≤ a) (i2 : a < 3276800) (p q : Int) (t1 : Int.tdiv a 512 = p) (t2 : IntKind.i64.wrap p = p) (t3 : Int.tmod a 512 = q) (_ : IntKind.i64.wrap q = q) (oX : FloatKind.f64.format.order (floatOfInt .f64 p) (floatOfInt .f64 p) = some .eq) (oY : FloatKind.f64.format.order (floatOfInt .f64 q) (floatOfInt .f64 q) = some .eq) (H1 : Hid (∀ w, K w0 w → Calls Tryd.prog 19 #[.int .i64 a] w fun e w' => e = .returned (.tuple #[.complex .f64 (floatOfInt .f64 p) (floatOfInt .f64 q), .int .i64 0]) ∧ K w0 w')) (H4 : Hid (∀ w, K w0 w → Calls Tryd.prog 21 #[.complex .f64 (floatOfInt .f64 p) (floatOfInt .f64 q)] w fun e w' => e = .returned (.tuple #[.int .i64 a, .int .i64 0]) ∧ K w0 w')) (HA : Hid (∀ w, K w0 w → Calls Tryd.prog 10 #[] w fun e w' => e = .returned (.bool true) ∧ K w0 w')) (b : Bool) (H2 : Hid (∀ w, K w0 w → Calls Tryd.prog 18 #[.int .i64 a, .int .i64 n] w fun e w' => e = .returned (.bool b) ∧ K w0 w')) (H3 : Hid (∀ w, K w0 w → Calls Tryd.prog 20 #[.int .i64 a, .int .i64 n] w fun e w' => e = .returned (.bool b) ∧ K w0 w')) (H5 : Hid (∀ w, K w0 w → Calls Tryd.prog 21 #[.complex .f64 x y] w fun e w' => e = .returned (.tuple #[.int .i64 0, .int .i64 4]) ∧ K w0 w')) (g1 : (FloatKind.f64.format.order x 4643211215818981376 == some .gt || FloatKind.f64.format.order x 4643211215818981376 == some .eq) = true) (l1 : (FloatKind.f64.format.order x 4663758889118859264 == some .lt) = true) (g2 : (FloatKind.f64.format.order y 0 == some .gt || FloatKind.f64.format.order y 0 == some .eq) = true) (l2 : (FloatKind.f64.format.order y 4647714815446351872 == some .lt) = false) : Calls Tryd.prog 6 #[.int .i64 a, .int .i64 n, .float .f64 x, .float .f64 y] w0 fun e w' => e = .returned (.bool true) ∧ Fr (fun _ => False) w0 w' := by
  go_enter Tryd.func6, Tryd.ntmps6
  go_wp2_with fail
  refine (H1.out _ HK0.out).mono ?_
  rintro e w1 ⟨rfl, hk⟩
  have HK1 := hid hk
  clear hk HK0
  go_wp2_with fail
  refine (HA.out _ HK1.out).mono ?_
  rintro e w2 ⟨rfl, hk⟩
  have HK2 := hid hk
  clear hk HK1
  go_wp2_with fail
  refine (H2.out _ HK2.out).mono ?_
  rintro e w3 ⟨rfl, hk⟩
  have HK3 := hid hk
  clear hk HK2
  go_wp2_with fail
  refine (H3.out _ HK3.out).mono ?_
  rintro e w4 ⟨rfl, hk⟩
  have HK4 := hid hk
  clear hk HK3
  go_wp2_with fail
  refine (H4.out _ HK4.out).mono ?_
  rintro e w5 ⟨rfl, hk⟩
  have HK5 := hid hk
  clear hk HK4
  go_wp2_with fail
  refine (H5.out _ HK5.out).mono ?_
  rintro e w6 ⟨rfl, hk⟩
  have HK6 := hid hk
  clear hk HK5
  go_wp2
  go_ret
  exact ⟨by simp, HK6.out.fr⟩
set_option maxRecDepth 20000 in
set_option maxHeartbeats 4000000 in
theorem pl_in_frac1 {a n : Int} {x y : Nat} {w0 : World} (HK0 : Hid (K w0 w0)) (i1 : 131072 ≤ a) (i2 : a < 3276800) (p q : Int) (t1 : Int.tdiv a 512 = p) (t2 : IntKind.i64.wrap p = p) (t3 : Int.tmod a 512 = q) (_ : IntKind.i64.wrap q = q) (oX : FloatKind.f64.format.order (floatOfInt .f64 p) (floatOfInt .f64 p) = some .eq) (oY : FloatKind.f64.format.order (floatOfInt .f64 q) (floatOfInt .f64 q) = some .eq) (H1 : Hid (∀ w, K w0 w → Calls Tryd.prog 19 #[.int .i64 a] w fun e w' => e = .returned (.tuple #[.complex .f64 (floatOfInt .f64 p) (floatOfInt .f64 q), .int .i64 0]) ∧ K w0 w')) (H4 : Hid (∀ w, K w0 w → Calls Tryd.prog 21 #[.complex .f64 (floatOfInt .f64 p) (floatOfInt .f64 q)] w fun e w' => e = .returned (.tuple #[.int .i64 a, .int .i64 0]) ∧ K w0 w')) (HA : Hid (∀ w, K w0 w → Calls Tryd.prog 10 #[] w fun e w' => e = .returned (.bool true) ∧ K w0 w')) (b : Bool) (H2 : Hid (∀ w, K w0 w → Calls Tryd.prog 18 #[.int .i64 a, .int .i64 n] w fun e w' => e = .returned (.bool b) ∧ K w0 w')) (H3 : Hid (∀ w, K w0 w → Calls Tryd.prog 20 #[.int .i64 a, .int .i64 n] w fun e w' => e = .returned (.bool b) ∧ K w0 w')) (H5 : Hid (∀ w, K w0 w → Calls Tryd.prog 21 #[.complex .f64 x y] w fun e w' => e = .returned (.tuple #[.int .i64 0, .int .i64 4]) ∧ K w0 w')) (g1 : (FloatKind.f64.format.order x 4643211215818981376 == some .gt || FloatKind.f64.format.order x 4643211215818981376 == some .eq) = true) (l1 : (FloatKind.f64.format.order x 4663758889118859264 == some .lt) = true) (g2 : (FloatKind.f64.format.order y 0 == some .gt || FloatKind.f64.format.order y 0 == some .eq) = true) (l2 : (FloatKind.f64.format.order y 4647714815446351872 == some .lt) = true) (qx qy : Int) (v1 : ∀ w, (convert 37 3 (.float .f64 x)).run Tryd.prog w = .ok (.int .i64 qx) w) (_ : ∀ w, (convert 37 3 (.float .f64 y)).run Tryd.prog w = .ok (.int .i64 qy) w) (e1 : (FloatKind.f64.format.order (floatOfInt .f64 qx) x == some .eq) = false) : Calls Tryd.prog 6 #[.int .i64 a, .int .i64 n, .float .f64 x, .float .f64 y] w0 fun e w' => e = .returned (.bool true) ∧ Fr (fun _ => False) w0 w' := by
  go_enter Tryd.func6, Tryd.ntmps6
  go_wp2_with fail
  refine (H1.out _ HK0.out).mono ?_
  rintro e w1 ⟨rfl, hk⟩
  have HK1 := hid hk
  clear hk HK0
  go_wp2_with fail
  refine (HA.out _ HK1.out).mono ?_
  rintro e w2 ⟨rfl, hk⟩
  have HK2 := hid hk
  clear hk HK1
  go_wp2_with fail
  refine (H2.out _ HK2.out).mono ?_
  rintro e w3 ⟨rfl, hk⟩
  have HK3 := hid hk
  clear hk HK2
  go_wp2_with fail
  refine (H3.out _ HK3.out).mono ?_
  rintro e w4 ⟨rfl, hk⟩
  have HK4 := hid hk
  clear hk HK3
  go_wp2_with fail
  refine (H4.out _ HK4.out).mono ?_
  rintro e w5 ⟨rfl, hk⟩
  have HK5 := hid hk
  clear hk HK4
  go_wp2_with fail
  refine (H5.out _ HK5.out).mono ?_
  rintro e w6 ⟨rfl, hk⟩
  have HK6 := hid hk
  clear hk HK5
  go_wp2
  go_ret
  exact ⟨by simp, HK6.out.fr⟩
set_option maxRecDepth 20000 in
set_option maxHeartbeats 4000000 in
theorem pl_in_frac2 {a n : Int} {x y : Nat} {w0 : World} (HK0 : Hid (K w0 w0)) (i1 : 131072 ≤ a) (i2 : a < 3276800) (p q : Int) (t1 : Int.tdiv a 512 = p) (t2 : IntKind.i64.wrap p = p) (t3 : Int.tmod a 512 = q) (_ : IntKind.i64.wrap q = q) (oX : FloatKind.f64.format.order (floatOfInt .f64 p) (floatOfInt .f64 p) = some .eq) (oY : FloatKind.f64.format.order (floatOfInt .f64 q) (floatOfInt .f64 q) = some .eq) (H1 : Hid (∀ w, K w0 w → Calls Tryd.prog 19 #[.int .i64 a] w fun e w' => e = .returned (.tuple #[.complex .f64 (floatOfInt .f64 p) (floatOfInt .f64 q), .int .i64 0]) ∧ K w0 w')) (H4 : Hid (∀ w, K w0 w → Calls Tryd.prog 21 #[.complex .f64 (floatOfInt .f64 p) (floatOfInt .f64 q)] w fun e w' => e = .returned (.tuple #[.int .i64 a, .int .i64 0]) ∧ K w0 w')) (HA : Hid (∀ w, K w0 w → Calls Tryd.prog 10 #[] w fun e w' => e = .returned (.bool true) ∧ K w0 w')) (b : Bool) (H2 : Hid (∀ w, K w0 w → Calls Tryd.prog 18 #[.int .i64 a, .int .i64 n] w fun e w' => e = .returned (.bool b) ∧ K w0 w')) (H3 : Hid (∀ w, K w0 w → Calls Tryd.prog 20 #[.int .i64 a, .int .i64 n] w fun e w' => e = .returned (.bool b) ∧ K w0 w')) (H5 : Hid (∀ w, K w0 w → Calls Tryd.prog 21 #[.complex .f64 x y] w fun e w' => e = .returned (.tuple #[.int .i64 0, .int .i64 4]) ∧ K w0 w')) (g1 : (FloatKind.f64.format.order x 4643211215818981376 == some .gt || FloatKind.f64.format.order x 4643211215818981376 == some .eq) = true) (l1 : (FloatKind.f64.format.order x 4663758889118859264 == some .lt) = true) (g2 : (FloatKind.f64.format.order y 0 == some .gt || FloatKind.f64.format.order y 0 == some .eq) = true) (l2 : (FloatKind.f64.format.order y 4647714815446351872 == some .lt) = true) (qx qy : Int) (v1 : ∀ w, (convert 37 3 (.float .f64 x)).run Tryd.prog w = .ok (.int .i64 qx) w) (v2 : ∀ w, (convert 37 3 (.float .f64 y)).run Tryd.prog w = .ok (.int .i64 qy) w) (e1 : (FloatKind.f64.format.order (floatOfInt .f64 qx) x == some .eq) = true) (e2 : (FloatKind.f64.format.order (floatOfInt .f64 qy) y == some .eq) = false) : Calls Tryd.prog 6 #[.int .i64 a, .int .i64 n, .float .f64 x, .float .f64 y] w0 fun e w' => e = .returned (.bool true) ∧ Fr (fun _ => False) w0 w' := by
  go_enter Tryd.func6, Tryd.ntmps6
  go_wp2_with fail
  refine (H1.out _ HK0.out).mono ?_
  rintro e w1 ⟨rfl, hk⟩
  have HK1 := hid hk
  clear hk HK0
  go_wp2_with fail
  refine (HA.out _ HK1.out).mono ?_
  rintro e w2 ⟨rfl, hk⟩
  have HK2 := hid hk
  clear hk HK1
  go_wp2_with fail
  refine (H2.out _ HK2.out).mono ?_
  rintro e w3 ⟨rfl, hk⟩
  have HK3 := hid hk
  clear hk HK2
  go_wp2_with fail
  refine (H3.out _ HK3.out).mono ?_
  rintro e w4 ⟨rfl, hk⟩
  have HK4 := hid hk
  clear hk HK3
  go_wp2_with fail
  refine (H4.out _ HK4.out).mono ?_
  rintro e w5 ⟨rfl, hk⟩
  have HK5 := hid hk
  clear hk HK4
  go_wp2_with fail
  refine (H5.out _ HK5.out).mono ?_
  rintro e w6 ⟨rfl, hk⟩
  have HK6 := hid hk
  clear hk HK5
  go_wp2
  go_ret
  exact ⟨by simp, HK6.out.fr⟩
set_option maxRecDepth 20000 in
set_option maxHeartbeats 4000000 in
theorem pl_lo_yes {a n : Int} {x y : Nat} {w0 : World} (HK0 : Hid (K w0 w0)) (i1 : a < 131072) (oz : FloatKind.f64.format.order 0 0 = some .eq) (H1 : Hid (∀ w, K w0 w → Calls Tryd.prog 19 #[.int .i64 a] w fun e w' => e = .returned (.tuple #[.complex .f64 0 0, .int .i64 4]) ∧ K w0 w')) (HA : Hid (∀ w, K w0 w → Calls Tryd.prog 10 #[] w fun e w' => e = .returned (.bool true) ∧ K w0 w')) (b : Bool) (H2 : Hid (∀ w, K w0 w → Calls Tryd.prog 18 #[.int .i64 a, .int .i64 n] w fun e w' => e = .returned (.bool b) ∧ K w0 w')) (H3 : Hid (∀ w, K w0 w → Calls Tryd.prog 20 #[.int .i64 a, .int .i64 n] w fun e w' => e = .returned (.bool b) ∧ K w0 w')) (r qx qy : Int) (H5 : Hid (∀ w, K w0 w → Calls Tryd.prog 21 #[.complex .f64 x y] w fun e w' => e = .returned (.tuple #[.int .i64 r, .int .i64 0]) ∧ K w0 w')) (H6 : Hid (∀ w, K w0 w → Calls Tryd.prog 19 #[.int .i64 r] w fun e w' => e = .returned (.tuple #[.complex .f64 (floatOfInt .f64 qx) (floatOfInt .f64 qy), .int .i64 0]) ∧ K w0 w')) (e1 : (FloatKind.f64.format.order (floatOfInt .f64 qx) x == some .eq) = true) (e2 : (FloatKind.f64.format.order (floatOfInt .f64 qy) y == some .eq) = true) : Calls Tryd.prog 6 #[.int .i64 a, .int .i64 n, .float .f64 x, .float .f64 y] w0 fun e w' => e = .returned (.bool true) ∧ Fr (fun _ => False) w0 w' := by
  go_enter Tryd.func6, Tryd.ntmps6
  go_wp2_with fail
  refine (H1.out _ HK0.out).mono ?_
  rintro e w1 ⟨rfl, hk⟩
  have HK1 := hid hk
  clear hk HK0
  go_wp2_with fail
  refine (HA.out _ HK1.out).mono ?_
  rintro e w2 ⟨rfl, hk⟩
  have HK2 := hid hk
  clear hk HK1
  go_wp2_with fail
  refine (H2.out _ HK2.out).mono ?_
  rintro e w3 ⟨rfl, hk⟩
  have HK3 := hid hk
  clear hk HK2
  go_wp2_with fail
  refine (H3.out _ HK3.out).mono ?_
  rintro e w4 ⟨rfl, hk⟩
  have HK4 := hid hk
  clear hk HK3
  go_wp2_with fail
  refine (H5.out _ HK4.out).mono ?_
  rintro e w5 ⟨rfl, hk⟩
  have HK5 := hid hk
  clear hk HK4
  go_wp2_with fail
  refine (H6.out _ HK5.out).mono ?_
  rintro e w6 ⟨rfl, hk⟩
  have HK6 := hid hk
  clear hk HK5
  go_wp2
  go_ret
  exact ⟨by simp, HK6.out.fr⟩
set_option maxRecDepth 20000 in
set_option maxHeartbeats 4000000 in
theorem pl_lo_out0 {a n : Int} {x y : Nat} {w0 : World} (HK0 : Hid (K w0 w0)) (i1 : a < 131072) (oz : FloatKind.f64.format.order 0 0 = some .eq) (H1 : Hid (∀ w, K w0 w → Calls Tryd.prog 19 #[.int .i64 a] w fun e w' => e = .returned (.tuple #[.complex .f64 0 0, .int .i64 4]) ∧ K w0 w')) (HA : Hid (∀ w, K w0 w → Calls Tryd.prog 10 #[] w fun e w' => e = .returned (.bool true) ∧ K w0 w')) (b : Bool) (H2 : Hid (∀ w, K w0 w → Calls Tryd.prog 18 #[.int .i64 a, .int .i64 n] w fun e w' => e = .returned (.bool b) ∧ K w0 w')) (H3 : Hid (∀ w, K w0 w → Calls Tryd.prog 20 #[.int .i64 a, .int .i64 n] w fun e w' => e = .returned (.bool b) ∧ K w0 w')) (H5 : Hid (∀ w, K w0 w → Calls Tryd.prog 21 #[.complex .f64 x y] w fun e w' => e = .returned (.tuple #[.int .i64 0, .int .i64 4]) ∧ K w0 w')) (g1 : (FloatKind.f64.format.order x 4643211215818981376 == some .gt || FloatKind.f64.format.order x 4643211215818981376 == some .eq) = false) : Calls Tryd.prog 6 #[.int .i64 a, .int .i64 n, .float .f64 x, .float .f64 y] w0 fun e w' => e = .returned (.bool true) ∧ Fr (fun _ => False) w0 w' := by
  go_enter Tryd.func6, Tryd.ntmps6
  go_wp2_with fail
  refine (H1.out _ HK0.out).mono ?_
  rintro e w1 ⟨rfl, hk⟩
  have HK1 := hid hk
  clear hk HK0
  go_wp2_with fail
  refine (HA.out _ HK1.out).mono ?_
  rintro e w2 ⟨rfl, hk⟩
  have HK2 := hid hk
  clear hk HK1
  go_wp2_with fail
  refine (H2.out _ HK2.out).mono ?_
  rintro e w3 ⟨rfl, hk⟩
  have HK3 := hid hk
  clear hk HK2
  go_wp2_with fail
  refine (H3.out _ HK3.out).mono ?_
  rintro e w4 ⟨rfl, hk⟩
  have HK4 := hid hk
  clear hk HK3
  go_wp2_with fail
  refine (H5.out _ HK4.out).mono ?_
  rintro e w5 ⟨rfl, hk⟩
  have HK5 := hid hk
  clear hk HK4
  go_wp2
  go_ret
  exact ⟨by simp, HK5.out.fr⟩
set_option maxRecDepth 20000 in
set_option maxHeartbeats 4000000 in
theorem pl_lo_out1 {a n : Int} {x y : Nat} {w0 : World} (HK0 : Hid (K w0 w0)) (i1 : a < 131072) (oz : FloatKind.f64.format.order 0 0 = some .eq) (H1 : Hid (∀ w, K w0 w → Calls Tryd.prog 19 #[.int .i64 a] w fun e w' => e = .returned (.tuple #[.complex .f64 0 0, .int .i64 4]) ∧ K w0 w')) (HA : Hid (∀ w, K w0 w → Calls Tryd.prog 10 #[] w fun e w' => e = .returned (.bool true) ∧ K w0 w')) (b : Bool) (H2 : Hid (∀ w, K w0 w → Calls Tryd.prog 18 #[.int .i64 a, .int .i64 n] w fun e w' => e = .returned (.bool b) ∧ K w0 w')) (H3 : Hid (∀ w, K w0 w → Calls Tryd.prog 20 #[.int .i64 a, .int .i64 n] w fun e w' => e = .returned (.bool b) ∧ K w0 w')) (H5 : Hid (∀ w, K w0 w → Calls Tryd.prog 21 #[.complex .f64 x y] w fun e w' => e = .returned (.tuple #[.int .i64 0, .int .i64 4]) ∧ K w0 w')) (g1 : (FloatKind.f64.format.order x 4643211215818981376 == some .gt || FloatKind.f64.format.order x 4643211215818981376 == some .eq) = true) (l1 : (FloatKind.f64.format.order x 4663758889118859264 == some .lt) = false) : Calls Tryd.prog 6 #[.int .i64 a, .int .i64 n, .float .f64 x, .float .f64 y] w0 fun e w' => e = .returned (.bool true) ∧ Fr (fun _ => False) w0 w' := by
  go_enter Tryd.func6, Tryd.ntmps6
  go_wp2_with fail
  refine (H1.out _ HK0.out).mono ?_
  rintro e w1 ⟨rfl, hk⟩
  have HK1 := hid hk
  clear hk HK0
  go_wp2_with fail
  refine (HA.out _ HK1.out).mono ?_
  rintro e w2 ⟨rfl, hk⟩
  have HK2 := hid hk
  clear hk HK1
  go_wp2_with fail
  refine (H2.out _ HK2.out).mono ?_
  rintro e w3 ⟨rfl, hk⟩
  have HK3 := hid hk
  clear hk HK2
  go_wp2_with fail
  refine (H3.out _ HK3.out).mono ?_
  rintro e w4 ⟨rfl, hk⟩
  have HK4 := hid hk
  clear hk HK3
  go_wp2_with fail
  refine (H5.out _ HK4.out).mono ?_
  rintro e w5 ⟨rfl, hk⟩
  have HK5 := hid hk
  clear hk HK4
  go_wp2
  go_ret
  exact ⟨by simp, HK5.out.fr⟩
set_option maxRecDepth 20000 in
set_option maxHeartbeats 4000000 in
theorem pl_lo_out2 {a n : Int} {x y : Nat} {w0 : World} (HK0 : Hid (K w0 w0)) (i1 : a < 131072) (oz : FloatKind.f64.format.order 0 0 = some .eq) (H1 : Hid (∀ w, K w0 w → Calls Tryd.prog 19 #[.int .i64 a] w fun e w' => e = .returned (.tuple #[.complex .f64 0 0, .int .i64 4]) ∧ K w0 w')) (HA : Hid (∀ w, K w0 w → Calls Tryd.prog 10 #[] w fun e w' => e = .returned (.bool true) ∧ K w0 w')) (b : Bool) (H2 : Hid (∀ w, K w0 w → Calls Tryd.prog 18 #[.int .i64 a, .int .i64 n] w fun e w' => e = .returned (.bool b) ∧ K w0 w')) (H3 : Hid (∀ w, K w0 w → Calls Tryd.prog 20 #[.int .i64 a, .int .i64 n] w fun e w' => e = .returned (.bool b) ∧ K w0 w')) (H5 : Hid (∀ w, K w0 w → Calls Tryd.prog 21 #[.complex .f64 x y] w fun e w' => e = .returned (.tuple #[.int .i64 0, .int .i64 4]) ∧ K w0 w')) (g1 : (FloatKind.f64.format.order x 4643211215818981376 == some .gt || FloatKind.f64.format.order x 4643211215818981376 == some .eq) = true) (l1 : (FloatKind.f64.format.order x 4663758889118859264 == some .lt) = true) (g2 : (FloatKind.f64.format.order y 0 == some .gt || FloatKind.f64.format.order y 0 == some .eq) = false) : Calls Tryd.prog 6 #[.int .i64 a, .int .i64 n, .float .f64 x, .float .f64 y] w0 fun e w' => e = .returned (.bool true) ∧ Fr (fun _ => False) w0 w' := by
  go_enter Tryd.func6, Tryd.ntmps6
  go_wp2_with fail
  refine (H1.out _ HK0.out).mono ?_
  rintro e w1 ⟨rfl, hk⟩
  have HK1 := hid hk
  clear hk HK0
  go_wp2_with fail
  refine (HA.out _ HK1.out).mono ?_
  rintro e w2 ⟨rfl, hk⟩
  have HK2 := hid hk
  clear hk HK1
  go_wp2_with fail
  refine (H2.out _ HK2.out).mono ?_
  rintro e w3 ⟨rfl, hk⟩
  have HK3 := hid hk
  clear hk HK2
  go_wp2_with fail
  refine (H3.out _ HK3.out).mono ?_
  rintro e w4 ⟨rfl, hk⟩
  have HK4 := hid hk
  clear hk HK3
  go_wp2_with fail
  refine (H5.out _ HK4.out).mono ?_
  rintro e w5 ⟨rfl, hk⟩
  have HK5 := hid hk
  clear hk HK4
  go_wp2
  go_ret
  exact ⟨by simp, HK5.out.fr⟩
set_option maxRecDepth 20000 in
set_option maxHeartbeats 4000000 in
theorem pl_lo_out3 {a n : Int} {x y : Nat} {w0 : World} (HK0 : Hid (K w0 w0)) (i1 : a < 131072) (oz : FloatKind.f64.format.order 0 0 = some .eq) (H1 : Hid (∀ w, K w0 w → Calls Tryd.prog 19 #[.int .i64 a] w fun e w' => e = .returned (.tuple #[.complex .f64 0 0, .int .i64 4]) ∧ K w0 w')) (HA : Hid (∀ w, K w0 w → Calls Tryd.prog 10 #[] w fun e w' => e = .returned (.bool true) ∧ K w0 w')) (b : Bool) (H2 : Hid (∀ w, K w0 w → Calls Tryd.prog 18 #[.int .i64 a, .int .i64 n] w fun e w' => e = .returned (.bool b) ∧ K w0 w')) (H3 : Hid (∀ w, K w0 w → Calls Tryd.prog 20 #[.int .i64 a, .int .i64 n] w fun e w' => e = .returned (.bool b) ∧ K w0 w')) (H5 : Hid (∀ w, K w0 w → Calls Tryd.prog 21 #[.complex .f64 x y] w fun e w' => e = .returned (.tuple #[.int .i64 0, .int .i64 4]) ∧ K w0 w')) (g1 : (FloatKind.f64.format.order x 4643211215818981376 == some .gt || FloatKind.f64.format.order x 4643211215818981376 == some .eq) = true) (l1 : (FloatKind.f64.format.order x 4663758889118859264 == some .lt) = true) (g2 : (FloatKind.f64.format.order y 0 == some .gt || FloatKind.f64.format.order y 0 == some .eq) = true) (l2 : (FloatKind.f64.format.order y 4647714815446351872 == some .lt) = false) : Calls Tryd.prog 6 #[.int .i64 a, .int .i64 n, .float .f64 x, .float .f64 y] w0 fun e w' => e = .returned (.bool true) ∧ Fr (fun _ => False) w0 w' := by
  go_enter Tryd.func6, Tryd.ntmps6
  go_wp2_with fail
  refine (H1.out _ HK0.out).mono ?_
  rintro e w1 ⟨rfl, hk⟩
  have HK1 := hid hk
  clear hk HK0
  go_wp2_with fail
  refine (HA.out _ HK1.out).mono ?_
  rintro e w2 ⟨rfl, hk⟩
  have HK2 := hid hk
  clear hk HK1
  go_wp2_with fail
  refine (H2.out _ HK2.out).mono ?_
  rintro e w3 ⟨rfl, hk⟩
  have HK3 := hid hk
  clear hk HK2
  go_wp2_with fail
  refine (H3.out _ HK3.out).mono ?_
  rintro e w4 ⟨rfl, hk⟩
  have HK4 := hid hk
  clear hk HK3
  go_wp2_with fail
  refine (H5.out _ HK4.out).mono ?_
  rintro e w5 ⟨rfl, hk⟩
  have HK5 := hid hk
  clear hk HK4
  go_wp2
  go_ret
  exact ⟨by simp, HK5.out.fr⟩
set_option maxRecDepth 20000 in
set_option maxHeartbeats 4000000 in
theorem pl_lo_frac1 {a n : Int} {x y : Nat} {w0 : World} (HK0 : Hid (K w0 w0)) (i1 : a < 131072) (oz : FloatKind.f64.format.order 0 0 = some .eq) (H1 : Hid (∀ w, K w0 w → Calls Tryd.prog 19 #[.int .i64 a] w fun e w' => e = .returned (.tuple #[.complex .f64 0 0, .int .i64 4]) ∧ K w0 w')) (HA : Hid (∀ w, K w0 w → Calls Tryd.prog 10 #[] w fun e w' => e = .returned (.bool true) ∧ K w0 w')) (b : Bool) (H2 : Hid (∀ w, K w0 w → Calls Tryd.prog 18 #[.int .i64 a, .int .i64 n] w fun e w' => e = .returned (.bool b) ∧ K w0 w')) (H3 : Hid (∀ w, K w0 w → Calls Tryd.prog 20 #[.int .i64 a, .int .i64 n] w fun e w' => e = .returned (.bool b) ∧ K w0 w')) (H5 : Hid (∀ w, K w0 w → Calls Tryd.prog 21 #[.complex .f64 x y] w fun e w' => e = .returned (.tuple #[.int .i64 0, .int .i64 4]) ∧ K w0 w')) (g1 : (FloatKind.f64.format.order x 4643211215818981376 == some .gt || FloatKind.f64.format.order x 4643211215818981376 == some .eq) = true) (l1 : (FloatKind.f64.format.order x 4663758889118859264 == some .lt) = true) (g2 : (FloatKind.f64.format.order y 0 == some .gt || FloatKind.f64.format.order y 0 == some .eq) = true) (l2 : (FloatKind.f64.format.order y 4647714815446351872 == some .lt) = true) (qx qy : Int) (v1 : ∀ w, (convert 37 3 (.float .f64 x)).run Tryd.prog w = .ok (.int .i64 qx) w) (_ : ∀ w, (convert 37 3 (.float .f64 y)).run Tryd.prog w = .ok (.int .i64 qy) w) (e1 : (FloatKind.f64.format.order (floatOfInt .f64 qx) x == some .eq) = false) : Calls Tryd.prog 6 #[.int .i64 a, .int .i64 n, .float .f64 x, .float .f64 y] w0 fun e w' => e = .returned (.bool true) ∧ Fr (fun _ => False) w0 w' := by
  go_enter Tryd.func6, Tryd.ntmps6
  go_wp2_with fail
  refine (H1.out _ HK0.out).mono ?_
  rintro e w1 ⟨rfl, hk⟩
  have HK1 := hid hk
  clear hk HK0
  go_wp2_with fail
  refine (HA.out _ HK1.out).mono ?_
  rintro e w2 ⟨rfl, hk⟩
  have HK2 := hid hk
  clear hk HK1
  go_wp2_with fail
  refine (H2.out _ HK2.out).mono ?_
  rintro e w3 ⟨rfl, hk⟩
  have HK3 := hid hk
  clear hk HK2
  go_wp2_with fail
  refine (H3.out _ HK3.out).mono ?_
  rintro e w4 ⟨rfl, hk⟩
  have HK4 := hid hk
  clear hk HK3
  go_wp2_with fail
  refine (H5.out _ HK4.out).mono ?_
  rintro e w5 ⟨rfl, hk⟩
  have HK5 := hid hk
  clear hk HK4
  go_wp2
  go_ret
  exact ⟨by simp, HK5.out.fr⟩
set_option maxRecDepth 20000 in
set_option maxHeartbeats 4000000 in
theorem pl_lo_frac2 {a n : Int} {x y : Nat} {w0 : World} (HK0 : Hid (K w0 w0)) (i1 : a < 131072) (oz : FloatKind.f64.format.order 0 0 = some .eq) (H1 : Hid (∀ w, K w0 w → Calls Tryd.prog 19 #[.int .i64 a] w fun e w' => e = .returned (.tuple #[.complex .f64 0 0, .int .i64 4]) ∧ K w0 w')) (HA : Hid (∀ w, K w0 w → Calls Tryd.prog 10 #[] w fun e w' => e = .returned (.bool true) ∧ K w0 w')) (b : Bool) (H2 : Hid (∀ w, K w0 w → Calls Tryd.prog 18 #[.int .i64 a, .int .i64 n] w fun e w' => e = .returned (.bool b) ∧ K w0 w')) (H3 : Hid (∀ w, K w0 w → Calls Tryd.prog 20 #[.int .i64 a, .int .i64 n] w fun e w' => e = .returned (.bool b) ∧ K w0 w')) (H5 : Hid (∀ w, K w0 w → Calls Tryd.prog 21 #[.complex .f64 x y] w fun e w' => e = .returned (.tuple #[.int .i64 0, .int .i64 4]) ∧ K w0 w')) (g1 : (FloatKind.f64.format.order x 4643211215818981376 == some .gt || FloatKind.f64.format.order x 4643211215818981376 == some .eq) = true) (l1 : (FloatKind.f64.format.order x 4663758889118859264 == some .lt) = true) (g2 : (FloatKind.f64.format.order y 0 == some .gt || FloatKind.f64.format.order y 0 == some .eq) = true) (l2 : (FloatKind.f64.format.order y 4647714815446351872 == some .lt) = true) (qx qy : Int) (v1 : ∀ w, (convert 37 3 (.float .f64 x)).run Tryd.prog w = .ok (.int .i64 qx) w) (v2 : ∀ w, (convert 37 3 (.float .f64 y)).run Tryd.prog w = .ok (.int .i64 qy) w) (e1 : (FloatKind.f64.format.order (floatOfInt .f64 qx) x == some .eq) = true) (e2 : (FloatKind.f64.format.order (floatOfInt .f64 qy) y == some .eq) = false) : Calls Tryd.prog 6 #[.int .i64 a, .int .i64 n, .float .f64 x, .float .f64 y] w0 fun e w' => e = .returned (.bool true) ∧ Fr (fun _ => False) w0 w' := by
  go_enter Tryd.func6, Tryd.ntmps6
  go_wp2_with fail
  refine (H1.out _ HK0.out).mono ?_
  rintro e w1 ⟨rfl, hk⟩
  have HK1 := hid hk
  clear hk HK0
  go_wp2_with fail
  refine (HA.out _ HK1.out).mono ?_
  rintro e w2 ⟨rfl, hk⟩
  have HK2 := hid hk
  clear hk HK1
  go_wp2_with fail
  refine (H2.out _ HK2.out).mono ?_
  rintro e w3 ⟨rfl, hk⟩
  have HK3 := hid hk
  clear hk HK2
  go_wp2_with fail
  refine (H3.out _ HK3.out).mono ?_
  rintro e w4 ⟨rfl, hk⟩
  have HK4 := hid hk
  clear hk HK3
  go_wp2_with fail
  refine (H5.out _ HK4.out).mono ?_
  rintro e w5 ⟨rfl, hk⟩
  have HK5 := hid hk
  clear hk HK4
  go_wp2
  go_ret
  exact ⟨by simp, HK5.out.fr⟩
set_option maxRecDepth 20000 in
set_option maxHeartbeats 4000000 in
theorem pl_hi_yes {a n : Int} {x y : Nat} {w0 : World} (HK0 : Hid (K w0 w0)) (i1 : 131072 ≤ a) (i2 : 3276800 ≤ a) (oz : FloatKind.f64.format.order 0 0 = some .eq) (H1 : Hid (∀ w, K w0 w → Calls Tryd.prog 19 #[.int .i64 a] w fun e w' => e = .returned (.tuple #[.complex .f64 0 0, .int .i64 4]) ∧ K w0 w')) (HA : Hid (∀ w, K w0 w → Calls Tryd.prog 10 #[] w fun e w' => e = .returned (.bool true) ∧ K w0 w')) (b : Bool) (H2 : Hid (∀ w, K w0 w → Calls Tryd.prog 18 #[.int .i64 a, .int .i64 n] w fun e w' => e = .returned (.bool b) ∧ K w0 w')) (H3 : Hid (∀ w, K w0 w → Calls Tryd.prog 20 #[.int .i64 a, .int .i64 n] w fun e w' => e = .returned (.bool b) ∧ K w0 w')) (r qx qy : Int) (H5 : Hid (∀ w, K w0 w → Calls Tryd.prog 21 #[.complex .f64 x y] w fun e w' => e = .returned (.tuple #[.int .i64 r, .int .i64 0]) ∧ K w0 w')) (H6 : Hid (∀ w, K w0 w → Calls Tryd.prog 19 #[.int .i64 r] w fun e w' => e = .returned (.tuple #[.complex .f64 (floatOfInt .f64 qx) (floatOfInt .f64 qy), .int .i64 0]) ∧ K w0 w')) (e1 : (FloatKind.f64.format.order (floatOfInt .f64 qx) x == some .eq) = true) (e2 : (FloatKind.f64.format.order (floatOfInt .f64 qy) y == some .eq) = true) : Calls Tryd.prog 6 #[.int .i64 a, .int .i64 n, .float .f64 x, .float .f64 y] w0 fun e w' => e = .returned (.bool true) ∧ Fr (fun _ => False) w0 w' := by
  go_enter Tryd.func6, Tryd.ntmps6
  go_wp2_with fail
  refine (H1.out _ HK0.out).mono ?_
  rintro e w1 ⟨rfl, hk⟩
  have HK1 := hid hk
  clear hk HK0
  go_wp2_with fail
  refine (HA.out _ HK1.out).mono ?_
  rintro e w2 ⟨rfl, hk⟩
  have HK2 := hid hk
  clear hk HK1
  go_wp2_with fail
  refine (H2.out _ HK2.out).mono ?_
  rintro e w3 ⟨rfl, hk⟩
  have HK3 := hid hk
  clear hk HK2
  go_wp2_with fail
  refine (H3.out _ HK3.out).mono ?_
  rintro e w4 ⟨rfl, hk⟩
  have HK4 := hid hk
  clear hk HK3
  go_wp2_with fail
  refine (H5.out _ HK4.out).mono ?_
  rintro e w5 ⟨rfl, hk⟩
  have HK5 := hid hk
  clear hk HK4
  go_wp2_with fail
  refine (H6.out _ HK5.out).mono ?_
  rintro e w6 ⟨rfl, hk⟩
  have HK6 := hid hk
  clear hk HK5
  go_wp2
  go_ret
  exact ⟨by simp, HK6.out.fr⟩
set_option maxRecDepth 20000 in
set_option maxHeartbeats 4000000 in
theorem pl_hi_out0 {a n : Int} {x y : Nat} {w0 : World} (HK0 : Hid (K w0 w0)) (i1 : 131072 ≤ a) (i2 : 3276800 ≤ a) (oz : FloatKind.f64.format.order 0 0 = some .eq) (H1 : Hid (∀ w, K w0 w → Calls Tryd.prog 19 #[.int .i64 a] w fun e w' => e = .returned (.tuple #[.complex .f64 0 0, .int .i64 4]) ∧ K w0 w')) (HA : Hid (∀ w, K w0 w → Calls Tryd.prog 10 #[] w fun e w' => e = .returned (.bool true) ∧ K w0 w')) (b : Bool) (H2 : Hid (∀ w, K w0 w → Calls Tryd.prog 18 #[.int .i64 a, .int .i64 n] w fun e w' => e = .returned (.bool b) ∧ K w0 w')) (H3 : Hid (∀ w, K w0 w → Calls Tryd.prog 20 #[.int .i64 a, .int .i64 n] w fun e w' => e = .returned (.bool b) ∧ K w0 w')) (H5 : Hid (∀ w, K w0 w → Calls Tryd.prog 21 #[.complex .f64 x y] w fun e w' => e = .returned (.tuple #[.int .i64 0, .int .i64 4]) ∧ K w0 w')) (g1 : (FloatKind.f64.format.order x 4643211215818981376 == some .gt || FloatKind.f64.format.order x 4643211215818981376 == some .eq) = false) : Calls Tryd.prog 6 #[.int .i64 a, .int .i64 n, .float .f64 x, .float .f64 y] w0 fun e w' => e = .returned (.bool true) ∧ Fr (fun _ => False) w0 w' := by
  go_enter Tryd.func6, Tryd.ntmps6
  go_wp2_with fail
  refine (H1.out _ HK0.out).mono ?_
  rintro e w1 ⟨rfl, hk⟩
  have HK1 := hid hk
  clear hk HK0
  go_wp2_with fail
  refine (HA.out _ HK1.out).mono ?_
  rintro e w2 ⟨rfl, hk⟩
  have HK2 := hid hk
  clear hk HK1
  go_wp2_with fail
  refine (H2.out _ HK2.out).mono ?_
  rintro e w3 ⟨rfl, hk⟩
  have HK3 := hid hk
  clear hk HK2
  go_wp2_with fail
  refine (H3.out _ HK3.out).mono ?_
  rintro e w4 ⟨rfl, hk⟩
  have HK4 := hid hk
  clear hk HK3
  go_wp2_with fail
  refine (H5.out _ HK4.out).mono ?_
  rintro e w5 ⟨rfl, hk⟩
  have HK5 := hid hk
  clear hk HK4
  go_wp2
  go_ret
  exact ⟨by simp, HK5.out.fr⟩
set_option maxRecDepth 20000 in
set_option maxHeartbeats 4000000 in
theorem pl_hi_out1 {a n : Int} {x y : Nat} {w0 : World} (HK0 : Hid (K w0 w0)) (i1 : 131072 ≤ a) (i2 : 3276800 ≤ a) (oz : FloatKind.f64.format.order 0 0 = some .eq) (H1 : Hid (∀ w, K w0 w → Calls Tryd.prog 19 #[.int .i64 a] w fun e w' => e = .returned (.tuple #[.complex .f64 0 0, .int .i64 4]) ∧ K w0 w')) (HA : Hid (∀ w, K w0 w → Calls Tryd.prog 10 #[] w fun e w' => e = .returned (.bool true) ∧ K w0 w')) (b : Bool) (H2 : Hid (∀ w, K w0 w → Calls Tryd.prog 18 #[.int .i64 a, .int .i64 n] w fun e w' => e = .returned (.bool b) ∧ K w0 w')) (H3 : Hid (∀ w, K w0 w → Calls Tryd.prog 20 #[.int .i64 a, .int .i64 n] w fun e w' => e = .returned (.bool b) ∧ K w0 w')) (H5 : Hid (∀ w, K w0 w → Calls Tryd.prog 21 #[.complex .f64 x y] w fun e w' => e = .returned (.tuple #[.int .i64 0, .int .i64 4]) ∧ K w0 w')) (g1 : (FloatKind.f64.format.order x 4643211215818981376 == some .gt || FloatKind.f64.format.order x 4643211215818981376 == some .eq) = true) (l1 : (FloatKind.f64.format.order x 4663758889118859264 == some .lt) = false) : Calls Tryd.prog 6 #[.int .i64 a, .int .i64 n, .float .f64 x, .float .f64 y] w0 fun e w' => e = .returned (.bool true) ∧ Fr (fun _ => False) w0 w' := by
  go_enter Tryd.func6, Tryd.ntmps6
  go_wp2_with fail
  refine (H1.out _ HK0.out).mono ?_
  rintro e w1 ⟨rfl, hk⟩
  have HK1 := hid hk
  clear hk HK0
  go_wp2_with fail
  refine (HA.out _ HK1.out).mono ?_
  rintro e w2 ⟨rfl, hk⟩
  have HK2 := hid hk
  clear hk HK1
  go_wp2_with fail
  refine (H2.out _ HK2.out).mono ?_
  rintro e w3 ⟨rfl, hk⟩
  have HK3 := hid hk
  clear hk HK2
  go_wp2_with fail
  refine (H3.out _ HK3.out).mono ?_
  rintro e w4 ⟨rfl, hk⟩
  have HK4 := hid hk
  clear hk HK3
  go_wp2_with fail
  refine (H5.out _ HK4.out).mono ?_
  rintro e w5 ⟨rfl, hk⟩
  have HK5 := hid hk
  clear hk HK4
  go_wp2
  go_ret
  exact ⟨by simp, HK5.out.fr⟩
set_option maxRecDepth 20000 in
set_option maxHeartbeats 4000000 in
theorem pl_hi_out2 {a n : Int} {x y : Nat} {w0 : World} (HK0 : Hid (K w0 w0)) (i1 : 131072 ≤ a) (i2 : 3276800 ≤ a) (oz : FloatKind.f64.format.order 0 0 = some .eq) (H1 : Hid (∀ w, K w0 w → Calls Tryd.prog 19 #[.int .i64 a] w fun e w' => e = .returned (.tuple #[.complex .f64 0 0, .int .i64 4]) ∧ K w0 w')) (HA : Hid (∀ w, K w0 w → Calls Tryd.prog 10 #[] w fun e w' => e = .returned (.bool true) ∧ K w0 w')) (b : Bool) (H2 : Hid (∀ w, K w0 w → Calls Tryd.prog 18 #[.int .i64 a, .int .i64 n] w fun e w' => e = .returned (.bool b) ∧ K w0 w')) (H3 : Hid (∀ w, K w0 w → Calls Tryd.prog 20 #[.int .i64 a, .int .i64 n] w fun e w' => e = .returned (.bool b) ∧ K w0 w')) (H5 : Hid (∀ w, K w0 w → Calls Tryd.prog 21 #[.complex .f64 x y] w fun e w' => e = .returned (.tuple #[.int .i64 0, .int .i64 4]) ∧ K w0 w')) (g1 : (FloatKind.f64.format.order x 4643211215818981376 == some .gt || FloatKind.f64.format.order x 4643211215818981376 == some .eq) = true) (l1 : (FloatKind.f64.format.order x 4663758889118859264 == some .lt) = true) (g2 : (FloatKind.f64.format.order y 0 == some .gt || FloatKind.f64.format.order y 0 == some .eq) = false) : Calls Tryd.prog 6 #[.int .i64 a, .int .i64 n, .float .f64 x, .float .f64 y] w0 fun e w' => e = .returned (.bool true) ∧ Fr (fun _ => False) w0 w' := by
  go_enter Tryd.func6, Tryd.ntmps6
  go_wp2_with fail
  refine (H1.out _ HK0.out).mono ?_
  rintro e w1 ⟨rfl, hk⟩
  have HK1 := hid hk
  clear hk HK0
  go_wp2_with fail
  refine (HA.out _ HK1.out).mono ?_
  rintro e w2 ⟨rfl, hk⟩
  have HK2 := hid hk
  clear hk HK1
  go_wp2_with fail
  refine (H2.out _ HK2.out).mono ?_
  rintro e w3 ⟨rfl, hk⟩
  have HK3 := hid hk
  clear hk HK2
  go_wp2_with fail
  refine (H3.out _ HK3.out).mono ?_
  rintro e w4 ⟨rfl, hk⟩
  have HK4 := hid hk
  clear hk HK3
  go_wp2_with fail
  refine (H5.out _ HK4.out).mono ?_
  rintro e w5 ⟨rfl, hk⟩
  have HK5 := hid hk
  clear hk HK4
  go_wp2
  go_ret
  exact ⟨by simp, HK5.out.fr⟩
set_option maxRecDepth 20000 in
set_option maxHeartbeats 4000000 in
theorem pl_hi_out3 {a n : Int} {x y : Nat} {w0 : World} (HK0 : Hid (K w0 w0)) (i1 : 131072 ≤ a) (i2 : 3276800 ≤ a) (oz : FloatKind.f64.format.order 0 0 = some .eq) (H1 : Hid (∀ w, K w0 w → Calls Tryd.prog 19 #[.int .i64 a] w fun e w' => e = .returned (.tuple #[.complex .f64 0 0, .int .i64 4]) ∧ K w0 w')) (HA : Hid (∀ w, K w0 w → Calls Tryd.prog 10 #[] w fun e w' => e = .returned (.bool true) ∧ K w0 w')) (b : Bool) (H2 : Hid (∀ w, K w0 w → Calls Tryd.prog 18 #[.int .i64 a, .int .i64 n] w fun e w' => e = .returned (.bool b) ∧ K w0 w')) (H3 : Hid (∀ w, K w0 w → Calls Tryd.prog 20 #[.int .i64 a, .int .i64 n] w fun e w' => e = .returned (.bool b) ∧ K w0 w')) (H5 : Hid (∀ w, K w0 w → Calls Tryd.prog 21 #[.complex .f64 x y] w fun e w' => e = .returned (.tuple #[.int .i64 0, .int .i64 4]) ∧ K w0 w')) (g1 : (FloatKind.f64.format.order x 4643211215818981376 == some .gt || FloatKind.f64.format.order x 4643211215818981376 == some .eq) = true) (l1 : (FloatKind.f64.format.order x 4663758889118859264 == some .lt) = true) (g2 : (FloatKind.f64.format.order y 0 == some .gt || FloatKind.f64.format.order y 0 == some .eq) = true) (l2 : (FloatKind.f64.format.order y 4647714815446351872 == some .lt) = false) : Calls Tryd.prog 6 #[.int .i64 a, .int .i64 n, .float .f64 x, .float .f64 y] w0 fun e w' => e = .returned (.bool true) ∧ Fr (fun _ => False) w0 w' := by
  go_enter Tryd.func6, Tryd.ntmps6
  go_wp2_with fail
  refine (H1.out _ HK0.out).mono ?_
  rintro e w1 ⟨rfl, hk⟩
  have HK1 := hid hk
  clear hk HK0
  go_wp2_with fail
  refine (HA.out _ HK1.out).mono ?_
  rintro e w2 ⟨rfl, hk⟩
  have HK2 := hid hk
  clear hk HK1
  go_wp2_with fail
  refine (H2.out _ HK2.out).mono ?_
  rintro e w3 ⟨rfl, hk⟩
  have HK3 := hid hk
  clear hk HK2
  go_wp2_with fail
  refine (H3.out _ HK3.out).mono ?_
  rintro e w4 ⟨rfl, hk⟩
  have HK4 := hid hk
  clear hk HK3
  go_wp2_with fail
  refine (H5.out _ HK4.out).mono ?_
  rintro e w5 ⟨rfl, hk⟩
  have HK5 := hid hk
  clear hk HK4
  go_wp2
  go_ret
  exact ⟨by simp, HK5.out.fr⟩
set_option maxRecDepth 20000 in
set_option maxHeartbeats 4000000 in
theorem pl_hi_frac1 {a n : Int} {x y : Nat} {w0 : World} (HK0 : Hid (K w0 w0)) (i1 : 131072 ≤ a) (i2 : 3276800 ≤ a) (oz : FloatKind.f64.format.order 0 0 = some .eq) (H1 : Hid (∀ w, K w0 w → Calls Tryd.prog 19 #[.int .i64 a] w fun e w' => e = .returned (.tuple #[.complex .f64 0 0, .int .i64 4]) ∧ K w0 w')) (HA : Hid (∀ w, K w0 w → Calls Tryd.prog 10 #[] w fun e w' => e = .returned (.bool true) ∧ K w0 w')) (b : Bool) (H2 : Hid (∀ w, K w0 w → Calls Tryd.prog 18 #[.int .i64 a, .int .i64 n] w fun e w' => e = .returned (.bool b) ∧ K w0 w')) (H3 : Hid (∀ w, K w0 w → Calls Tryd.prog 20 #[.int .i64 a, .int .i64 n] w fun e w' => e = .returned (.bool b) ∧ K w0 w')) (H5 : Hid (∀ w, K w0 w → Calls Tryd.prog 21 #[.complex .f64 x y] w fun e w' => e = .returned (.tuple #[.int .i64 0, .int .i64 4]) ∧ K w0 w')) (g1 : (FloatKind.f64.format.order x 4643211215818981376 == some .gt || FloatKind.f64.format.order x 4643211215818981376 == some .eq) = true) (l1 : (FloatKind.f64.format.order x 4663758889118859264 == some .lt) = true) (g2 : (FloatKind.f64.format.order y 0 == some .gt || FloatKind.f64.format.order y 0 == some .eq) = true) (l2 : (FloatKind.f64.format.order y 4647714815446351872 == some .lt) = true) (qx qy : Int) (v1 : ∀ w, (convert 37 3 (.float .f64 x)).run Tryd.prog w = .ok (.int .i64 qx) w) (_ : ∀ w, (convert 37 3 (.float .f64 y)).run Tryd.prog w = .ok (.int .i64 qy) w) (e1 : (FloatKind.f64.format.order (floatOfInt .f64 qx) x == some .eq) = false) : Calls Tryd.prog 6 #[.int .i64 a, .int .i64 n, .float .f64 x, .float .f64 y] w0 fun e w' => e = .returned (.bool true) ∧ Fr (fun _ => False) w0 w' := by
  go_enter Tryd.func6, Tryd.ntmps6
  go_wp2_with fail
  refine (H1.out _ HK0.out).mono ?_
  rintro e w1 ⟨rfl, hk⟩
  have HK1 := hid hk
  clear hk HK0
  go_wp2_with fail
  refine (HA.out _ HK1.out).mono ?_
  rintro e w2 ⟨rfl, hk⟩
  have HK2 := hid hk
  clear hk HK1
  go_wp2_with fail
  refine (H2.out _ HK2.out).mono ?_
  rintro e w3 ⟨rfl, hk⟩
  have HK3 := hid hk
  clear hk HK2
  go_wp2_with fail
  refine (H3.out _ HK3.out).mono ?_
  rintro e w4 ⟨rfl, hk⟩
  have HK4 := hid hk
  clear hk HK3
  go_wp2_with fail
  refine (H5.out _ HK4.out).mono ?_
  rintro e w5 ⟨rfl, hk⟩
  have HK5 := hid hk
  clear hk HK4
  go_wp2
  go_ret
  exact ⟨by simp, HK5.out.fr⟩
set_option maxRecDepth 20000 in
set_option maxHeartbeats 4000000 in
theorem pl_hi_frac2 {a n : Int} {x y : Nat} {w0 : World} (HK0 : Hid (K w0 w0)) (i1 : 131072 ≤ a) (i2 : 3276800 ≤ a) (oz : FloatKind.f64.format.order 0 0 = some .eq) (H1 : Hid (∀ w, K w0 w → Calls Tryd.prog 19 #[.int .i64 a] w fun e w' => e = .returned (.tuple #[.complex .f64 0 0, .int .i64 4]) ∧ K w0 w')) (HA : Hid (∀ w, K w0 w → Calls Tryd.prog 10 #[] w fun e w' => e = .returned (.bool true) ∧ K w0 w')) (b : Bool) (H2 : Hid (∀ w, K w0 w → Calls Tryd.prog 18 #[.int .i64 a, .int .i64 n] w fun e w' => e = .returned (.bool b) ∧ K w0 w')) (H3 : Hid (∀ w, K w0 w → Calls Tryd.prog 20 #[.int .i64 a, .int .i64 n] w fun e w' => e = .returned (.bool b) ∧ K w0 w')) (H5 : Hid (∀ w, K w0 w → Calls Tryd.prog 21 #[.complex .f64 x y] w fun e w' => e = .returned (.tuple #[.int .i64 0, .int .i64 4]) ∧ K w0 w')) (g1 : (FloatKind.f64.format.order x 4643211215818981376 == some .gt || FloatKind.f64.format.order x 4643211215818981376 == some .eq) = true) (l1 : (FloatKind.f64.format.order x 4663758889118859264 == some .lt) = true) (g2 : (FloatKind.f64.format.order y 0 == some .gt || FloatKind.f64.format.order y 0 == some .eq) = true) (l2 : (FloatKind.f64.format.order y 4647714815446351872 == some .lt) = true) (qx qy : Int) (v1 : ∀ w, (convert 37 3 (.float .f64 x)).run Tryd.prog w = .ok (.int .i64 qx) w) (v2 : ∀ w, (convert 37 3 (.float .f64 y)).run Tryd.prog w = .ok (.int .i64 qy) w) (e1 : (FloatKind.f64.format.order (floatOfInt .f64 qx) x == some .eq) = true) (e2 : (FloatKind.f64.format.order (floatOfInt .f64 qy) y == some .eq) = false) : Calls Tryd.prog 6 #[.int .i64 a, .int .i64 n, .float .f64 x, .float .f64 y] w0 fun e w' => e = .returned (.bool true) ∧ Fr (fun _ => False) w0 w' := by
  go_enter Tryd.func6, Tryd.ntmps6
  go_wp2_with fail
  refine (H1.out _ HK0.out).mono ?_
  rintro e w1 ⟨rfl, hk⟩
  have HK1 := hid hk
  clear hk HK0
  go_wp2_with fail
  refine (HA.out _ HK1.out).mono ?_
  rintro e w2 ⟨rfl, hk⟩
  have HK2 := hid hk
  clear hk HK1
  go_wp2_with fail
  refine (H2.out _ HK2.out).mono ?_
  rintro e w3 ⟨rfl, hk⟩
  have HK3 := hid hk
  clear hk HK2
  go_wp2_with fail
  refine (H3.out _ HK3.out).mono ?_
  rintro e w4 ⟨rfl, hk⟩
  have HK4 := hid hk
  clear hk HK3
  go_wp2_with fail
  refine (H5.out _ HK4.out).mono ?_
  rintro e w5 ⟨rfl, hk⟩
  have HK5 := hid hk
  clear hk HK4
  go_wp2
  go_ret
  exact ⟨by simp, HK5.out.fr⟩
theorem places_walk (a n : Int) (x y : Nat) (ha : I64 a) (hn : I64 n) (w0 : World) (hT : Tab w0) : Calls Tryd.prog 6 #[.int .i64 a, .int .i64 n, .float .f64 x, .float .f64 y] w0 fun e w' => e = .returned (.bool true) ∧ Fr (fun _ => False) w0 w' := by
  have HK0 := hid (K.start hT)
  have HA : Hid (∀ w, K w0 w → Calls Tryd.prog 10 #[] w fun e w' => e = .returned (.bool true) ∧ K w0 w') := fun w k => awake_any k
  have H2 : Hid (∀ w, K w0 w → Calls Tryd.prog 18 #[.int .i64 a, .int .i64 n] w fun e w' => e = .returned (.bool (decide (InW a n))) ∧ K w0 w') := fun w k => l_within a n ha hn k
  have H3 : Hid (∀ w, K w0 w → Calls Tryd.prog 20 #[.int .i64 a, .int .i64 n] w fun e w' => e = .returned (.bool (decide (InW a n))) ∧ K w0 w') := fun w k => e_within a n k
  have NO : (whB x 256 6400 && whB y 0 512) = false → Hid (∀ w, K w0 w → Calls Tryd.prog 21 #[.complex .f64 x y] w fun e w' => e = .returned (.tuple #[.int .i64 0, .int .i64 4]) ∧ K w0 w') := fun h w k => l_addr_no h k
  by_cases i1 : a < 131072
  · have H1 : Hid (∀ w, K w0 w → Calls Tryd.prog 19 #[.int .i64 a] w fun e w' => e = .returned (.tuple #[.complex .f64 0 0, .int .i64 4]) ∧ K w0 w') := fun w k => l_at_no (by omega) ha k
    cases g1 : (FloatKind.f64.format.order x 4643211215818981376 == some .gt || FloatKind.f64.format.order x 4643211215818981376 == some .eq) with
    | false => exact pl_lo_out0 HK0 i1 order_z H1 HA _ H2 H3 (NO (by rw [whB_lit, g1]; rfl)) g1
    | true =>
    cases l1 : (FloatKind.f64.format.order x 4663758889118859264 == some .lt) with
    | false => exact pl_lo_out1 HK0 i1 order_z H1 HA _ H2 H3 (NO (by rw [whB_lit, g1, l1]; rfl)) g1 l1
    | true =>
    cases g2 : (FloatKind.f64.format.order y 0 == some .gt || FloatKind.f64.format.order y 0 == some .eq) with
    | false => exact pl_lo_out2 HK0 i1 order_z H1 HA _ H2 H3 (NO (by rw [whB_lit, g2]; simp)) g1 l1 g2
    | true =>
    cases l2 : (FloatKind.f64.format.order y 4647714815446351872 == some .lt) with
    | false => exact pl_lo_out3 HK0 i1 order_z H1 HA _ H2 H3 (NO (by rw [whB_lit, g2, l2]; simp)) g1 l1 g2 l2
    | true =>
    obtain ⟨qx, hqx, x1, x2⟩ := mid_lit g1 l1
    obtain ⟨qy, hqy, y1, y2⟩ := mid_lit2 g2 l2
    cases e1 : (FloatKind.f64.format.order (floatOfInt .f64 qx) x == some .eq) with
    | false => exact pl_lo_frac1 HK0 i1 order_z H1 HA _ H2 H3 (NO (by rw [whB_lit, hqx]; simp only [e1]; simp)) g1 l1 g2 l2 qx qy (conv_f x qx hqx) (conv_f y qy hqy) e1
    | true =>
    cases e2 : (FloatKind.f64.format.order (floatOfInt .f64 qy) y == some .eq) with
    | false => exact pl_lo_frac2 HK0 i1 order_z H1 HA _ H2 H3 (NO (by rw [whB_lit, hqy]; simp only [e2]; simp)) g1 l1 g2 l2 qx qy (conv_f x qx hqx) (conv_f y qy hqy) e1 e2
    | true =>
      have hb : (whB x 256 6400 && whB y 0 512) = true := by rw [whB_lit, hqx, hqy]; simp only [g1, l1, g2, l2, e1, e2]; rfl
      exact pl_lo_yes HK0 i1 order_z H1 HA _ H2 H3 (qx * 512 + qy) qx qy (hid fun w k => l_addr hb hqx hqy k) (hid fun w k => by
        have := l_at (a := qx * 512 + qy) (by omega) k
        rw [show (qx * 512 + qy) / 512 = qx by omega, show (qx * 512 + qy) % 512 = qy by omega] at this
        exact this) e1 e2
  · have i1 : 131072 ≤ a := by omega
    by_cases i2 : a < 3276800
    · obtain ⟨p, hp⟩ : ∃ p, a / 512 = p := ⟨_, rfl⟩
      obtain ⟨q, hq⟩ : ∃ q, a % 512 = q := ⟨_, rfl⟩
      have t1 : Int.tdiv a 512 = p := by rw [Int.tdiv_eq_ediv_of_nonneg (by omega)]; exact hp
      have t2 := wI (x := p) (by omega)
      have t3 : Int.tmod a 512 = q := by rw [Int.tmod_eq_emod_of_nonneg (by omega)]; exact hq
      have t4 := wI (x := q) (by omega)
      have oX := order_s (n := p) (by omega)
      have oY := order_s (n := q) (by omega)
      have H1 : Hid (∀ w, K w0 w → Calls Tryd.prog 19 #[.int .i64 a] w fun e w' => e = .returned (.tuple #[.complex .f64 (floatOfInt .f64 p) (floatOfInt .f64 q), .int .i64 0]) ∧ K w0 w') := fun w k => by
        have := l_at (a := a) (by omega) k
        rw [hp, hq] at this
        exact this
      have H4 : Hid (∀ w, K w0 w → Calls Tryd.prog 21 #[.complex .f64 (floatOfInt .f64 p) (floatOfInt .f64 q)] w fun e w' => e = .returned (.tuple #[.int .i64 a, .int .i64 0]) ∧ K w0 w') := fun w k => by
        have g1 := fb_order p 256 (by omega) (by decide)
        have g2 := fb_order p 6400 (by omega) (by decide)
        have g3 := fb_order q 0 (by omega) (by decide)
        have g4 := fb_order q 512 (by omega) (by decide)
        have f1 := fb_int p (by omega)
        have f2 := fb_int q (by omega)
        have b1 : whB (fb p) 256 6400 = true := by
          unfold whB geB ltB
          rw [g1, g2, f1]
          simp only [Option.some_beq_some]
          rw [cmp_ge, decide_eq_true (by omega : (256 : Int) ≤ p), show (compare p 6400 == .lt) = true by rw [Int.compare_eq_lt.2 (by omega)]; rfl]
          simp only [Bool.and_self, Bool.true_and]
          exact beq_iff_eq.2 oX
        have b2 : whB (fb q) 0 512 = true := by
          unfold whB geB ltB
          rw [g3, g4, f2]
          simp only [Option.some_beq_some]
          rw [cmp_ge, decide_eq_true (by omega : (0 : Int) ≤ q), show (compare q 512 == .lt) = true by rw [Int.compare_eq_lt.2 (by omega)]; rfl]
          simp only [Bool.and_self, Bool.true_and]
          exact beq_iff_eq.2 oY
        have := l_addr (x := fb p) (y := fb q) (by rw [b1, b2]; rfl) f1 f2 k
        rw [show p * 512 + q = a by omega] at this
        exact this
      cases g1 : (FloatKind.f64.format.order x 4643211215818981376 == some .gt || FloatKind.f64.format.order x 4643211215818981376 == some .eq) with
      | false => exact pl_in_out0 HK0 i1 i2 p q t1 t2 t3 t4 oX oY H1 H4 HA _ H2 H3 (NO (by rw [whB_lit, g1]; rfl)) g1
      | true =>
      cases l1 : (FloatKind.f64.format.order x 4663758889118859264 == some .lt) with
      | false => exact pl_in_out1 HK0 i1 i2 p q t1 t2 t3 t4 oX oY H1 H4 HA _ H2 H3 (NO (by rw [whB_lit, g1, l1]; rfl)) g1 l1
      | true =>
      cases g2 : (FloatKind.f64.format.order y 0 == some .gt || FloatKind.f64.format.order y 0 == some .eq) with
      | false => exact pl_in_out2 HK0 i1 i2 p q t1 t2 t3 t4 oX oY H1 H4 HA _ H2 H3 (NO (by rw [whB_lit, g2]; simp)) g1 l1 g2
      | true =>
      cases l2 : (FloatKind.f64.format.order y 4647714815446351872 == some .lt) with
      | false => exact pl_in_out3 HK0 i1 i2 p q t1 t2 t3 t4 oX oY H1 H4 HA _ H2 H3 (NO (by rw [whB_lit, g2, l2]; simp)) g1 l1 g2 l2
      | true =>
      obtain ⟨qx, hqx, x1, x2⟩ := mid_lit g1 l1
      obtain ⟨qy, hqy, y1, y2⟩ := mid_lit2 g2 l2
      cases e1 : (FloatKind.f64.format.order (floatOfInt .f64 qx) x == some .eq) with
      | false => exact pl_in_frac1 HK0 i1 i2 p q t1 t2 t3 t4 oX oY H1 H4 HA _ H2 H3 (NO (by rw [whB_lit, hqx]; simp only [e1]; simp)) g1 l1 g2 l2 qx qy (conv_f x qx hqx) (conv_f y qy hqy) e1
      | true =>
      cases e2 : (FloatKind.f64.format.order (floatOfInt .f64 qy) y == some .eq) with
      | false => exact pl_in_frac2 HK0 i1 i2 p q t1 t2 t3 t4 oX oY H1 H4 HA _ H2 H3 (NO (by rw [whB_lit, hqy]; simp only [e2]; simp)) g1 l1 g2 l2 qx qy (conv_f x qx hqx) (conv_f y qy hqy) e1 e2
      | true =>
        have hb : (whB x 256 6400 && whB y 0 512) = true := by rw [whB_lit, hqx, hqy]; simp only [g1, l1, g2, l2, e1, e2]; rfl
        exact pl_in_yes HK0 i1 i2 p q t1 t2 t3 t4 oX oY H1 H4 HA _ H2 H3 (qx * 512 + qy) qx qy (hid fun w k => l_addr hb hqx hqy k) (hid fun w k => by
          have := l_at (a := qx * 512 + qy) (by omega) k
          rw [show (qx * 512 + qy) / 512 = qx by omega, show (qx * 512 + qy) % 512 = qy by omega] at this
          exact this) e1 e2
    · have i2 : 3276800 ≤ a := by omega
      have H1 : Hid (∀ w, K w0 w → Calls Tryd.prog 19 #[.int .i64 a] w fun e w' => e = .returned (.tuple #[.complex .f64 0 0, .int .i64 4]) ∧ K w0 w') := fun w k => l_at_no (by omega) ha k
      cases g1 : (FloatKind.f64.format.order x 4643211215818981376 == some .gt || FloatKind.f64.format.order x 4643211215818981376 == some .eq) with
      | false => exact pl_hi_out0 HK0 i1 i2 order_z H1 HA _ H2 H3 (NO (by rw [whB_lit, g1]; rfl)) g1
      | true =>
      cases l1 : (FloatKind.f64.format.order x 4663758889118859264 == some .lt) with
      | false => exact pl_hi_out1 HK0 i1 i2 order_z H1 HA _ H2 H3 (NO (by rw [whB_lit, g1, l1]; rfl)) g1 l1
      | true =>
      cases g2 : (FloatKind.f64.format.order y 0 == some .gt || FloatKind.f64.format.order y 0 == some .eq) with
      | false => exact pl_hi_out2 HK0 i1 i2 order_z H1 HA _ H2 H3 (NO (by rw [whB_lit, g2]; simp)) g1 l1 g2
      | true =>
      cases l2 : (FloatKind.f64.format.order y 4647714815446351872 == some .lt) with
      | false => exact pl_hi_out3 HK0 i1 i2 order_z H1 HA _ H2 H3 (NO (by rw [whB_lit, g2, l2]; simp)) g1 l1 g2 l2
      | true =>
      obtain ⟨qx, hqx, x1, x2⟩ := mid_lit g1 l1
      obtain ⟨qy, hqy, y1, y2⟩ := mid_lit2 g2 l2
      cases e1 : (FloatKind.f64.format.order (floatOfInt .f64 qx) x == some .eq) with
      | false => exact pl_hi_frac1 HK0 i1 i2 order_z H1 HA _ H2 H3 (NO (by rw [whB_lit, hqx]; simp only [e1]; simp)) g1 l1 g2 l2 qx qy (conv_f x qx hqx) (conv_f y qy hqy) e1
      | true =>
      cases e2 : (FloatKind.f64.format.order (floatOfInt .f64 qy) y == some .eq) with
      | false => exact pl_hi_frac2 HK0 i1 i2 order_z H1 HA _ H2 H3 (NO (by rw [whB_lit, hqy]; simp only [e2]; simp)) g1 l1 g2 l2 qx qy (conv_f x qx hqx) (conv_f y qy hqy) e1 e2
      | true =>
        have hb : (whB x 256 6400 && whB y 0 512) = true := by rw [whB_lit, hqx, hqy]; simp only [g1, l1, g2, l2, e1, e2]; rfl
        exact pl_hi_yes HK0 i1 i2 order_z H1 HA _ H2 H3 (qx * 512 + qy) qx qy (hid fun w k => l_addr hb hqx hqy k) (hid fun w k => by
          have := l_at (a := qx * 512 + qy) (by omega) k
          rw [show (qx * 512 + qy) / 512 = qx by omega, show (qx * 512 + qy) % 512 = qy by omega] at this
          exact this) e1 e2
end Go.Proofs.YtkhppfbhhfajgaaDoor
