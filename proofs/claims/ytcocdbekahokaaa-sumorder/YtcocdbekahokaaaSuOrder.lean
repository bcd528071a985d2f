/-
  Two sums come to the same in either order, three in whatever way they are taken together.
-/
import Derived.Test.YtcocdbekahokaaaSuTools
namespace Go.Proofs.Ytcocdbekahokaaa
open Go.RowKit

set_option maxHeartbeats 1000000 in
set_option maxRecDepth 20000 in
theorem order_no1 (a b c d f g e2 e3 : Int) (p1 p2 q1 q2 s1 s2 : Nat) (w0 : World)
    (H1 : Hid (∀ w, Calls Try.prog 9 #[.int .i64 a, .int .i64 b] w fun e w' => e = .returned (.tuple #[.complex .f64 p1 p2, .int .i64 12]) ∧ Fr (fun _ => False) w w'))
    (H2 : Hid (∀ w, Calls Try.prog 9 #[.int .i64 c, .int .i64 d] w fun e w' => e = .returned (.tuple #[.complex .f64 q1 q2, .int .i64 e2]) ∧ Fr (fun _ => False) w w'))
    (H3 : Hid (∀ w, Calls Try.prog 9 #[.int .i64 f, .int .i64 g] w fun e w' => e = .returned (.tuple #[.complex .f64 s1 s2, .int .i64 e3]) ∧ Fr (fun _ => False) w w'))
    (HA : Hid (∀ w, Calls Try.prog 11 #[] w fun e w' => e = .returned (.bool true) ∧ Fr (fun _ => False) w w'))
    : Calls Try.prog 7 #[.agg #[.int .i64 a, .int .i64 b], .agg #[.int .i64 c, .int .i64 d], .agg #[.int .i64 f, .int .i64 g]] w0 fun e w' => e = .returned (.bool true) ∧ Fr (fun _ => False) w0 w' := by
  have HF0 := hid (Fr.refl (fun _ => False) w0)
  go_enter Try.func7, Try.ntmps7
  go_wp2_with fail
  refine (H1.out _).mono ?_
  rintro e w1 ⟨rfl, hf⟩
  obtain ⟨m0, m1, m2, mf⟩ := boxes3 hf
  have HF1 := hid mf
  have M0 := hid m0
  have M1 := hid m1
  have M2 := hid m2
  clear hf HF0 mf m0 m1 m2
  have c10 := M1.out.c0
  have c11 := M1.out.c1
  go_wp2_with fail
  refine (H2.out _).mono ?_
  rintro e w2 ⟨rfl, hf⟩
  have HF2 := hid (HF1.out.trans hf)
  clear c10 c11
  replace M2 := hid (M2.out.carry hf)
  clear hf HF1
  have c20 := M2.out.c0
  have c21 := M2.out.c1
  go_wp2_with fail
  refine (H3.out _).mono ?_
  rintro e w3 ⟨rfl, hf⟩
  have HF3 := hid (HF2.out.trans hf)
  clear c20 c21
  clear hf HF2
  go_wp2_with fail
  refine (HA.out _).mono ?_
  rintro e w4 ⟨rfl, hf⟩
  have HF4 := hid (HF3.out.trans hf)
  clear hf HF3
  go_wp2_with fail
  refine (HA.out _).mono ?_
  rintro e w5 ⟨rfl, hf⟩
  have HF5 := hid (HF4.out.trans hf)
  clear hf HF4
  go_wp2
  go_ret
  exact ⟨by simp, HF5.out⟩
set_option maxHeartbeats 1000000 in
set_option maxRecDepth 20000 in
theorem order_no2 (a b c d f g e3 : Int) (p1 p2 q1 q2 s1 s2 : Nat) (w0 : World)
    (H1 : Hid (∀ w, Calls Try.prog 9 #[.int .i64 a, .int .i64 b] w fun e w' => e = .returned (.tuple #[.complex .f64 p1 p2, .int .i64 0]) ∧ Fr (fun _ => False) w w'))
    (H2 : Hid (∀ w, Calls Try.prog 9 #[.int .i64 c, .int .i64 d] w fun e w' => e = .returned (.tuple #[.complex .f64 q1 q2, .int .i64 12]) ∧ Fr (fun _ => False) w w'))
    (H3 : Hid (∀ w, Calls Try.prog 9 #[.int .i64 f, .int .i64 g] w fun e w' => e = .returned (.tuple #[.complex .f64 s1 s2, .int .i64 e3]) ∧ Fr (fun _ => False) w w'))
    (HA : Hid (∀ w, Calls Try.prog 11 #[] w fun e w' => e = .returned (.bool true) ∧ Fr (fun _ => False) w w'))
    : Calls Try.prog 7 #[.agg #[.int .i64 a, .int .i64 b], .agg #[.int .i64 c, .int .i64 d], .agg #[.int .i64 f, .int .i64 g]] w0 fun e w' => e = .returned (.bool true) ∧ Fr (fun _ => False) w0 w' := by
  have HF0 := hid (Fr.refl (fun _ => False) w0)
  go_enter Try.func7, Try.ntmps7
  go_wp2_with fail
  refine (H1.out _).mono ?_
  rintro e w1 ⟨rfl, hf⟩
  obtain ⟨m0, m1, m2, mf⟩ := boxes3 hf
  have HF1 := hid mf
  have M0 := hid m0
  have M1 := hid m1
  have M2 := hid m2
  clear hf HF0 mf m0 m1 m2
  have c10 := M1.out.c0
  have c11 := M1.out.c1
  go_wp2_with fail
  refine (H2.out _).mono ?_
  rintro e w2 ⟨rfl, hf⟩
  have HF2 := hid (HF1.out.trans hf)
  clear c10 c11
  replace M2 := hid (M2.out.carry hf)
  clear hf HF1
  have c20 := M2.out.c0
  have c21 := M2.out.c1
  go_wp2_with fail
  refine (H3.out _).mono ?_
  rintro e w3 ⟨rfl, hf⟩
  have HF3 := hid (HF2.out.trans hf)
  clear c20 c21
  clear hf HF2
  go_wp2_with fail
  refine (HA.out _).mono ?_
  rintro e w4 ⟨rfl, hf⟩
  have HF4 := hid (HF3.out.trans hf)
  clear hf HF3
  go_wp2_with fail
  refine (HA.out _).mono ?_
  rintro e w5 ⟨rfl, hf⟩
  have HF5 := hid (HF4.out.trans hf)
  clear hf HF4
  go_wp2
  go_ret
  exact ⟨by simp, HF5.out⟩
set_option maxHeartbeats 1000000 in
set_option maxRecDepth 20000 in
theorem order_no3 (a b c d f g : Int) (p1 p2 q1 q2 s1 s2 : Nat) (w0 : World)
    (H1 : Hid (∀ w, Calls Try.prog 9 #[.int .i64 a, .int .i64 b] w fun e w' => e = .returned (.tuple #[.complex .f64 p1 p2, .int .i64 0]) ∧ Fr (fun _ => False) w w'))
    (H2 : Hid (∀ w, Calls Try.prog 9 #[.int .i64 c, .int .i64 d] w fun e w' => e = .returned (.tuple #[.complex .f64 q1 q2, .int .i64 0]) ∧ Fr (fun _ => False) w w'))
    (H3 : Hid (∀ w, Calls Try.prog 9 #[.int .i64 f, .int .i64 g] w fun e w' => e = .returned (.tuple #[.complex .f64 s1 s2, .int .i64 12]) ∧ Fr (fun _ => False) w w'))
    (HA : Hid (∀ w, Calls Try.prog 11 #[] w fun e w' => e = .returned (.bool true) ∧ Fr (fun _ => False) w w'))
    : Calls Try.prog 7 #[.agg #[.int .i64 a, .int .i64 b], .agg #[.int .i64 c, .int .i64 d], .agg #[.int .i64 f, .int .i64 g]] w0 fun e w' => e = .returned (.bool true) ∧ Fr (fun _ => False) w0 w' := by
  have HF0 := hid (Fr.refl (fun _ => False) w0)
  go_enter Try.func7, Try.ntmps7
  go_wp2_with fail
  refine (H1.out _).mono ?_
  rintro e w1 ⟨rfl, hf⟩
  obtain ⟨m0, m1, m2, mf⟩ := boxes3 hf
  have HF1 := hid mf
  have M0 := hid m0
  have M1 := hid m1
  have M2 := hid m2
  clear hf HF0 mf m0 m1 m2
  have c10 := M1.out.c0
  have c11 := M1.out.c1
  go_wp2_with fail
  refine (H2.out _).mono ?_
  rintro e w2 ⟨rfl, hf⟩
  have HF2 := hid (HF1.out.trans hf)
  clear c10 c11
  replace M2 := hid (M2.out.carry hf)
  clear hf HF1
  have c20 := M2.out.c0
  have c21 := M2.out.c1
  go_wp2_with fail
  refine (H3.out _).mono ?_
  rintro e w3 ⟨rfl, hf⟩
  have HF3 := hid (HF2.out.trans hf)
  clear c20 c21
  clear hf HF2
  go_wp2_with fail
  refine (HA.out _).mono ?_
  rintro e w4 ⟨rfl, hf⟩
  have HF4 := hid (HF3.out.trans hf)
  clear hf HF3
  go_wp2_with fail
  refine (HA.out _).mono ?_
  rintro e w5 ⟨rfl, hf⟩
  have HF5 := hid (HF4.out.trans hf)
  clear hf HF4
  go_wp2
  go_ret
  exact ⟨by simp, HF5.out⟩
set_option maxHeartbeats 1000000 in
set_option maxRecDepth 20000 in
theorem order_p (a b c d f g el ek en : Int) (p1 p2 q1 q2 s1 s2 : Nat) (u1 u2 l1 l2 m1 m2 n1 n2 : Nat) (w0 : World) (ou1u1 : FloatKind.f64.format.order u1 u1 = some .eq) (ou2u2 : FloatKind.f64.format.order u2 u2 = some .eq)
    (H1 : Hid (∀ w, Calls Try.prog 9 #[.int .i64 a, .int .i64 b] w fun e w' => e = .returned (.tuple #[.complex .f64 p1 p2, .int .i64 0]) ∧ Fr (fun _ => False) w w'))
    (H2 : Hid (∀ w, Calls Try.prog 9 #[.int .i64 c, .int .i64 d] w fun e w' => e = .returned (.tuple #[.complex .f64 q1 q2, .int .i64 0]) ∧ Fr (fun _ => False) w w'))
    (H3 : Hid (∀ w, Calls Try.prog 9 #[.int .i64 f, .int .i64 g] w fun e w' => e = .returned (.tuple #[.complex .f64 s1 s2, .int .i64 0]) ∧ Fr (fun _ => False) w w'))
    (HA : Hid (∀ w, Calls Try.prog 11 #[] w fun e w' => e = .returned (.bool true) ∧ Fr (fun _ => False) w w'))
    (H4 : Hid (∀ w, Calls Try.prog 13 #[.complex .f64 p1 p2, .complex .f64 q1 q2] w fun e w' => e = .returned (.tuple #[.complex .f64 u1 u2, .int .i64 12]) ∧ Fr (fun _ => False) w w'))
    (H5 : Hid (∀ w, Calls Try.prog 13 #[.complex .f64 q1 q2, .complex .f64 p1 p2] w fun e w' => e = .returned (.tuple #[.complex .f64 u1 u2, .int .i64 12]) ∧ Fr (fun _ => False) w w'))
    (H6 : Hid (∀ w, Calls Try.prog 13 #[.complex .f64 u1 u2, .complex .f64 s1 s2] w fun e w' => e = .returned (.tuple #[.complex .f64 l1 l2, .int .i64 el]) ∧ Fr (fun _ => False) w w'))
    (H7 : Hid (∀ w, Calls Try.prog 13 #[.complex .f64 q1 q2, .complex .f64 s1 s2] w fun e w' => e = .returned (.tuple #[.complex .f64 m1 m2, .int .i64 ek]) ∧ Fr (fun _ => False) w w'))
    (H8 : Hid (∀ w, Calls Try.prog 13 #[.complex .f64 p1 p2, .complex .f64 m1 m2] w fun e w' => e = .returned (.tuple #[.complex .f64 n1 n2, .int .i64 en]) ∧ Fr (fun _ => False) w w'))
    : Calls Try.prog 7 #[.agg #[.int .i64 a, .int .i64 b], .agg #[.int .i64 c, .int .i64 d], .agg #[.int .i64 f, .int .i64 g]] w0 fun e w' => e = .returned (.bool true) ∧ Fr (fun _ => False) w0 w' := by
  have HF0 := hid (Fr.refl (fun _ => False) w0)
  go_enter Try.func7, Try.ntmps7
  go_wp2_with fail
  refine (H1.out _).mono ?_
  rintro e w1 ⟨rfl, hf⟩
  obtain ⟨m0, m1, m2, mf⟩ := boxes3 hf
  have HF1 := hid mf
  have M0 := hid m0
  have M1 := hid m1
  have M2 := hid m2
  clear hf HF0 mf m0 m1 m2
  have c10 := M1.out.c0
  have c11 := M1.out.c1
  go_wp2_with fail
  refine (H2.out _).mono ?_
  rintro e w2 ⟨rfl, hf⟩
  have HF2 := hid (HF1.out.trans hf)
  clear c10 c11
  replace M2 := hid (M2.out.carry hf)
  clear hf HF1
  have c20 := M2.out.c0
  have c21 := M2.out.c1
  go_wp2_with fail
  refine (H3.out _).mono ?_
  rintro e w3 ⟨rfl, hf⟩
  have HF3 := hid (HF2.out.trans hf)
  clear c20 c21
  clear hf HF2
  go_wp2_with fail
  refine (HA.out _).mono ?_
  rintro e w4 ⟨rfl, hf⟩
  have HF4 := hid (HF3.out.trans hf)
  clear hf HF3
  go_wp2_with fail
  refine (H4.out _).mono ?_
  rintro e w5 ⟨rfl, hf⟩
  have HF5 := hid (HF4.out.trans hf)
  clear hf HF4
  go_wp2_with fail
  refine (H5.out _).mono ?_
  rintro e w6 ⟨rfl, hf⟩
  have HF6 := hid (HF5.out.trans hf)
  clear hf HF5
  go_wp2_with fail
  refine (H6.out _).mono ?_
  rintro e w7 ⟨rfl, hf⟩
  have HF7 := hid (HF6.out.trans hf)
  clear hf HF6
  go_wp2_with fail
  refine (H7.out _).mono ?_
  rintro e w8 ⟨rfl, hf⟩
  have HF8 := hid (HF7.out.trans hf)
  clear hf HF7
  go_wp2_with fail
  refine (H8.out _).mono ?_
  rintro e w9 ⟨rfl, hf⟩
  have HF9 := hid (HF8.out.trans hf)
  clear hf HF8
  go_wp2
  go_ret
  exact ⟨by simp, HF9.out⟩
set_option maxHeartbeats 1000000 in
set_option maxRecDepth 20000 in
theorem order_m (a b c d f g el en : Int) (p1 p2 q1 q2 s1 s2 : Nat) (u1 u2 l1 l2 m1 m2 n1 n2 : Nat) (w0 : World) (ou1u1 : FloatKind.f64.format.order u1 u1 = some .eq) (ou2u2 : FloatKind.f64.format.order u2 u2 = some .eq)
    (H1 : Hid (∀ w, Calls Try.prog 9 #[.int .i64 a, .int .i64 b] w fun e w' => e = .returned (.tuple #[.complex .f64 p1 p2, .int .i64 0]) ∧ Fr (fun _ => False) w w'))
    (H2 : Hid (∀ w, Calls Try.prog 9 #[.int .i64 c, .int .i64 d] w fun e w' => e = .returned (.tuple #[.complex .f64 q1 q2, .int .i64 0]) ∧ Fr (fun _ => False) w w'))
    (H3 : Hid (∀ w, Calls Try.prog 9 #[.int .i64 f, .int .i64 g] w fun e w' => e = .returned (.tuple #[.complex .f64 s1 s2, .int .i64 0]) ∧ Fr (fun _ => False) w w'))
    (HA : Hid (∀ w, Calls Try.prog 11 #[] w fun e w' => e = .returned (.bool true) ∧ Fr (fun _ => False) w w'))
    (H4 : Hid (∀ w, Calls Try.prog 13 #[.complex .f64 p1 p2, .complex .f64 q1 q2] w fun e w' => e = .returned (.tuple #[.complex .f64 u1 u2, .int .i64 0]) ∧ Fr (fun _ => False) w w'))
    (H5 : Hid (∀ w, Calls Try.prog 13 #[.complex .f64 q1 q2, .complex .f64 p1 p2] w fun e w' => e = .returned (.tuple #[.complex .f64 u1 u2, .int .i64 0]) ∧ Fr (fun _ => False) w w'))
    (H6 : Hid (∀ w, Calls Try.prog 13 #[.complex .f64 u1 u2, .complex .f64 s1 s2] w fun e w' => e = .returned (.tuple #[.complex .f64 l1 l2, .int .i64 el]) ∧ Fr (fun _ => False) w w'))
    (H7 : Hid (∀ w, Calls Try.prog 13 #[.complex .f64 q1 q2, .complex .f64 s1 s2] w fun e w' => e = .returned (.tuple #[.complex .f64 m1 m2, .int .i64 12]) ∧ Fr (fun _ => False) w w'))
    (H8 : Hid (∀ w, Calls Try.prog 13 #[.complex .f64 p1 p2, .complex .f64 m1 m2] w fun e w' => e = .returned (.tuple #[.complex .f64 n1 n2, .int .i64 en]) ∧ Fr (fun _ => False) w w'))
    : Calls Try.prog 7 #[.agg #[.int .i64 a, .int .i64 b], .agg #[.int .i64 c, .int .i64 d], .agg #[.int .i64 f, .int .i64 g]] w0 fun e w' => e = .returned (.bool true) ∧ Fr (fun _ => False) w0 w' := by
  have HF0 := hid (Fr.refl (fun _ => False) w0)
  go_enter Try.func7, Try.ntmps7
  go_wp2_with fail
  refine (H1.out _).mono ?_
  rintro e w1 ⟨rfl, hf⟩
  obtain ⟨m0, m1, m2, mf⟩ := boxes3 hf
  have HF1 := hid mf
  have M0 := hid m0
  have M1 := hid m1
  have M2 := hid m2
  clear hf HF0 mf m0 m1 m2
  have c10 := M1.out.c0
  have c11 := M1.out.c1
  go_wp2_with fail
  refine (H2.out _).mono ?_
  rintro e w2 ⟨rfl, hf⟩
  have HF2 := hid (HF1.out.trans hf)
  clear c10 c11
  replace M2 := hid (M2.out.carry hf)
  clear hf HF1
  have c20 := M2.out.c0
  have c21 := M2.out.c1
  go_wp2_with fail
  refine (H3.out _).mono ?_
  rintro e w3 ⟨rfl, hf⟩
  have HF3 := hid (HF2.out.trans hf)
  clear c20 c21
  clear hf HF2
  go_wp2_with fail
  refine (HA.out _).mono ?_
  rintro e w4 ⟨rfl, hf⟩
  have HF4 := hid (HF3.out.trans hf)
  clear hf HF3
  go_wp2_with fail
  refine (H4.out _).mono ?_
  rintro e w5 ⟨rfl, hf⟩
  have HF5 := hid (HF4.out.trans hf)
  clear hf HF4
  go_wp2_with fail
  refine (H5.out _).mono ?_
  rintro e w6 ⟨rfl, hf⟩
  have HF6 := hid (HF5.out.trans hf)
  clear hf HF5
  go_wp2_with fail
  refine (H6.out _).mono ?_
  rintro e w7 ⟨rfl, hf⟩
  have HF7 := hid (HF6.out.trans hf)
  clear hf HF6
  go_wp2_with fail
  refine (H7.out _).mono ?_
  rintro e w8 ⟨rfl, hf⟩
  have HF8 := hid (HF7.out.trans hf)
  clear hf HF7
  go_wp2_with fail
  refine (H8.out _).mono ?_
  rintro e w9 ⟨rfl, hf⟩
  have HF9 := hid (HF8.out.trans hf)
  clear hf HF8
  go_wp2
  go_ret
  exact ⟨by simp, HF9.out⟩
set_option maxHeartbeats 1000000 in
set_option maxRecDepth 20000 in
theorem order_all (a b c d f g el : Int) (p1 p2 q1 q2 s1 s2 : Nat) (u1 u2 l1 l2 m1 m2 : Nat) (w0 : World) (ou1u1 : FloatKind.f64.format.order u1 u1 = some .eq) (ou2u2 : FloatKind.f64.format.order u2 u2 = some .eq) (ol1l1 : FloatKind.f64.format.order l1 l1 = some .eq) (ol2l2 : FloatKind.f64.format.order l2 l2 = some .eq)
    (H1 : Hid (∀ w, Calls Try.prog 9 #[.int .i64 a, .int .i64 b] w fun e w' => e = .returned (.tuple #[.complex .f64 p1 p2, .int .i64 0]) ∧ Fr (fun _ => False) w w'))
    (H2 : Hid (∀ w, Calls Try.prog 9 #[.int .i64 c, .int .i64 d] w fun e w' => e = .returned (.tuple #[.complex .f64 q1 q2, .int .i64 0]) ∧ Fr (fun _ => False) w w'))
    (H3 : Hid (∀ w, Calls Try.prog 9 #[.int .i64 f, .int .i64 g] w fun e w' => e = .returned (.tuple #[.complex .f64 s1 s2, .int .i64 0]) ∧ Fr (fun _ => False) w w'))
    (HA : Hid (∀ w, Calls Try.prog 11 #[] w fun e w' => e = .returned (.bool true) ∧ Fr (fun _ => False) w w'))
    (H4 : Hid (∀ w, Calls Try.prog 13 #[.complex .f64 p1 p2, .complex .f64 q1 q2] w fun e w' => e = .returned (.tuple #[.complex .f64 u1 u2, .int .i64 0]) ∧ Fr (fun _ => False) w w'))
    (H5 : Hid (∀ w, Calls Try.prog 13 #[.complex .f64 q1 q2, .complex .f64 p1 p2] w fun e w' => e = .returned (.tuple #[.complex .f64 u1 u2, .int .i64 0]) ∧ Fr (fun _ => False) w w'))
    (H6 : Hid (∀ w, Calls Try.prog 13 #[.complex .f64 u1 u2, .complex .f64 s1 s2] w fun e w' => e = .returned (.tuple #[.complex .f64 l1 l2, .int .i64 el]) ∧ Fr (fun _ => False) w w'))
    (H7 : Hid (∀ w, Calls Try.prog 13 #[.complex .f64 q1 q2, .complex .f64 s1 s2] w fun e w' => e = .returned (.tuple #[.complex .f64 m1 m2, .int .i64 0]) ∧ Fr (fun _ => False) w w'))
    (H8 : Hid (∀ w, Calls Try.prog 13 #[.complex .f64 p1 p2, .complex .f64 m1 m2] w fun e w' => e = .returned (.tuple #[.complex .f64 l1 l2, .int .i64 el]) ∧ Fr (fun _ => False) w w'))
    : Calls Try.prog 7 #[.agg #[.int .i64 a, .int .i64 b], .agg #[.int .i64 c, .int .i64 d], .agg #[.int .i64 f, .int .i64 g]] w0 fun e w' => e = .returned (.bool true) ∧ Fr (fun _ => False) w0 w' := by
  have HF0 := hid (Fr.refl (fun _ => False) w0)
  go_enter Try.func7, Try.ntmps7
  go_wp2_with fail
  refine (H1.out _).mono ?_
  rintro e w1 ⟨rfl, hf⟩
  obtain ⟨m0, m1, m2, mf⟩ := boxes3 hf
  have HF1 := hid mf
  have M0 := hid m0
  have M1 := hid m1
  have M2 := hid m2
  clear hf HF0 mf m0 m1 m2
  have c10 := M1.out.c0
  have c11 := M1.out.c1
  go_wp2_with fail
  refine (H2.out _).mono ?_
  rintro e w2 ⟨rfl, hf⟩
  have HF2 := hid (HF1.out.trans hf)
  clear c10 c11
  replace M2 := hid (M2.out.carry hf)
  clear hf HF1
  have c20 := M2.out.c0
  have c21 := M2.out.c1
  go_wp2_with fail
  refine (H3.out _).mono ?_
  rintro e w3 ⟨rfl, hf⟩
  have HF3 := hid (HF2.out.trans hf)
  clear c20 c21
  clear hf HF2
  go_wp2_with fail
  refine (HA.out _).mono ?_
  rintro e w4 ⟨rfl, hf⟩
  have HF4 := hid (HF3.out.trans hf)
  clear hf HF3
  go_wp2_with fail
  refine (H4.out _).mono ?_
  rintro e w5 ⟨rfl, hf⟩
  have HF5 := hid (HF4.out.trans hf)
  clear hf HF4
  go_wp2_with fail
  refine (H5.out _).mono ?_
  rintro e w6 ⟨rfl, hf⟩
  have HF6 := hid (HF5.out.trans hf)
  clear hf HF5
  go_wp2_with fail
  refine (H6.out _).mono ?_
  rintro e w7 ⟨rfl, hf⟩
  have HF7 := hid (HF6.out.trans hf)
  clear hf HF6
  go_wp2_with fail
  refine (H7.out _).mono ?_
  rintro e w8 ⟨rfl, hf⟩
  have HF8 := hid (HF7.out.trans hf)
  clear hf HF7
  go_wp2_with fail
  refine (H8.out _).mono ?_
  rintro e w9 ⟨rfl, hf⟩
  have HF9 := hid (HF8.out.trans hf)
  clear hf HF8
  go_wp2
  go_ret
  exact ⟨by simp, HF9.out⟩
theorem order_walk (a b c d f g : Int) (w0 : World) : Calls Try.prog 7 #[.agg #[.int .i64 a, .int .i64 b], .agg #[.int .i64 c, .int .i64 d], .agg #[.int .i64 f, .int .i64 g]] w0 fun e w' => e = .returned (.bool true) ∧ Fr (fun _ => False) w0 w' := by
  by_cases h1 : Rt a b
  · by_cases h2 : Rt c d
    · by_cases h3 : Rt f g
      · have HO1 := hid fun w => f_of_yes h1 w
        have HO2 := hid fun w => f_of_yes h2 w
        have HO3 := hid fun w => f_of_yes h3 w
        have HQ : Hid (∀ w, Calls Try.prog 13 #[.complex .f64 (fb c) (fb d), .complex .f64 (fb a) (fb b)] w fun e w' => e = .returned (.tuple #[.complex .f64 (fb (okA (a + c) (b + d))) (fb (okB (a + c) (b + d))), .int .i64 (okE (a + c) (b + d))]) ∧ Fr (fun _ => False) w w') := fun w => by
          have := f_plus h2 h1 w
          rwa [Int.add_comm c a, Int.add_comm d b] at this
        obtain ⟨o1, o2⟩ := order_self (ok_rt (a + c) (b + d))
        have HP := hid fun w => f_plus h1 h2 w
        have HL := hid fun w => f_plus (ok_rt (a + c) (b + d)) h3 w
        have HM := hid fun w => f_plus h2 h3 w
        have HN := hid fun w => f_plus h1 (ok_rt (c + f) (d + g)) w
        by_cases k1 : Rt (a + c) (b + d)
        · by_cases k2 : Rt (c + f) (d + g)
          · obtain ⟨x1, x2, x3⟩ := ok_right k1
            obtain ⟨y1, y2, y3⟩ := ok_right k2
            rw [x1, x2] at HL
            rw [y1, y2] at HN
            rw [x1] at o1
            rw [x2] at o2
            rw [x1, x2, x3] at HP HQ
            rw [y1, y2, y3] at HM
            rw [show a + (c + f) = a + c + f by omega, show b + (d + g) = b + d + g by omega] at HN
            obtain ⟨z1, z2⟩ := order_self (ok_rt (a + c + f) (b + d + g))
            exact order_all a b c d f g _ _ _ _ _ _ _ _ _ _ _ _ _ w0 o1 o2 z1 z2 HO1 HO2 HO3 (hid fun w => f_awake w) HP HQ HL HM HN
          · obtain ⟨x1, x2, x3⟩ := ok_right k1
            rw [x3] at HP HQ
            rw [(ok_wrong k2).2.2] at HM
            exact order_m a b c d f g _ _ _ _ _ _ _ _ _ _ _ _ _ _ _ _ w0 o1 o2 HO1 HO2 HO3 (hid fun w => f_awake w) HP HQ HL HM HN
        · rw [(ok_wrong k1).2.2] at HP HQ
          exact order_p a b c d f g _ _ _ _ _ _ _ _ _ _ _ _ _ _ _ _ _ w0 o1 o2 HO1 HO2 HO3 (hid fun w => f_awake w) HP HQ HL HM HN
      · exact order_no3 a b c d f g _ _ _ _ _ _ w0 (hid fun w => f_of_yes h1 w) (hid fun w => f_of_yes h2 w) (hid fun w => f_of_no h3 w) (hid fun w => f_awake w)
    · exact order_no2 a b c d f g _ _ _ _ _ _ _ w0 (hid fun w => f_of_yes h1 w) (hid fun w => f_of_no h2 w) (hid fun w => f_of f g w) (hid fun w => f_awake w)
  · exact order_no1 a b c d f g _ _ _ _ _ _ _ _ w0 (hid fun w => f_of_no h1 w) (hid fun w => f_of c d w) (hid fun w => f_of f g w) (hid fun w => f_awake w)
end Go.Proofs.Ytcocdbekahokaaa
