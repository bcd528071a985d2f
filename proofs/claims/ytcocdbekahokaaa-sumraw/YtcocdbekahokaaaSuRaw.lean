/-
  Of any complex number it is told whether it is a sum: with parts that are none nothing is reckoned.
-/
import Derived.Test.YtcocdbekahokaaaSuTools
namespace Go.Proofs.Ytcocdbekahokaaa
open Go.RowKit

set_option maxHeartbeats 2000000 in
set_option maxRecDepth 20000 in
theorem raw_no (x y : Nat) (a b : Int) (t1 t2 : Nat) (w0 : World)
    (H1 : Hid (∀ w, Calls Try.prog 9 #[.int .i64 a, .int .i64 b] w fun e w' => e = .returned (.tuple #[.complex .f64 t1 t2, .int .i64 12]) ∧ Fr (fun _ => False) w w'))
    (HA : Hid (∀ w, Calls Try.prog 11 #[] w fun e w' => e = .returned (.bool true) ∧ Fr (fun _ => False) w w'))
    : Calls Try.prog 5 #[.float .f64 x, .float .f64 y, .int .i64 a, .int .i64 b] w0 fun e w' => e = .returned (.bool true) ∧ Fr (fun _ => False) w0 w' := by
  have HF0 := hid (Fr.refl (fun _ => False) w0)
  go_enter Try.func5, Try.ntmps5
  go_wp2_with fail
  refine (H1.out _).mono ?_
  rintro e w1 ⟨rfl, hf⟩
  have HF1 := hid (HF0.out.trans hf)
  clear hf HF0
  go_wp2_with fail
  refine (HA.out _).mono ?_
  rintro e w2 ⟨rfl, hf⟩
  have HF2 := hid (HF1.out.trans hf)
  clear hf HF1
  go_wp2_with fail
  refine (HA.out _).mono ?_
  rintro e w3 ⟨rfl, hf⟩
  have HF3 := hid (HF2.out.trans hf)
  clear hf HF2
  go_wp2
  go_ret
  exact ⟨by simp, HF3.out⟩
set_option maxHeartbeats 2000000 in
set_option maxRecDepth 20000 in
theorem raw_out0 (x y : Nat) (a b : Int) (t1 t2 : Nat) (w0 : World) (oz : FloatKind.f64.format.order 0 0 = some .eq) (g1 : (FloatKind.f64.format.order x 0 == some .gt || FloatKind.f64.format.order x 0 == some .eq) = false)
    (H1 : Hid (∀ w, Calls Try.prog 9 #[.int .i64 a, .int .i64 b] w fun e w' => e = .returned (.tuple #[.complex .f64 t1 t2, .int .i64 0]) ∧ Fr (fun _ => False) w w'))
    (HA : Hid (∀ w, Calls Try.prog 11 #[] w fun e w' => e = .returned (.bool true) ∧ Fr (fun _ => False) w w'))
    (HR : Hid (∀ w, Calls Try.prog 22 #[.complex .f64 x y] w fun e w' => e = .returned (.bool false) ∧ Fr (fun _ => False) w w'))
    (H3 : Hid (∀ w, Calls Try.prog 13 #[.complex .f64 x y, .complex .f64 t1 t2] w fun e w' => e = .returned (.tuple #[.complex .f64 0 0, .int .i64 12]) ∧ Fr (fun _ => False) w w'))
    (H4 : Hid (∀ w, Calls Try.prog 13 #[.complex .f64 t1 t2, .complex .f64 x y] w fun e w' => e = .returned (.tuple #[.complex .f64 0 0, .int .i64 12]) ∧ Fr (fun _ => False) w w'))
    (H5 : Hid (∀ w, Calls Try.prog 15 #[.complex .f64 t1 t2, .complex .f64 x y] w fun e w' => e = .returned (.tuple #[.complex .f64 0 0, .int .i64 12]) ∧ Fr (fun _ => False) w w'))
    (H6 : Hid (∀ w, Calls Try.prog 17 #[.complex .f64 x y, .int .i64 2] w fun e w' => e = .returned (.tuple #[.complex .f64 0 0, .int .i64 12]) ∧ Fr (fun _ => False) w w'))
    (H7 : Hid (∀ (w : World) (B : Nat), w.cell? ⟨B, 0, none⟩ = some (.complex .f64 t1 t2) → w.cell? ⟨B, 1, none⟩ = some (.complex .f64 x y) → Calls Try.prog 21 #[.slice (some ⟨B, 0, none⟩) 2 2] w fun e w' => e = .returned (.tuple #[.complex .f64 0 0, .int .i64 12]) ∧ Fr (fun _ => False) w w'))
    (H8 : Hid (∀ w, Calls Try.prog 23 #[.complex .f64 x y] w fun e w' => e = .returned (.int .i64 0) ∧ Fr (fun _ => False) w w'))
    (H9 : Hid (∀ w, Calls Try.prog 24 #[.complex .f64 x y] w fun e w' => e = .returned (.int .i64 0) ∧ Fr (fun _ => False) w w'))
    (H10 : Hid (∀ w, Calls Try.prog 19 #[.complex .f64 x y, .complex .f64 t1 t2] w fun e w' => e = .returned (.bool false) ∧ Fr (fun _ => False) w w'))
    (H11 : Hid (∀ w, Calls Try.prog 19 #[.complex .f64 t1 t2, .complex .f64 x y] w fun e w' => e = .returned (.bool false) ∧ Fr (fun _ => False) w w'))
    : Calls Try.prog 5 #[.float .f64 x, .float .f64 y, .int .i64 a, .int .i64 b] w0 fun e w' => e = .returned (.bool true) ∧ Fr (fun _ => False) w0 w' := by
  have HF0 := hid (Fr.refl (fun _ => False) w0)
  go_enter Try.func5, Try.ntmps5
  go_wp2_with fail
  refine (H1.out _).mono ?_
  rintro e w1 ⟨rfl, hf⟩
  have HF1 := hid (HF0.out.trans hf)
  clear hf HF0
  go_wp2_with fail
  refine (HA.out _).mono ?_
  rintro e w2 ⟨rfl, hf⟩
  have HF2 := hid (HF1.out.trans hf)
  clear hf HF1
  go_wp2_with fail
  refine (HR.out _).mono ?_
  rintro e w3 ⟨rfl, hf⟩
  have HF3 := hid (HF2.out.trans hf)
  clear hf HF2
  go_wp2_with fail
  refine (H3.out _).mono ?_
  rintro e w4 ⟨rfl, hf⟩
  have HF4 := hid (HF3.out.trans hf)
  clear hf HF3
  go_wp2_with fail
  refine (H4.out _).mono ?_
  rintro e w5 ⟨rfl, hf⟩
  have HF5 := hid (HF4.out.trans hf)
  clear hf HF4
  go_wp2_with fail
  refine (H5.out _).mono ?_
  rintro e w6 ⟨rfl, hf⟩
  have HF6 := hid (HF5.out.trans hf)
  clear hf HF5
  go_wp2_with fail
  refine (H6.out _).mono ?_
  rintro e w7 ⟨rfl, hf⟩
  have HF7 := hid (HF6.out.trans hf)
  clear hf HF6
  go_wp2_with fail
  refine (H7.out _ _ (by simp) (by simp)).mono ?_
  rintro e w8 ⟨rfl, hf⟩
  have HF8 := hid ((HF7.out.alloc _).trans hf)
  clear hf HF7
  go_wp2_with fail
  refine (H8.out _).mono ?_
  rintro e w9 ⟨rfl, hf⟩
  have HF9 := hid (HF8.out.trans hf)
  clear hf HF8
  go_wp2_with fail
  refine (H9.out _).mono ?_
  rintro e w10 ⟨rfl, hf⟩
  have HF10 := hid (HF9.out.trans hf)
  clear hf HF9
  go_wp2_with fail
  refine (H10.out _).mono ?_
  rintro e w11 ⟨rfl, hf⟩
  have HF11 := hid (HF10.out.trans hf)
  clear hf HF10
  go_wp2_with fail
  refine (H11.out _).mono ?_
  rintro e w12 ⟨rfl, hf⟩
  have HF12 := hid (HF11.out.trans hf)
  clear hf HF11
  go_wp2
  go_ret
  exact ⟨by simp, HF12.out⟩
set_option maxHeartbeats 2000000 in
set_option maxRecDepth 20000 in
theorem raw_out1 (x y : Nat) (a b : Int) (t1 t2 : Nat) (w0 : World) (oz : FloatKind.f64.format.order 0 0 = some .eq) (g1 : (FloatKind.f64.format.order x 0 == some .gt || FloatKind.f64.format.order x 0 == some .eq) = true) (l1 : (FloatKind.f64.format.order x 4787326403894837248 == some .lt || FloatKind.f64.format.order x 4787326403894837248 == some .eq) = false)
    (H1 : Hid (∀ w, Calls Try.prog 9 #[.int .i64 a, .int .i64 b] w fun e w' => e = .returned (.tuple #[.complex .f64 t1 t2, .int .i64 0]) ∧ Fr (fun _ => False) w w'))
    (HA : Hid (∀ w, Calls Try.prog 11 #[] w fun e w' => e = .returned (.bool true) ∧ Fr (fun _ => False) w w'))
    (HR : Hid (∀ w, Calls Try.prog 22 #[.complex .f64 x y] w fun e w' => e = .returned (.bool false) ∧ Fr (fun _ => False) w w'))
    (H3 : Hid (∀ w, Calls Try.prog 13 #[.complex .f64 x y, .complex .f64 t1 t2] w fun e w' => e = .returned (.tuple #[.complex .f64 0 0, .int .i64 12]) ∧ Fr (fun _ => False) w w'))
    (H4 : Hid (∀ w, Calls Try.prog 13 #[.complex .f64 t1 t2, .complex .f64 x y] w fun e w' => e = .returned (.tuple #[.complex .f64 0 0, .int .i64 12]) ∧ Fr (fun _ => False) w w'))
    (H5 : Hid (∀ w, Calls Try.prog 15 #[.complex .f64 t1 t2, .complex .f64 x y] w fun e w' => e = .returned (.tuple #[.complex .f64 0 0, .int .i64 12]) ∧ Fr (fun _ => False) w w'))
    (H6 : Hid (∀ w, Calls Try.prog 17 #[.complex .f64 x y, .int .i64 2] w fun e w' => e = .returned (.tuple #[.complex .f64 0 0, .int .i64 12]) ∧ Fr (fun _ => False) w w'))
    (H7 : Hid (∀ (w : World) (B : Nat), w.cell? ⟨B, 0, none⟩ = some (.complex .f64 t1 t2) → w.cell? ⟨B, 1, none⟩ = some (.complex .f64 x y) → Calls Try.prog 21 #[.slice (some ⟨B, 0, none⟩) 2 2] w fun e w' => e = .returned (.tuple #[.complex .f64 0 0, .int .i64 12]) ∧ Fr (fun _ => False) w w'))
    (H8 : Hid (∀ w, Calls Try.prog 23 #[.complex .f64 x y] w fun e w' => e = .returned (.int .i64 0) ∧ Fr (fun _ => False) w w'))
    (H9 : Hid (∀ w, Calls Try.prog 24 #[.complex .f64 x y] w fun e w' => e = .returned (.int .i64 0) ∧ Fr (fun _ => False) w w'))
    (H10 : Hid (∀ w, Calls Try.prog 19 #[.complex .f64 x y, .complex .f64 t1 t2] w fun e w' => e = .returned (.bool false) ∧ Fr (fun _ => False) w w'))
    (H11 : Hid (∀ w, Calls Try.prog 19 #[.complex .f64 t1 t2, .complex .f64 x y] w fun e w' => e = .returned (.bool false) ∧ Fr (fun _ => False) w w'))
    : Calls Try.prog 5 #[.float .f64 x, .float .f64 y, .int .i64 a, .int .i64 b] w0 fun e w' => e = .returned (.bool true) ∧ Fr (fun _ => False) w0 w' := by
  have HF0 := hid (Fr.refl (fun _ => False) w0)
  go_enter Try.func5, Try.ntmps5
  go_wp2_with fail
  refine (H1.out _).mono ?_
  rintro e w1 ⟨rfl, hf⟩
  have HF1 := hid (HF0.out.trans hf)
  clear hf HF0
  go_wp2_with fail
  refine (HA.out _).mono ?_
  rintro e w2 ⟨rfl, hf⟩
  have HF2 := hid (HF1.out.trans hf)
  clear hf HF1
  go_wp2_with fail
  refine (HR.out _).mono ?_
  rintro e w3 ⟨rfl, hf⟩
  have HF3 := hid (HF2.out.trans hf)
  clear hf HF2
  go_wp2_with fail
  refine (H3.out _).mono ?_
  rintro e w4 ⟨rfl, hf⟩
  have HF4 := hid (HF3.out.trans hf)
  clear hf HF3
  go_wp2_with fail
  refine (H4.out _).mono ?_
  rintro e w5 ⟨rfl, hf⟩
  have HF5 := hid (HF4.out.trans hf)
  clear hf HF4
  go_wp2_with fail
  refine (H5.out _).mono ?_
  rintro e w6 ⟨rfl, hf⟩
  have HF6 := hid (HF5.out.trans hf)
  clear hf HF5
  go_wp2_with fail
  refine (H6.out _).mono ?_
  rintro e w7 ⟨rfl, hf⟩
  have HF7 := hid (HF6.out.trans hf)
  clear hf HF6
  go_wp2_with fail
  refine (H7.out _ _ (by simp) (by simp)).mono ?_
  rintro e w8 ⟨rfl, hf⟩
  have HF8 := hid ((HF7.out.alloc _).trans hf)
  clear hf HF7
  go_wp2_with fail
  refine (H8.out _).mono ?_
  rintro e w9 ⟨rfl, hf⟩
  have HF9 := hid (HF8.out.trans hf)
  clear hf HF8
  go_wp2_with fail
  refine (H9.out _).mono ?_
  rintro e w10 ⟨rfl, hf⟩
  have HF10 := hid (HF9.out.trans hf)
  clear hf HF9
  go_wp2_with fail
  refine (H10.out _).mono ?_
  rintro e w11 ⟨rfl, hf⟩
  have HF11 := hid (HF10.out.trans hf)
  clear hf HF10
  go_wp2_with fail
  refine (H11.out _).mono ?_
  rintro e w12 ⟨rfl, hf⟩
  have HF12 := hid (HF11.out.trans hf)
  clear hf HF11
  go_wp2
  go_ret
  exact ⟨by simp, HF12.out⟩
set_option maxHeartbeats 2000000 in
set_option maxRecDepth 20000 in
theorem raw_out2 (x y : Nat) (a b : Int) (t1 t2 : Nat) (w0 : World) (oz : FloatKind.f64.format.order 0 0 = some .eq) (g1 : (FloatKind.f64.format.order x 0 == some .gt || FloatKind.f64.format.order x 0 == some .eq) = true) (l1 : (FloatKind.f64.format.order x 4787326403894837248 == some .lt || FloatKind.f64.format.order x 4787326403894837248 == some .eq) = true) (g2 : (FloatKind.f64.format.order y 0 == some .gt || FloatKind.f64.format.order y 0 == some .eq) = false)
    (H1 : Hid (∀ w, Calls Try.prog 9 #[.int .i64 a, .int .i64 b] w fun e w' => e = .returned (.tuple #[.complex .f64 t1 t2, .int .i64 0]) ∧ Fr (fun _ => False) w w'))
    (HA : Hid (∀ w, Calls Try.prog 11 #[] w fun e w' => e = .returned (.bool true) ∧ Fr (fun _ => False) w w'))
    (HR : Hid (∀ w, Calls Try.prog 22 #[.complex .f64 x y] w fun e w' => e = .returned (.bool false) ∧ Fr (fun _ => False) w w'))
    (H3 : Hid (∀ w, Calls Try.prog 13 #[.complex .f64 x y, .complex .f64 t1 t2] w fun e w' => e = .returned (.tuple #[.complex .f64 0 0, .int .i64 12]) ∧ Fr (fun _ => False) w w'))
    (H4 : Hid (∀ w, Calls Try.prog 13 #[.complex .f64 t1 t2, .complex .f64 x y] w fun e w' => e = .returned (.tuple #[.complex .f64 0 0, .int .i64 12]) ∧ Fr (fun _ => False) w w'))
    (H5 : Hid (∀ w, Calls Try.prog 15 #[.complex .f64 t1 t2, .complex .f64 x y] w fun e w' => e = .returned (.tuple #[.complex .f64 0 0, .int .i64 12]) ∧ Fr (fun _ => False) w w'))
    (H6 : Hid (∀ w, Calls Try.prog 17 #[.complex .f64 x y, .int .i64 2] w fun e w' => e = .returned (.tuple #[.complex .f64 0 0, .int .i64 12]) ∧ Fr (fun _ => False) w w'))
    (H7 : Hid (∀ (w : World) (B : Nat), w.cell? ⟨B, 0, none⟩ = some (.complex .f64 t1 t2) → w.cell? ⟨B, 1, none⟩ = some (.complex .f64 x y) → Calls Try.prog 21 #[.slice (some ⟨B, 0, none⟩) 2 2] w fun e w' => e = .returned (.tuple #[.complex .f64 0 0, .int .i64 12]) ∧ Fr (fun _ => False) w w'))
    (H8 : Hid (∀ w, Calls Try.prog 23 #[.complex .f64 x y] w fun e w' => e = .returned (.int .i64 0) ∧ Fr (fun _ => False) w w'))
    (H9 : Hid (∀ w, Calls Try.prog 24 #[.complex .f64 x y] w fun e w' => e = .returned (.int .i64 0) ∧ Fr (fun _ => False) w w'))
    (H10 : Hid (∀ w, Calls Try.prog 19 #[.complex .f64 x y, .complex .f64 t1 t2] w fun e w' => e = .returned (.bool false) ∧ Fr (fun _ => False) w w'))
    (H11 : Hid (∀ w, Calls Try.prog 19 #[.complex .f64 t1 t2, .complex .f64 x y] w fun e w' => e = .returned (.bool false) ∧ Fr (fun _ => False) w w'))
    : Calls Try.prog 5 #[.float .f64 x, .float .f64 y, .int .i64 a, .int .i64 b] w0 fun e w' => e = .returned (.bool true) ∧ Fr (fun _ => False) w0 w' := by
  have HF0 := hid (Fr.refl (fun _ => False) w0)
  go_enter Try.func5, Try.ntmps5
  go_wp2_with fail
  refine (H1.out _).mono ?_
  rintro e w1 ⟨rfl, hf⟩
  have HF1 := hid (HF0.out.trans hf)
  clear hf HF0
  go_wp2_with fail
  refine (HA.out _).mono ?_
  rintro e w2 ⟨rfl, hf⟩
  have HF2 := hid (HF1.out.trans hf)
  clear hf HF1
  go_wp2_with fail
  refine (HR.out _).mono ?_
  rintro e w3 ⟨rfl, hf⟩
  have HF3 := hid (HF2.out.trans hf)
  clear hf HF2
  go_wp2_with fail
  refine (H3.out _).mono ?_
  rintro e w4 ⟨rfl, hf⟩
  have HF4 := hid (HF3.out.trans hf)
  clear hf HF3
  go_wp2_with fail
  refine (H4.out _).mono ?_
  rintro e w5 ⟨rfl, hf⟩
  have HF5 := hid (HF4.out.trans hf)
  clear hf HF4
  go_wp2_with fail
  refine (H5.out _).mono ?_
  rintro e w6 ⟨rfl, hf⟩
  have HF6 := hid (HF5.out.trans hf)
  clear hf HF5
  go_wp2_with fail
  refine (H6.out _).mono ?_
  rintro e w7 ⟨rfl, hf⟩
  have HF7 := hid (HF6.out.trans hf)
  clear hf HF6
  go_wp2_with fail
  refine (H7.out _ _ (by simp) (by simp)).mono ?_
  rintro e w8 ⟨rfl, hf⟩
  have HF8 := hid ((HF7.out.alloc _).trans hf)
  clear hf HF7
  go_wp2_with fail
  refine (H8.out _).mono ?_
  rintro e w9 ⟨rfl, hf⟩
  have HF9 := hid (HF8.out.trans hf)
  clear hf HF8
  go_wp2_with fail
  refine (H9.out _).mono ?_
  rintro e w10 ⟨rfl, hf⟩
  have HF10 := hid (HF9.out.trans hf)
  clear hf HF9
  go_wp2_with fail
  refine (H10.out _).mono ?_
  rintro e w11 ⟨rfl, hf⟩
  have HF11 := hid (HF10.out.trans hf)
  clear hf HF10
  go_wp2_with fail
  refine (H11.out _).mono ?_
  rintro e w12 ⟨rfl, hf⟩
  have HF12 := hid (HF11.out.trans hf)
  clear hf HF11
  go_wp2
  go_ret
  exact ⟨by simp, HF12.out⟩
set_option maxHeartbeats 2000000 in
set_option maxRecDepth 20000 in
theorem raw_out3 (x y : Nat) (a b : Int) (t1 t2 : Nat) (w0 : World) (oz : FloatKind.f64.format.order 0 0 = some .eq) (g1 : (FloatKind.f64.format.order x 0 == some .gt || FloatKind.f64.format.order x 0 == some .eq) = true) (l1 : (FloatKind.f64.format.order x 4787326403894837248 == some .lt || FloatKind.f64.format.order x 4787326403894837248 == some .eq) = true) (g2 : (FloatKind.f64.format.order y 0 == some .gt || FloatKind.f64.format.order y 0 == some .eq) = true) (l2 : (FloatKind.f64.format.order y 4787326403894837248 == some .lt || FloatKind.f64.format.order y 4787326403894837248 == some .eq) = false)
    (H1 : Hid (∀ w, Calls Try.prog 9 #[.int .i64 a, .int .i64 b] w fun e w' => e = .returned (.tuple #[.complex .f64 t1 t2, .int .i64 0]) ∧ Fr (fun _ => False) w w'))
    (HA : Hid (∀ w, Calls Try.prog 11 #[] w fun e w' => e = .returned (.bool true) ∧ Fr (fun _ => False) w w'))
    (HR : Hid (∀ w, Calls Try.prog 22 #[.complex .f64 x y] w fun e w' => e = .returned (.bool false) ∧ Fr (fun _ => False) w w'))
    (H3 : Hid (∀ w, Calls Try.prog 13 #[.complex .f64 x y, .complex .f64 t1 t2] w fun e w' => e = .returned (.tuple #[.complex .f64 0 0, .int .i64 12]) ∧ Fr (fun _ => False) w w'))
    (H4 : Hid (∀ w, Calls Try.prog 13 #[.complex .f64 t1 t2, .complex .f64 x y] w fun e w' => e = .returned (.tuple #[.complex .f64 0 0, .int .i64 12]) ∧ Fr (fun _ => False) w w'))
    (H5 : Hid (∀ w, Calls Try.prog 15 #[.complex .f64 t1 t2, .complex .f64 x y] w fun e w' => e = .returned (.tuple #[.complex .f64 0 0, .int .i64 12]) ∧ Fr (fun _ => False) w w'))
    (H6 : Hid (∀ w, Calls Try.prog 17 #[.complex .f64 x y, .int .i64 2] w fun e w' => e = .returned (.tuple #[.complex .f64 0 0, .int .i64 12]) ∧ Fr (fun _ => False) w w'))
    (H7 : Hid (∀ (w : World) (B : Nat), w.cell? ⟨B, 0, none⟩ = some (.complex .f64 t1 t2) → w.cell? ⟨B, 1, none⟩ = some (.complex .f64 x y) → Calls Try.prog 21 #[.slice (some ⟨B, 0, none⟩) 2 2] w fun e w' => e = .returned (.tuple #[.complex .f64 0 0, .int .i64 12]) ∧ Fr (fun _ => False) w w'))
    (H8 : Hid (∀ w, Calls Try.prog 23 #[.complex .f64 x y] w fun e w' => e = .returned (.int .i64 0) ∧ Fr (fun _ => False) w w'))
    (H9 : Hid (∀ w, Calls Try.prog 24 #[.complex .f64 x y] w fun e w' => e = .returned (.int .i64 0) ∧ Fr (fun _ => False) w w'))
    (H10 : Hid (∀ w, Calls Try.prog 19 #[.complex .f64 x y, .complex .f64 t1 t2] w fun e w' => e = .returned (.bool false) ∧ Fr (fun _ => False) w w'))
    (H11 : Hid (∀ w, Calls Try.prog 19 #[.complex .f64 t1 t2, .complex .f64 x y] w fun e w' => e = .returned (.bool false) ∧ Fr (fun _ => False) w w'))
    : Calls Try.prog 5 #[.float .f64 x, .float .f64 y, .int .i64 a, .int .i64 b] w0 fun e w' => e = .returned (.bool true) ∧ Fr (fun _ => False) w0 w' := by
  have HF0 := hid (Fr.refl (fun _ => False) w0)
  go_enter Try.func5, Try.ntmps5
  go_wp2_with fail
  refine (H1.out _).mono ?_
  rintro e w1 ⟨rfl, hf⟩
  have HF1 := hid (HF0.out.trans hf)
  clear hf HF0
  go_wp2_with fail
  refine (HA.out _).mono ?_
  rintro e w2 ⟨rfl, hf⟩
  have HF2 := hid (HF1.out.trans hf)
  clear hf HF1
  go_wp2_with fail
  refine (HR.out _).mono ?_
  rintro e w3 ⟨rfl, hf⟩
  have HF3 := hid (HF2.out.trans hf)
  clear hf HF2
  go_wp2_with fail
  refine (H3.out _).mono ?_
  rintro e w4 ⟨rfl, hf⟩
  have HF4 := hid (HF3.out.trans hf)
  clear hf HF3
  go_wp2_with fail
  refine (H4.out _).mono ?_
  rintro e w5 ⟨rfl, hf⟩
  have HF5 := hid (HF4.out.trans hf)
  clear hf HF4
  go_wp2_with fail
  refine (H5.out _).mono ?_
  rintro e w6 ⟨rfl, hf⟩
  have HF6 := hid (HF5.out.trans hf)
  clear hf HF5
  go_wp2_with fail
  refine (H6.out _).mono ?_
  rintro e w7 ⟨rfl, hf⟩
  have HF7 := hid (HF6.out.trans hf)
  clear hf HF6
  go_wp2_with fail
  refine (H7.out _ _ (by simp) (by simp)).mono ?_
  rintro e w8 ⟨rfl, hf⟩
  have HF8 := hid ((HF7.out.alloc _).trans hf)
  clear hf HF7
  go_wp2_with fail
  refine (H8.out _).mono ?_
  rintro e w9 ⟨rfl, hf⟩
  have HF9 := hid (HF8.out.trans hf)
  clear hf HF8
  go_wp2_with fail
  refine (H9.out _).mono ?_
  rintro e w10 ⟨rfl, hf⟩
  have HF10 := hid (HF9.out.trans hf)
  clear hf HF9
  go_wp2_with fail
  refine (H10.out _).mono ?_
  rintro e w11 ⟨rfl, hf⟩
  have HF11 := hid (HF10.out.trans hf)
  clear hf HF10
  go_wp2_with fail
  refine (H11.out _).mono ?_
  rintro e w12 ⟨rfl, hf⟩
  have HF12 := hid (HF11.out.trans hf)
  clear hf HF11
  go_wp2
  go_ret
  exact ⟨by simp, HF12.out⟩
set_option maxHeartbeats 2000000 in
set_option maxRecDepth 20000 in
theorem raw_frac1 (x y : Nat) (a b : Int) (t1 t2 : Nat) (qx : Int) (w0 : World) (oz : FloatKind.f64.format.order 0 0 = some .eq) (g1 : (FloatKind.f64.format.order x 0 == some .gt || FloatKind.f64.format.order x 0 == some .eq) = true) (l1 : (FloatKind.f64.format.order x 4787326403894837248 == some .lt || FloatKind.f64.format.order x 4787326403894837248 == some .eq) = true) (g2 : (FloatKind.f64.format.order y 0 == some .gt || FloatKind.f64.format.order y 0 == some .eq) = true) (l2 : (FloatKind.f64.format.order y 4787326403894837248 == some .lt || FloatKind.f64.format.order y 4787326403894837248 == some .eq) = true) (cx : ∀ w, (convert 44 3 (.float .f64 x)).run Try.prog w = .ok (.int .i64 qx) w) (e1 : (FloatKind.f64.format.order (floatOfInt .f64 qx) x == some .eq) = false)
    (H1 : Hid (∀ w, Calls Try.prog 9 #[.int .i64 a, .int .i64 b] w fun e w' => e = .returned (.tuple #[.complex .f64 t1 t2, .int .i64 0]) ∧ Fr (fun _ => False) w w'))
    (HA : Hid (∀ w, Calls Try.prog 11 #[] w fun e w' => e = .returned (.bool true) ∧ Fr (fun _ => False) w w'))
    (HR : Hid (∀ w, Calls Try.prog 22 #[.complex .f64 x y] w fun e w' => e = .returned (.bool false) ∧ Fr (fun _ => False) w w'))
    (H3 : Hid (∀ w, Calls Try.prog 13 #[.complex .f64 x y, .complex .f64 t1 t2] w fun e w' => e = .returned (.tuple #[.complex .f64 0 0, .int .i64 12]) ∧ Fr (fun _ => False) w w'))
    (H4 : Hid (∀ w, Calls Try.prog 13 #[.complex .f64 t1 t2, .complex .f64 x y] w fun e w' => e = .returned (.tuple #[.complex .f64 0 0, .int .i64 12]) ∧ Fr (fun _ => False) w w'))
    (H5 : Hid (∀ w, Calls Try.prog 15 #[.complex .f64 t1 t2, .complex .f64 x y] w fun e w' => e = .returned (.tuple #[.complex .f64 0 0, .int .i64 12]) ∧ Fr (fun _ => False) w w'))
    (H6 : Hid (∀ w, Calls Try.prog 17 #[.complex .f64 x y, .int .i64 2] w fun e w' => e = .returned (.tuple #[.complex .f64 0 0, .int .i64 12]) ∧ Fr (fun _ => False) w w'))
    (H7 : Hid (∀ (w : World) (B : Nat), w.cell? ⟨B, 0, none⟩ = some (.complex .f64 t1 t2) → w.cell? ⟨B, 1, none⟩ = some (.complex .f64 x y) → Calls Try.prog 21 #[.slice (some ⟨B, 0, none⟩) 2 2] w fun e w' => e = .returned (.tuple #[.complex .f64 0 0, .int .i64 12]) ∧ Fr (fun _ => False) w w'))
    (H8 : Hid (∀ w, Calls Try.prog 23 #[.complex .f64 x y] w fun e w' => e = .returned (.int .i64 0) ∧ Fr (fun _ => False) w w'))
    (H9 : Hid (∀ w, Calls Try.prog 24 #[.complex .f64 x y] w fun e w' => e = .returned (.int .i64 0) ∧ Fr (fun _ => False) w w'))
    (H10 : Hid (∀ w, Calls Try.prog 19 #[.complex .f64 x y, .complex .f64 t1 t2] w fun e w' => e = .returned (.bool false) ∧ Fr (fun _ => False) w w'))
    (H11 : Hid (∀ w, Calls Try.prog 19 #[.complex .f64 t1 t2, .complex .f64 x y] w fun e w' => e = .returned (.bool false) ∧ Fr (fun _ => False) w w'))
    : Calls Try.prog 5 #[.float .f64 x, .float .f64 y, .int .i64 a, .int .i64 b] w0 fun e w' => e = .returned (.bool true) ∧ Fr (fun _ => False) w0 w' := by
  have HF0 := hid (Fr.refl (fun _ => False) w0)
  go_enter Try.func5, Try.ntmps5
  go_wp2_with fail
  refine (H1.out _).mono ?_
  rintro e w1 ⟨rfl, hf⟩
  have HF1 := hid (HF0.out.trans hf)
  clear hf HF0
  go_wp2_with fail
  refine (HA.out _).mono ?_
  rintro e w2 ⟨rfl, hf⟩
  have HF2 := hid (HF1.out.trans hf)
  clear hf HF1
  go_wp2_with fail
  refine (HR.out _).mono ?_
  rintro e w3 ⟨rfl, hf⟩
  have HF3 := hid (HF2.out.trans hf)
  clear hf HF2
  go_wp2_with fail
  refine (H3.out _).mono ?_
  rintro e w4 ⟨rfl, hf⟩
  have HF4 := hid (HF3.out.trans hf)
  clear hf HF3
  go_wp2_with fail
  refine (H4.out _).mono ?_
  rintro e w5 ⟨rfl, hf⟩
  have HF5 := hid (HF4.out.trans hf)
  clear hf HF4
  go_wp2_with fail
  refine (H5.out _).mono ?_
  rintro e w6 ⟨rfl, hf⟩
  have HF6 := hid (HF5.out.trans hf)
  clear hf HF5
  go_wp2_with fail
  refine (H6.out _).mono ?_
  rintro e w7 ⟨rfl, hf⟩
  have HF7 := hid (HF6.out.trans hf)
  clear hf HF6
  go_wp2_with fail
  refine (H7.out _ _ (by simp) (by simp)).mono ?_
  rintro e w8 ⟨rfl, hf⟩
  have HF8 := hid ((HF7.out.alloc _).trans hf)
  clear hf HF7
  go_wp2_with fail
  refine (H8.out _).mono ?_
  rintro e w9 ⟨rfl, hf⟩
  have HF9 := hid (HF8.out.trans hf)
  clear hf HF8
  go_wp2_with fail
  refine (H9.out _).mono ?_
  rintro e w10 ⟨rfl, hf⟩
  have HF10 := hid (HF9.out.trans hf)
  clear hf HF9
  go_wp2_with fail
  refine (H10.out _).mono ?_
  rintro e w11 ⟨rfl, hf⟩
  have HF11 := hid (HF10.out.trans hf)
  clear hf HF10
  go_wp2_with fail
  refine (H11.out _).mono ?_
  rintro e w12 ⟨rfl, hf⟩
  have HF12 := hid (HF11.out.trans hf)
  clear hf HF11
  go_wp2
  go_ret
  exact ⟨by simp, HF12.out⟩
set_option maxHeartbeats 2000000 in
set_option maxRecDepth 20000 in
theorem raw_frac2 (x y : Nat) (a b : Int) (t1 t2 : Nat) (qx qy : Int) (w0 : World) (oz : FloatKind.f64.format.order 0 0 = some .eq) (g1 : (FloatKind.f64.format.order x 0 == some .gt || FloatKind.f64.format.order x 0 == some .eq) = true) (l1 : (FloatKind.f64.format.order x 4787326403894837248 == some .lt || FloatKind.f64.format.order x 4787326403894837248 == some .eq) = true) (g2 : (FloatKind.f64.format.order y 0 == some .gt || FloatKind.f64.format.order y 0 == some .eq) = true) (l2 : (FloatKind.f64.format.order y 4787326403894837248 == some .lt || FloatKind.f64.format.order y 4787326403894837248 == some .eq) = true) (cx : ∀ w, (convert 44 3 (.float .f64 x)).run Try.prog w = .ok (.int .i64 qx) w) (cy : ∀ w, (convert 44 3 (.float .f64 y)).run Try.prog w = .ok (.int .i64 qy) w) (e1 : (FloatKind.f64.format.order (floatOfInt .f64 qx) x == some .eq) = true) (e2 : (FloatKind.f64.format.order (floatOfInt .f64 qy) y == some .eq) = false)
    (H1 : Hid (∀ w, Calls Try.prog 9 #[.int .i64 a, .int .i64 b] w fun e w' => e = .returned (.tuple #[.complex .f64 t1 t2, .int .i64 0]) ∧ Fr (fun _ => False) w w'))
    (HA : Hid (∀ w, Calls Try.prog 11 #[] w fun e w' => e = .returned (.bool true) ∧ Fr (fun _ => False) w w'))
    (HR : Hid (∀ w, Calls Try.prog 22 #[.complex .f64 x y] w fun e w' => e = .returned (.bool false) ∧ Fr (fun _ => False) w w'))
    (H3 : Hid (∀ w, Calls Try.prog 13 #[.complex .f64 x y, .complex .f64 t1 t2] w fun e w' => e = .returned (.tuple #[.complex .f64 0 0, .int .i64 12]) ∧ Fr (fun _ => False) w w'))
    (H4 : Hid (∀ w, Calls Try.prog 13 #[.complex .f64 t1 t2, .complex .f64 x y] w fun e w' => e = .returned (.tuple #[.complex .f64 0 0, .int .i64 12]) ∧ Fr (fun _ => False) w w'))
    (H5 : Hid (∀ w, Calls Try.prog 15 #[.complex .f64 t1 t2, .complex .f64 x y] w fun e w' => e = .returned (.tuple #[.complex .f64 0 0, .int .i64 12]) ∧ Fr (fun _ => False) w w'))
    (H6 : Hid (∀ w, Calls Try.prog 17 #[.complex .f64 x y, .int .i64 2] w fun e w' => e = .returned (.tuple #[.complex .f64 0 0, .int .i64 12]) ∧ Fr (fun _ => False) w w'))
    (H7 : Hid (∀ (w : World) (B : Nat), w.cell? ⟨B, 0, none⟩ = some (.complex .f64 t1 t2) → w.cell? ⟨B, 1, none⟩ = some (.complex .f64 x y) → Calls Try.prog 21 #[.slice (some ⟨B, 0, none⟩) 2 2] w fun e w' => e = .returned (.tuple #[.complex .f64 0 0, .int .i64 12]) ∧ Fr (fun _ => False) w w'))
    (H8 : Hid (∀ w, Calls Try.prog 23 #[.complex .f64 x y] w fun e w' => e = .returned (.int .i64 0) ∧ Fr (fun _ => False) w w'))
    (H9 : Hid (∀ w, Calls Try.prog 24 #[.complex .f64 x y] w fun e w' => e = .returned (.int .i64 0) ∧ Fr (fun _ => False) w w'))
    (H10 : Hid (∀ w, Calls Try.prog 19 #[.complex .f64 x y, .complex .f64 t1 t2] w fun e w' => e = .returned (.bool false) ∧ Fr (fun _ => False) w w'))
    (H11 : Hid (∀ w, Calls Try.prog 19 #[.complex .f64 t1 t2, .complex .f64 x y] w fun e w' => e = .returned (.bool false) ∧ Fr (fun _ => False) w w'))
    : Calls Try.prog 5 #[.float .f64 x, .float .f64 y, .int .i64 a, .int .i64 b] w0 fun e w' => e = .returned (.bool true) ∧ Fr (fun _ => False) w0 w' := by
  have HF0 := hid (Fr.refl (fun _ => False) w0)
  go_enter Try.func5, Try.ntmps5
  go_wp2_with fail
  refine (H1.out _).mono ?_
  rintro e w1 ⟨rfl, hf⟩
  have HF1 := hid (HF0.out.trans hf)
  clear hf HF0
  go_wp2_with fail
  refine (HA.out _).mono ?_
  rintro e w2 ⟨rfl, hf⟩
  have HF2 := hid (HF1.out.trans hf)
  clear hf HF1
  go_wp2_with fail
  refine (HR.out _).mono ?_
  rintro e w3 ⟨rfl, hf⟩
  have HF3 := hid (HF2.out.trans hf)
  clear hf HF2
  go_wp2_with fail
  refine (H3.out _).mono ?_
  rintro e w4 ⟨rfl, hf⟩
  have HF4 := hid (HF3.out.trans hf)
  clear hf HF3
  go_wp2_with fail
  refine (H4.out _).mono ?_
  rintro e w5 ⟨rfl, hf⟩
  have HF5 := hid (HF4.out.trans hf)
  clear hf HF4
  go_wp2_with fail
  refine (H5.out _).mono ?_
  rintro e w6 ⟨rfl, hf⟩
  have HF6 := hid (HF5.out.trans hf)
  clear hf HF5
  go_wp2_with fail
  refine (H6.out _).mono ?_
  rintro e w7 ⟨rfl, hf⟩
  have HF7 := hid (HF6.out.trans hf)
  clear hf HF6
  go_wp2_with fail
  refine (H7.out _ _ (by simp) (by simp)).mono ?_
  rintro e w8 ⟨rfl, hf⟩
  have HF8 := hid ((HF7.out.alloc _).trans hf)
  clear hf HF7
  go_wp2_with fail
  refine (H8.out _).mono ?_
  rintro e w9 ⟨rfl, hf⟩
  have HF9 := hid (HF8.out.trans hf)
  clear hf HF8
  go_wp2_with fail
  refine (H9.out _).mono ?_
  rintro e w10 ⟨rfl, hf⟩
  have HF10 := hid (HF9.out.trans hf)
  clear hf HF9
  go_wp2_with fail
  refine (H10.out _).mono ?_
  rintro e w11 ⟨rfl, hf⟩
  have HF11 := hid (HF10.out.trans hf)
  clear hf HF10
  go_wp2_with fail
  refine (H11.out _).mono ?_
  rintro e w12 ⟨rfl, hf⟩
  have HF12 := hid (HF11.out.trans hf)
  clear hf HF11
  go_wp2
  go_ret
  exact ⟨by simp, HF12.out⟩
set_option maxHeartbeats 2000000 in
set_option maxRecDepth 20000 in
theorem raw_yes (x y : Nat) (a b : Int) (t1 t2 : Nat) (qx qy : Int) (w0 : World) (g1 : (FloatKind.f64.format.order x 0 == some .gt || FloatKind.f64.format.order x 0 == some .eq) = true) (l1 : (FloatKind.f64.format.order x 4787326403894837248 == some .lt || FloatKind.f64.format.order x 4787326403894837248 == some .eq) = true) (g2 : (FloatKind.f64.format.order y 0 == some .gt || FloatKind.f64.format.order y 0 == some .eq) = true) (l2 : (FloatKind.f64.format.order y 4787326403894837248 == some .lt || FloatKind.f64.format.order y 4787326403894837248 == some .eq) = true) (cx : ∀ w, (convert 44 3 (.float .f64 x)).run Try.prog w = .ok (.int .i64 qx) w) (cy : ∀ w, (convert 44 3 (.float .f64 y)).run Try.prog w = .ok (.int .i64 qy) w) (e1 : (FloatKind.f64.format.order (floatOfInt .f64 qx) x == some .eq) = true) (e2 : (FloatKind.f64.format.order (floatOfInt .f64 qy) y == some .eq) = true)
    (H1 : Hid (∀ w, Calls Try.prog 9 #[.int .i64 a, .int .i64 b] w fun e w' => e = .returned (.tuple #[.complex .f64 t1 t2, .int .i64 0]) ∧ Fr (fun _ => False) w w'))
    (HA : Hid (∀ w, Calls Try.prog 11 #[] w fun e w' => e = .returned (.bool true) ∧ Fr (fun _ => False) w w'))
    (HR : Hid (∀ w, Calls Try.prog 22 #[.complex .f64 x y] w fun e w' => e = .returned (.bool true) ∧ Fr (fun _ => False) w w'))
    (H8 : Hid (∀ w, Calls Try.prog 23 #[.complex .f64 x y] w fun e w' => e = .returned (.int .i64 qx) ∧ Fr (fun _ => False) w w'))
    (H9 : Hid (∀ w, Calls Try.prog 24 #[.complex .f64 x y] w fun e w' => e = .returned (.int .i64 qy) ∧ Fr (fun _ => False) w w'))
    : Calls Try.prog 5 #[.float .f64 x, .float .f64 y, .int .i64 a, .int .i64 b] w0 fun e w' => e = .returned (.bool true) ∧ Fr (fun _ => False) w0 w' := by
  have HF0 := hid (Fr.refl (fun _ => False) w0)
  go_enter Try.func5, Try.ntmps5
  go_wp2_with fail
  refine (H1.out _).mono ?_
  rintro e w1 ⟨rfl, hf⟩
  have HF1 := hid (HF0.out.trans hf)
  clear hf HF0
  go_wp2_with fail
  refine (HA.out _).mono ?_
  rintro e w2 ⟨rfl, hf⟩
  have HF2 := hid (HF1.out.trans hf)
  clear hf HF1
  go_wp2_with fail
  refine (HR.out _).mono ?_
  rintro e w3 ⟨rfl, hf⟩
  have HF3 := hid (HF2.out.trans hf)
  clear hf HF2
  go_wp2_with fail
  refine (H8.out _).mono ?_
  rintro e w4 ⟨rfl, hf⟩
  have HF4 := hid (HF3.out.trans hf)
  clear hf HF3
  go_wp2_with fail
  refine (H9.out _).mono ?_
  rintro e w5 ⟨rfl, hf⟩
  have HF5 := hid (HF4.out.trans hf)
  clear hf HF4
  go_wp2
  go_ret
  exact ⟨by simp, HF5.out⟩
theorem rawB_eq (x : Nat) : rawB x = ((FloatKind.f64.format.order x 0 == some .gt || FloatKind.f64.format.order x 0 == some .eq) && (FloatKind.f64.format.order x 4787326403894837248 == some .lt || FloatKind.f64.format.order x 4787326403894837248 == some .eq) && (match floatToIntVal .f64 x .i64 with | some q => FloatKind.f64.format.order (floatOfInt .f64 q) x == some .eq | none => false)) := by
  unfold rawB
  rw [fb_zero, ← fb_top]
  rfl
theorem raw_part (x : Nat) (h1 : (FloatKind.f64.format.order x 0 == some .gt || FloatKind.f64.format.order x 0 == some .eq) = true) (h2 : (FloatKind.f64.format.order x 4787326403894837248 == some .lt || FloatKind.f64.format.order x 4787326403894837248 == some .eq) = true) : ∃ q : Int, floatToIntVal .f64 x .i64 = some q ∧ rawB x = (FloatKind.f64.format.order (floatOfInt .f64 q) x == some .eq) := by
  obtain ⟨q, hq, _, _⟩ := raw_in x 1099511627776 (by decide) (by decide) (by rw [fb_zero]; exact h1) (by rw [← fb_top]; exact h2)
  refine ⟨q, hq, ?_⟩
  rw [rawB_eq, h1, h2, hq]
  simp
theorem conv_float (x : Nat) (q : Int) (hq : floatToIntVal .f64 x .i64 = some q) (w : World) : (convert 44 3 (.float .f64 x)).run Try.prog w = .ok (.int .i64 q) w :=
  run_convert_float_int w _ _ .f64 .i64 x q (by rw [Try.underlying44]; rfl) Try.underlying3 hq
theorem raw_walk (x y : Nat) (a b : Int) (w0 : World) : Calls Try.prog 5 #[.float .f64 x, .float .f64 y, .int .i64 a, .int .i64 b] w0 fun e w' => e = .returned (.bool true) ∧ Fr (fun _ => False) w0 w' := by
  by_cases h : Rt a b
  · cases g1 : (FloatKind.f64.format.order x 0 == some .gt || FloatKind.f64.format.order x 0 == some .eq) with
    | false =>
      have hn : (rawB x && rawB y) = false := by rw [rawB_eq x, g1]; simp
      exact raw_out0 x y a b _ _ w0 order_zero g1 (hid fun w => f_of_yes h w) (hid f_awake) (hid fun w => by have := s_raw_right x y w; rw [hn] at this; exact this.mono fun _ _ ⟨h, k⟩ => ⟨h, frOf k⟩) (hid fun w => (s_raw_plus1 hn h w).mono fun _ _ ⟨h, k⟩ => ⟨h, frOf k⟩) (hid fun w => (s_raw_plus2 hn h w).mono fun _ _ ⟨h, k⟩ => ⟨h, frOf k⟩) (hid fun w => (s_raw_less hn h w).mono fun _ _ ⟨h, k⟩ => ⟨h, frOf k⟩) (hid fun w => (s_raw_times hn w).mono fun _ _ ⟨h, k⟩ => ⟨h, frOf k⟩) (hid fun w B h0 h1 => (s_raw_total hn h w B h0 h1).mono fun _ _ ⟨h, k⟩ => ⟨h, frOf k⟩) (hid fun w => (s_raw_bytes0 hn w).mono fun _ _ ⟨h, k⟩ => ⟨h, frOf k⟩) (hid fun w => (s_raw_pages0 hn w).mono fun _ _ ⟨h, k⟩ => ⟨h, frOf k⟩) (hid fun w => (s_raw_fits1 hn h w).mono fun _ _ ⟨h, k⟩ => ⟨h, frOf k⟩) (hid fun w => (s_raw_fits2 hn h w).mono fun _ _ ⟨h, k⟩ => ⟨h, frOf k⟩)
    | true =>
    cases l1 : (FloatKind.f64.format.order x 4787326403894837248 == some .lt || FloatKind.f64.format.order x 4787326403894837248 == some .eq) with
    | false =>
      have hn : (rawB x && rawB y) = false := by rw [rawB_eq x, l1]; simp
      exact raw_out1 x y a b _ _ w0 order_zero g1 l1 (hid fun w => f_of_yes h w) (hid f_awake) (hid fun w => by have := s_raw_right x y w; rw [hn] at this; exact this.mono fun _ _ ⟨h, k⟩ => ⟨h, frOf k⟩) (hid fun w => (s_raw_plus1 hn h w).mono fun _ _ ⟨h, k⟩ => ⟨h, frOf k⟩) (hid fun w => (s_raw_plus2 hn h w).mono fun _ _ ⟨h, k⟩ => ⟨h, frOf k⟩) (hid fun w => (s_raw_less hn h w).mono fun _ _ ⟨h, k⟩ => ⟨h, frOf k⟩) (hid fun w => (s_raw_times hn w).mono fun _ _ ⟨h, k⟩ => ⟨h, frOf k⟩) (hid fun w B h0 h1 => (s_raw_total hn h w B h0 h1).mono fun _ _ ⟨h, k⟩ => ⟨h, frOf k⟩) (hid fun w => (s_raw_bytes0 hn w).mono fun _ _ ⟨h, k⟩ => ⟨h, frOf k⟩) (hid fun w => (s_raw_pages0 hn w).mono fun _ _ ⟨h, k⟩ => ⟨h, frOf k⟩) (hid fun w => (s_raw_fits1 hn h w).mono fun _ _ ⟨h, k⟩ => ⟨h, frOf k⟩) (hid fun w => (s_raw_fits2 hn h w).mono fun _ _ ⟨h, k⟩ => ⟨h, frOf k⟩)
    | true =>
    cases g2 : (FloatKind.f64.format.order y 0 == some .gt || FloatKind.f64.format.order y 0 == some .eq) with
    | false =>
      have hn : (rawB x && rawB y) = false := by rw [rawB_eq y, g2]; simp
      exact raw_out2 x y a b _ _ w0 order_zero g1 l1 g2 (hid fun w => f_of_yes h w) (hid f_awake) (hid fun w => by have := s_raw_right x y w; rw [hn] at this; exact this.mono fun _ _ ⟨h, k⟩ => ⟨h, frOf k⟩) (hid fun w => (s_raw_plus1 hn h w).mono fun _ _ ⟨h, k⟩ => ⟨h, frOf k⟩) (hid fun w => (s_raw_plus2 hn h w).mono fun _ _ ⟨h, k⟩ => ⟨h, frOf k⟩) (hid fun w => (s_raw_less hn h w).mono fun _ _ ⟨h, k⟩ => ⟨h, frOf k⟩) (hid fun w => (s_raw_times hn w).mono fun _ _ ⟨h, k⟩ => ⟨h, frOf k⟩) (hid fun w B h0 h1 => (s_raw_total hn h w B h0 h1).mono fun _ _ ⟨h, k⟩ => ⟨h, frOf k⟩) (hid fun w => (s_raw_bytes0 hn w).mono fun _ _ ⟨h, k⟩ => ⟨h, frOf k⟩) (hid fun w => (s_raw_pages0 hn w).mono fun _ _ ⟨h, k⟩ => ⟨h, frOf k⟩) (hid fun w => (s_raw_fits1 hn h w).mono fun _ _ ⟨h, k⟩ => ⟨h, frOf k⟩) (hid fun w => (s_raw_fits2 hn h w).mono fun _ _ ⟨h, k⟩ => ⟨h, frOf k⟩)
    | true =>
    cases l2 : (FloatKind.f64.format.order y 4787326403894837248 == some .lt || FloatKind.f64.format.order y 4787326403894837248 == some .eq) with
    | false =>
      have hn : (rawB x && rawB y) = false := by rw [rawB_eq y, l2]; simp
      exact raw_out3 x y a b _ _ w0 order_zero g1 l1 g2 l2 (hid fun w => f_of_yes h w) (hid f_awake) (hid fun w => by have := s_raw_right x y w; rw [hn] at this; exact this.mono fun _ _ ⟨h, k⟩ => ⟨h, frOf k⟩) (hid fun w => (s_raw_plus1 hn h w).mono fun _ _ ⟨h, k⟩ => ⟨h, frOf k⟩) (hid fun w => (s_raw_plus2 hn h w).mono fun _ _ ⟨h, k⟩ => ⟨h, frOf k⟩) (hid fun w => (s_raw_less hn h w).mono fun _ _ ⟨h, k⟩ => ⟨h, frOf k⟩) (hid fun w => (s_raw_times hn w).mono fun _ _ ⟨h, k⟩ => ⟨h, frOf k⟩) (hid fun w B h0 h1 => (s_raw_total hn h w B h0 h1).mono fun _ _ ⟨h, k⟩ => ⟨h, frOf k⟩) (hid fun w => (s_raw_bytes0 hn w).mono fun _ _ ⟨h, k⟩ => ⟨h, frOf k⟩) (hid fun w => (s_raw_pages0 hn w).mono fun _ _ ⟨h, k⟩ => ⟨h, frOf k⟩) (hid fun w => (s_raw_fits1 hn h w).mono fun _ _ ⟨h, k⟩ => ⟨h, frOf k⟩) (hid fun w => (s_raw_fits2 hn h w).mono fun _ _ ⟨h, k⟩ => ⟨h, frOf k⟩)
    | true =>
    obtain ⟨qx, hqx, ex⟩ := raw_part x g1 l1
    obtain ⟨qy, hqy, ey⟩ := raw_part y g2 l2
    cases e1 : (FloatKind.f64.format.order (floatOfInt .f64 qx) x == some .eq) with
    | false =>
      have hn : (rawB x && rawB y) = false := by rw [ex, e1]; simp
      exact raw_frac1 x y a b _ _ qx w0 order_zero g1 l1 g2 l2 (conv_float x qx hqx) e1 (hid fun w => f_of_yes h w) (hid f_awake) (hid fun w => by have := s_raw_right x y w; rw [hn] at this; exact this.mono fun _ _ ⟨h, k⟩ => ⟨h, frOf k⟩) (hid fun w => (s_raw_plus1 hn h w).mono fun _ _ ⟨h, k⟩ => ⟨h, frOf k⟩) (hid fun w => (s_raw_plus2 hn h w).mono fun _ _ ⟨h, k⟩ => ⟨h, frOf k⟩) (hid fun w => (s_raw_less hn h w).mono fun _ _ ⟨h, k⟩ => ⟨h, frOf k⟩) (hid fun w => (s_raw_times hn w).mono fun _ _ ⟨h, k⟩ => ⟨h, frOf k⟩) (hid fun w B h0 h1 => (s_raw_total hn h w B h0 h1).mono fun _ _ ⟨h, k⟩ => ⟨h, frOf k⟩) (hid fun w => (s_raw_bytes0 hn w).mono fun _ _ ⟨h, k⟩ => ⟨h, frOf k⟩) (hid fun w => (s_raw_pages0 hn w).mono fun _ _ ⟨h, k⟩ => ⟨h, frOf k⟩) (hid fun w => (s_raw_fits1 hn h w).mono fun _ _ ⟨h, k⟩ => ⟨h, frOf k⟩) (hid fun w => (s_raw_fits2 hn h w).mono fun _ _ ⟨h, k⟩ => ⟨h, frOf k⟩)
    | true =>
    cases e2 : (FloatKind.f64.format.order (floatOfInt .f64 qy) y == some .eq) with
    | false =>
      have hn : (rawB x && rawB y) = false := by rw [ey, e2]; simp
      exact raw_frac2 x y a b _ _ qx qy w0 order_zero g1 l1 g2 l2 (conv_float x qx hqx) (conv_float y qy hqy) e1 e2 (hid fun w => f_of_yes h w) (hid f_awake) (hid fun w => by have := s_raw_right x y w; rw [hn] at this; exact this.mono fun _ _ ⟨h, k⟩ => ⟨h, frOf k⟩) (hid fun w => (s_raw_plus1 hn h w).mono fun _ _ ⟨h, k⟩ => ⟨h, frOf k⟩) (hid fun w => (s_raw_plus2 hn h w).mono fun _ _ ⟨h, k⟩ => ⟨h, frOf k⟩) (hid fun w => (s_raw_less hn h w).mono fun _ _ ⟨h, k⟩ => ⟨h, frOf k⟩) (hid fun w => (s_raw_times hn w).mono fun _ _ ⟨h, k⟩ => ⟨h, frOf k⟩) (hid fun w B h0 h1 => (s_raw_total hn h w B h0 h1).mono fun _ _ ⟨h, k⟩ => ⟨h, frOf k⟩) (hid fun w => (s_raw_bytes0 hn w).mono fun _ _ ⟨h, k⟩ => ⟨h, frOf k⟩) (hid fun w => (s_raw_pages0 hn w).mono fun _ _ ⟨h, k⟩ => ⟨h, frOf k⟩) (hid fun w => (s_raw_fits1 hn h w).mono fun _ _ ⟨h, k⟩ => ⟨h, frOf k⟩) (hid fun w => (s_raw_fits2 hn h w).mono fun _ _ ⟨h, k⟩ => ⟨h, frOf k⟩)
    | true =>
      have hy : (rawB x && rawB y) = true := by rw [ex, ey, e1, e2]; rfl
      exact raw_yes x y a b _ _ qx qy w0 g1 l1 g2 l2 (conv_float x qx hqx) (conv_float y qy hqy) e1 e2 (hid fun w => f_of_yes h w) (hid f_awake) (hid fun w => by have := s_raw_right x y w; rw [hy] at this; exact this.mono fun _ _ ⟨h, k⟩ => ⟨h, frOf k⟩) (hid fun w => (s_raw_bytes hy hqx w).mono fun _ _ ⟨h, k⟩ => ⟨h, frOf k⟩) (hid fun w => (s_raw_pages hy hqy w).mono fun _ _ ⟨h, k⟩ => ⟨h, frOf k⟩)
  · exact raw_no x y a b _ _ w0 (hid fun w => f_of_no h w) (hid f_awake)
end Go.Proofs.Ytcocdbekahokaaa
