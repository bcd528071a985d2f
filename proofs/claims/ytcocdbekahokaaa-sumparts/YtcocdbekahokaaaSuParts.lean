/-
  Sums are made, added, taken away and multiplied, and held against each other, as the document says, whatever their parts are.
-/
import Derived.Test.YtcocdbekahokaaaSuAt
import Derived.Deep.RegionHeld
namespace Go.Proofs.Ytcocdbekahokaaa
open Go.RowKit

set_option maxHeartbeats 2000000 in
set_option maxRecDepth 20000 in
theorem parts_core (a b c d n x1 y1 e1 x2 y2 e2 x3 y3 e3 x4 y4 e4 x5 y5 e5 : Int) (p1 p2 q1 q2 u1 u2 v1 v2 t1 t2 : Nat) (ft : Bool) (w0 : World)
    (H1 : Hid (∀ w, Calls Try.prog 9 #[.int .i64 a, .int .i64 b] w fun e w' => e = .returned (.tuple #[.complex .f64 p1 p2, .int .i64 e1]) ∧ Fr (fun _ => False) w w'))
    (H2 : Hid (∀ w, Calls Try.prog 9 #[.int .i64 c, .int .i64 d] w fun e w' => e = .returned (.tuple #[.complex .f64 q1 q2, .int .i64 e2]) ∧ Fr (fun _ => False) w w'))
    (H3 : Hid (∀ w, Calls Try.prog 10 #[.int .i64 a, .int .i64 b] w fun e w' => e = .returned (.tuple #[.agg #[.int .i64 x1, .int .i64 y1], .int .i64 e1]) ∧ Fr (fun _ => False) w w'))
    (H4 : Hid (∀ w, Calls Try.prog 10 #[.int .i64 c, .int .i64 d] w fun e w' => e = .returned (.tuple #[.agg #[.int .i64 x2, .int .i64 y2], .int .i64 e2]) ∧ Fr (fun _ => False) w w'))
    (H5 : Hid (∀ w, Calls Try.prog 11 #[] w fun e w' => e = .returned (.bool true) ∧ Fr (fun _ => False) w w'))
    (H6 : Hid (∀ w, Calls Try.prog 12 #[.complex .f64 p1 p2, .int .i64 e1, .agg #[.int .i64 x1, .int .i64 y1], .int .i64 e1] w fun e w' => e = .returned (.bool true) ∧ Fr (fun _ => False) w w'))
    (H7 : Hid (∀ w, Calls Try.prog 12 #[.complex .f64 q1 q2, .int .i64 e2, .agg #[.int .i64 x2, .int .i64 y2], .int .i64 e2] w fun e w' => e = .returned (.bool true) ∧ Fr (fun _ => False) w w'))
    (H8 : Hid (∀ w, Calls Try.prog 13 #[.complex .f64 p1 p2, .complex .f64 q1 q2] w fun e w' => e = .returned (.tuple #[.complex .f64 u1 u2, .int .i64 e3]) ∧ Fr (fun _ => False) w w'))
    (H9 : Hid (∀ w, Calls Try.prog 14 #[.agg #[.int .i64 x1, .int .i64 y1], .agg #[.int .i64 x2, .int .i64 y2]] w fun e w' => e = .returned (.tuple #[.agg #[.int .i64 x3, .int .i64 y3], .int .i64 e3]) ∧ Fr (fun _ => False) w w'))
    (H10 : Hid (∀ w, Calls Try.prog 12 #[.complex .f64 u1 u2, .int .i64 e3, .agg #[.int .i64 x3, .int .i64 y3], .int .i64 e3] w fun e w' => e = .returned (.bool true) ∧ Fr (fun _ => False) w w'))
    (H11 : Hid (∀ w, Calls Try.prog 15 #[.complex .f64 p1 p2, .complex .f64 q1 q2] w fun e w' => e = .returned (.tuple #[.complex .f64 v1 v2, .int .i64 e4]) ∧ Fr (fun _ => False) w w'))
    (H12 : Hid (∀ w, Calls Try.prog 16 #[.agg #[.int .i64 x1, .int .i64 y1], .agg #[.int .i64 x2, .int .i64 y2]] w fun e w' => e = .returned (.tuple #[.agg #[.int .i64 x4, .int .i64 y4], .int .i64 e4]) ∧ Fr (fun _ => False) w w'))
    (H13 : Hid (∀ w, Calls Try.prog 12 #[.complex .f64 v1 v2, .int .i64 e4, .agg #[.int .i64 x4, .int .i64 y4], .int .i64 e4] w fun e w' => e = .returned (.bool true) ∧ Fr (fun _ => False) w w'))
    (H14 : Hid (∀ w, Calls Try.prog 17 #[.complex .f64 p1 p2, .int .i64 n] w fun e w' => e = .returned (.tuple #[.complex .f64 t1 t2, .int .i64 e5]) ∧ Fr (fun _ => False) w w'))
    (H15 : Hid (∀ w, Calls Try.prog 18 #[.agg #[.int .i64 x1, .int .i64 y1], .int .i64 n] w fun e w' => e = .returned (.tuple #[.agg #[.int .i64 x5, .int .i64 y5], .int .i64 e5]) ∧ Fr (fun _ => False) w w'))
    (H16 : Hid (∀ w, Calls Try.prog 12 #[.complex .f64 t1 t2, .int .i64 e5, .agg #[.int .i64 x5, .int .i64 y5], .int .i64 e5] w fun e w' => e = .returned (.bool true) ∧ Fr (fun _ => False) w w'))
    (H17 : Hid (∀ w, Calls Try.prog 19 #[.complex .f64 p1 p2, .complex .f64 q1 q2] w fun e w' => e = .returned (.bool ft) ∧ Fr (fun _ => False) w w'))
    (H18 : Hid (∀ w, Calls Try.prog 20 #[.agg #[.int .i64 x1, .int .i64 y1], .agg #[.int .i64 x2, .int .i64 y2]] w fun e w' => e = .returned (.bool ft) ∧ Fr (fun _ => False) w w'))
    : Calls Try.prog 3 #[.int .i64 a, .int .i64 b, .int .i64 c, .int .i64 d, .int .i64 n] w0 fun e w' => e = .returned (.bool true) ∧ Fr (fun _ => False) w0 w' := by
  have HN0 := hid (Nw.start w0)
  go_enter Try.func3, Try.ntmps3
  go_wp2_with fail
  refine (H1.out _).mono ?_
  rintro e w1 ⟨rfl, hf⟩
  have HN1 := hid (HN0.out.on hf)
  clear hf HN0
  go_wp2_with fail
  refine (H2.out _).mono ?_
  rintro e w2 ⟨rfl, hf⟩
  have HN2 := hid (HN1.out.on hf)
  clear hf HN1
  go_wp2_with fail
  refine (H3.out _).mono ?_
  rintro e w3 ⟨rfl, hf⟩
  have HN3 := hid (HN2.out.on hf)
  clear hf HN2
  go_wp2_with fail
  refine (H4.out _).mono ?_
  rintro e w4 ⟨rfl, hf⟩
  have HN4 := hid ((HN3.out.alloc _).on hf)
  have A1 := hid ((At.new w3 x1 y1).carry hf)
  have l1 := HN3.out.le
  clear hf HN3
  generalize w3.heap.size = B1 at *
  go_wp2_with fail
  refine (H5.out _).mono ?_
  rintro e w5 ⟨rfl, hf⟩
  have HN5 := hid ((HN4.out.alloc _).on hf)
  have d12 := A1.out.lt
  replace A1 := hid ((A1.out.alloc _).carry hf)
  have A2 := hid ((At.new w4 x2 y2).carry hf)
  have l2 := HN4.out.le
  clear hf HN4
  generalize w4.heap.size = B2 at *
  have c10 := A1.out.c0
  have c11 := A1.out.c1
  go_wp2_with fail
  refine (H6.out _).mono ?_
  rintro e w6 ⟨rfl, hf⟩
  clear c10 c11
  have HN6 := hid (HN5.out.on hf)
  replace A1 := hid (A1.out.carry hf)
  replace A2 := hid (A2.out.carry hf)
  clear hf HN5
  have c20 := A2.out.c0
  have c21 := A2.out.c1
  go_wp2_with fail
  refine (H7.out _).mono ?_
  rintro e w7 ⟨rfl, hf⟩
  clear c20 c21
  have HN7 := hid (HN6.out.on hf)
  replace A1 := hid (A1.out.carry hf)
  replace A2 := hid (A2.out.carry hf)
  clear hf HN6
  go_wp2_with fail
  refine (H8.out _).mono ?_
  rintro e w8 ⟨rfl, hf⟩
  have HN8 := hid (HN7.out.on hf)
  replace A1 := hid (A1.out.carry hf)
  replace A2 := hid (A2.out.carry hf)
  clear hf HN7
  have c10 := A1.out.c0
  have c11 := A1.out.c1
  have c20 := A2.out.c0
  have c21 := A2.out.c1
  go_wp2_with fail
  refine (H9.out _).mono ?_
  rintro e w9 ⟨rfl, hf⟩
  clear c10 c11 c20 c21
  have HN9 := hid (HN8.out.on hf)
  replace A1 := hid (A1.out.carry hf)
  replace A2 := hid (A2.out.carry hf)
  clear hf HN8
  go_wp2_with fail
  refine (H10.out _).mono ?_
  rintro e w10 ⟨rfl, hf⟩
  have HN10 := hid ((HN9.out.alloc _).on hf)
  have d13 := A1.out.lt
  replace A1 := hid ((A1.out.alloc _).carry hf)
  have d23 := A2.out.lt
  replace A2 := hid ((A2.out.alloc _).carry hf)
  have A3 := hid ((At.new w9 x3 y3).carry hf)
  have l3 := HN9.out.le
  clear hf HN9
  generalize w9.heap.size = B3 at *
  go_wp2_with fail
  refine (H11.out _).mono ?_
  rintro e w11 ⟨rfl, hf⟩
  have HN11 := hid (HN10.out.on hf)
  replace A1 := hid (A1.out.carry hf)
  replace A2 := hid (A2.out.carry hf)
  replace A3 := hid (A3.out.carry hf)
  clear hf HN10
  have c10 := A1.out.c0
  have c11 := A1.out.c1
  have c20 := A2.out.c0
  have c21 := A2.out.c1
  go_wp2_with fail
  refine (H12.out _).mono ?_
  rintro e w12 ⟨rfl, hf⟩
  clear c10 c11 c20 c21
  have HN12 := hid (HN11.out.on hf)
  replace A1 := hid (A1.out.carry hf)
  replace A2 := hid (A2.out.carry hf)
  replace A3 := hid (A3.out.carry hf)
  clear hf HN11
  have c30 := A3.out.c0
  have c31 := A3.out.c1
  have g30 := A3.out.g0
  have g31 := A3.out.g1
  go_wp2_with fail
  refine (H13.out _).mono ?_
  rintro e w13 ⟨rfl, hf⟩
  clear c30 c31
  have HN13 := hid ((HN12.out.put l3 _ _).on hf)
  replace A1 := hid ((A1.out.aside (Nat.ne_of_lt d13) _ _).carry hf)
  replace A2 := hid ((A2.out.aside (Nat.ne_of_lt d23) _ _).carry hf)
  replace A3 := hid ((A3.out.put x4 y4).carry hf)
  clear hf HN12 g30 g31
  go_wp2_with fail
  refine (H14.out _).mono ?_
  rintro e w14 ⟨rfl, hf⟩
  have HN14 := hid (HN13.out.on hf)
  replace A1 := hid (A1.out.carry hf)
  replace A2 := hid (A2.out.carry hf)
  replace A3 := hid (A3.out.carry hf)
  clear hf HN13
  have c10 := A1.out.c0
  have c11 := A1.out.c1
  go_wp2_with fail
  refine (H15.out _).mono ?_
  rintro e w15 ⟨rfl, hf⟩
  clear c10 c11
  have HN15 := hid (HN14.out.on hf)
  replace A1 := hid (A1.out.carry hf)
  replace A2 := hid (A2.out.carry hf)
  replace A3 := hid (A3.out.carry hf)
  clear hf HN14
  have c10 := A1.out.c0
  have c11 := A1.out.c1
  have c20 := A2.out.c0
  have c21 := A2.out.c1
  have c30 := A3.out.c0
  have c31 := A3.out.c1
  have g30 := A3.out.g0
  have g31 := A3.out.g1
  go_wp2_with fail
  clear c10 c11 c20 c21 c30 c31 g30 g31
  have HM := hid (HN15.out.put l3 (.int .i64 x5) (.int .i64 y5))
  replace A1 := hid (A1.out.aside (Nat.ne_of_lt d13) (.int .i64 x5) (.int .i64 y5))
  replace A2 := hid (A2.out.aside (Nat.ne_of_lt d23) (.int .i64 x5) (.int .i64 y5))
  replace A3 := hid (A3.out.put x5 y5)
  clear HN15
  generalize (w15.setCell ⟨B3, 0, none⟩ (.int .i64 x5)).setCell ⟨B3, 1, none⟩ (.int .i64 y5) = ww at *
  have c10 := A1.out.c0
  have c11 := A1.out.c1
  have c20 := A2.out.c0
  have c21 := A2.out.c1
  have c30 := A3.out.c0
  have c31 := A3.out.c1
  clear d12 d13 d23 l1 l2 l3 H1 H2 H3 H4 H5 H6 H7 H8 H9 H10 H11 H12 H13 H14 H15
  go_region_held (fun w' => w'.cell? ⟨B1, 0, none⟩ = some (.int .i64 x1) ∧ w'.cell? ⟨B1, 1, none⟩ = some (.int .i64 y1) ∧ w'.cell? ⟨B2, 0, none⟩ = some (.int .i64 x2) ∧ w'.cell? ⟨B2, 1, none⟩ = some (.int .i64 y2) ∧ w'.cell? ⟨B3, 0, none⟩ = some (.int .i64 x5) ∧ w'.cell? ⟨B3, 1, none⟩ = some (.int .i64 y5)) (go_keep) (first | (go_at_call 12; refine (H16.out _).mono ?_; rintro e wa ⟨rfl, fwa⟩; have Fwa := ((Fr.refl (fun _ => False) ww).drew.trans fwa); have pwa10 := (A1.out.carry Fwa).c0; have pwa11 := (A1.out.carry Fwa).c1; have pwa20 := (A2.out.carry Fwa).c0; have pwa21 := (A2.out.carry Fwa).c1; have pwa30 := (A3.out.carry Fwa).c0; have pwa31 := (A3.out.carry Fwa).c1; have HFwa := hid Fwa; clear Fwa fwa) | (go_at_call 19; refine (H17.out _).mono ?_; rintro e wb ⟨rfl, fwb⟩; have Fwb := (HFwa.out.trans fwb); have pwb10 := (A1.out.carry Fwb).c0; have pwb11 := (A1.out.carry Fwb).c1; have pwb20 := (A2.out.carry Fwb).c0; have pwb21 := (A2.out.carry Fwb).c1; have pwb30 := (A3.out.carry Fwb).c0; have pwb31 := (A3.out.carry Fwb).c1; have HFwb := hid Fwb; clear Fwb fwb) | (go_at_call 20; refine (H18.out _).mono ?_; rintro e wc ⟨rfl, fwc⟩; have Fwc := (HFwb.out.trans fwc); have pwc10 := (A1.out.carry Fwc).c0; have pwc11 := (A1.out.carry Fwc).c1; have pwc20 := (A2.out.carry Fwc).c0; have pwc21 := (A2.out.carry Fwc).c1; have pwc30 := (A3.out.carry Fwc).c0; have pwc31 := (A3.out.carry Fwc).c1; have HFwc := hid Fwc; clear Fwc fwc))
  all_goals
    go_wp2
    go_ret
    exact ⟨by simp, (HM.out.on HFwc.out).fr⟩
theorem parts_walk (a b c d n : Int) (w0 : World) : Calls Try.prog 3 #[.int .i64 a, .int .i64 b, .int .i64 c, .int .i64 d, .int .i64 n] w0 fun e w' => e = .returned (.bool true) ∧ Fr (fun _ => False) w0 w' :=
  parts_core a b c d n _ _ _ _ _ _ _ _ _ _ _ _ _ _ _ _ _ _ _ _ _ _ _ _ _ _ w0
    (hid fun w => f_of a b w) (hid fun w => f_of c d w) (hid fun w => r_of a b w) (hid fun w => r_of c d w) (hid fun w => f_awake w)
    (hid fun w => f_same (ok_rt a b) _ w) (hid fun w => f_same (ok_rt c d) _ w)
    (hid fun w => f_plus (ok_rt a b) (ok_rt c d) w) (hid fun w => r_plus _ _ _ _ w (ok_rt a b) (ok_rt c d)) (hid fun w => f_same (ok_rt _ _) _ w)
    (hid fun w => f_less (ok_rt a b) (ok_rt c d) w) (hid fun w => r_less _ _ _ _ w (ok_rt a b) (ok_rt c d)) (hid fun w => f_same (ok_rt _ _) _ w)
    (hid fun w => f_times (ok_rt a b) n w) (hid fun w => r_times _ _ n w (ok_rt a b)) (hid fun w => f_same (ok_rt _ _) _ w)
    (hid fun w => f_fits (ok_rt a b) (ok_rt c d) w) (hid fun w => r_fits _ _ _ _ w)
end Go.Proofs.Ytcocdbekahokaaa
