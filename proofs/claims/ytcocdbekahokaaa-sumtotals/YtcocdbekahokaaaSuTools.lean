/-
  What the calls answer, case by case.
-/
import Derived.Test.YtcocdbekahokaaaSuAwake
namespace Go.Proofs.Ytcocdbekahokaaa
open Go.RowKit

theorem order_self {a b : Int} (h : Rt a b) : FloatKind.f64.format.order (fb a) (fb a) = some .eq ∧ FloatKind.f64.format.order (fb b) (fb b) = some .eq := by
  have ha := h.wa.order h.wa
  have hb := h.wb.order h.wb
  simpa using And.intro ha hb
theorem order_zero : FloatKind.f64.format.order 0 0 = some .eq := by decide +kernel
theorem f_of_yes {a b : Int} (h : Rt a b) (w : World) : Calls Try.prog 9 #[.int .i64 a, .int .i64 b] w fun e w' => e = .returned (.tuple #[.complex .f64 (fb a) (fb b), .int .i64 0]) ∧ Fr (fun _ => False) w w' := by
  have := f_of a b w
  rwa [(ok_right h).1, (ok_right h).2.1, (ok_right h).2.2] at this
theorem f_of_no {a b : Int} (h : ¬ Rt a b) (w : World) : Calls Try.prog 9 #[.int .i64 a, .int .i64 b] w fun e w' => e = .returned (.tuple #[.complex .f64 0 0, .int .i64 12]) ∧ Fr (fun _ => False) w w' := by
  have := f_of a b w
  rwa [(ok_wrong h).1, (ok_wrong h).2.1, (ok_wrong h).2.2, fb_zero] at this
theorem f_plus_yes {a b c d : Int} (h : Rt a b) (k : Rt c d) (r : Rt (a + c) (b + d)) (w : World) : Calls Try.prog 13 #[.complex .f64 (fb a) (fb b), .complex .f64 (fb c) (fb d)] w fun e w' => e = .returned (.tuple #[.complex .f64 (fb (a + c)) (fb (b + d)), .int .i64 0]) ∧ Fr (fun _ => False) w w' := by
  have := f_plus h k w
  rwa [(ok_right r).1, (ok_right r).2.1, (ok_right r).2.2] at this
theorem f_plus_no {a b c d : Int} (h : Rt a b) (k : Rt c d) (r : ¬ Rt (a + c) (b + d)) (w : World) : Calls Try.prog 13 #[.complex .f64 (fb a) (fb b), .complex .f64 (fb c) (fb d)] w fun e w' => e = .returned (.tuple #[.complex .f64 0 0, .int .i64 12]) ∧ Fr (fun _ => False) w w' := by
  have := f_plus h k w
  rwa [(ok_wrong r).1, (ok_wrong r).2.1, (ok_wrong r).2.2, fb_zero] at this
end Go.Proofs.Ytcocdbekahokaaa
