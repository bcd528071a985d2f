/-
  Sums as the laws hand them in, and the document's beside them; is it that sum?
-/
import Derived.Test.YtnlaocokjilncaaQuCalls
import Derived.Test.YtnlaocokjilncaaQuRef
namespace Go.Proofs.Ytnlaocokjilncaa
open Go.RowKit

theorem wrong_bits : (13830554455654793216 : Nat) = fb (-1) := by decide +kernel
theorem wrong_raw : (rawB 13830554455654793216 && rawB 0) = false := by
  rw [wrong_bits, rawB_fb]; rfl
theorem At.put {w : World} {B : Nat} {a b : Int} (h : At w B a b) (x y : Int) : At ((w.setCell ⟨B, 0, none⟩ (.int .i64 x)).setCell ⟨B, 1, none⟩ (.int .i64 y)) B x y := ⟨by rw [set_cells 1 _ (set_cells 0 _ h.heap)]; rfl⟩
set_option maxRecDepth 20000 in
theorem o_yes {a b : Int} (r : Rt a b) (w : World) : Calls Try.prog 8 #[.int .i64 a, .int .i64 b] w fun e w' => e = .returned (.tuple #[.complex .f64 (fb a) (fb b), .agg #[.int .i64 a, .int .i64 b], .bool true]) ∧ Fr (fun _ => False) w w' := by
  have H1 := hid fun w => s_of a b w
  have H2 := hid fun w => r_of a b w
  rw [(ok_right r).1, (ok_right r).2.1, (ok_right r).2.2] at H1 H2
  clear r
  generalize fb a = x at *
  generalize fb b = y at *
  go_enter Try.func8, Try.ntmps8
  go_wp2_with fail
  refine (H1.out _).mono ?_
  rintro e w1 ⟨rfl, hw⟩
  have f1 := frOf hw
  have A1 := hid ((At.new w 0 0).kept f1)
  have HF1 := hid (Nw.kept ((Nw.start w).alloc _) f1)
  clear hw f1
  go_wp2_with fail
  refine (H2.out _).mono ?_
  rintro e w2 ⟨rfl, f2⟩
  have A2 := hid ((A1.out.kept f2).alloc (.cells #[.int .i64 a, .int .i64 b] 26))
  have A3 := hid (At.new w2 a b)
  have HF2 := hid (Nw.alloc (HF1.out.kept f2) (.cells #[.int .i64 a, .int .i64 b] 26))
  have hlt := (A1.out.kept f2).lt
  clear f2 A1 HF1
  have c0 := A3.out.c0
  have c1 := A3.out.c1
  have g0 := A2.out.g 0
  have g1 := A2.out.g 1
  have b0 := A2.out.c0
  have b1 := A2.out.c1
  go_wp2
  generalize w2.alloc (.cells #[.int .i64 a, .int .i64 b] 26) = w3 at *
  generalize w2.heap.size = B at *
  go_region
  go_wp2
  have k0 := (A2.out.put a b).c0
  have k1 := (A2.out.put a b).c1
  exact bodyPost_ret (v := .tuple #[.complex .f64 x y, .agg #[.int .i64 a, .int .i64 b], .bool true]) (by simp [results, Try.results8, go_sem, k0, k1]) rfl ⟨rfl, (((Fr.setCell HF2.out (p := ⟨w.heap.size, 0, none⟩) (Nat.le_refl _) _).setCell (p := ⟨w.heap.size, 1, none⟩) (Nat.le_refl _) _).drew).new⟩
set_option maxRecDepth 20000 in
theorem o_no {a b : Int} (r : ¬ Rt a b) (w : World) : Calls Try.prog 8 #[.int .i64 a, .int .i64 b] w fun e w' => e = .returned (.tuple #[.complex .f64 13830554455654793216 0, .agg #[.int .i64 0, .int .i64 0], .bool false]) ∧ Fr (fun _ => False) w w' := by
  have H1 := hid fun w => s_of a b w
  have H2 := hid fun w => r_of a b w
  rw [(ok_wrong r).1, (ok_wrong r).2.1, (ok_wrong r).2.2] at H1 H2
  clear r
  go_enter Try.func8, Try.ntmps8
  go_wp2_with fail
  refine (H1.out _).mono ?_
  rintro e w1 ⟨rfl, hw⟩
  have f1 := frOf hw
  have A1 := hid ((At.new w 0 0).kept f1)
  have HF1 := hid (Nw.kept ((Nw.start w).alloc _) f1)
  clear hw f1
  go_wp2_with fail
  refine (H2.out _).mono ?_
  rintro e w2 ⟨rfl, f2⟩
  have A2 := hid ((A1.out.kept f2).alloc (.cells #[.int .i64 0, .int .i64 0] 26))
  have A3 := hid (At.new w2 0 0)
  have HF2 := hid (Nw.alloc (HF1.out.kept f2) (.cells #[.int .i64 0, .int .i64 0] 26))
  have hlt := (A1.out.kept f2).lt
  clear f2 A1 HF1
  have c0 := A3.out.c0
  have c1 := A3.out.c1
  have g0 := A2.out.g 0
  have g1 := A2.out.g 1
  have b0 := A2.out.c0
  have b1 := A2.out.c1
  go_wp2
  generalize w2.alloc (.cells #[.int .i64 0, .int .i64 0] 26) = w3 at *
  generalize w2.heap.size = B at *
  go_region
  go_wp2
  have k0 := (A2.out.put 0 0).c0
  have k1 := (A2.out.put 0 0).c1
  exact bodyPost_ret (v := .tuple #[.complex .f64 13830554455654793216 0, .agg #[.int .i64 0, .int .i64 0], .bool false]) (by simp [results, Try.results8, go_sem, k0, k1]) rfl ⟨rfl, (((Fr.setCell HF2.out (p := ⟨w.heap.size, 0, none⟩) (Nat.le_refl _) _).setCell (p := ⟨w.heap.size, 1, none⟩) (Nat.le_refl _) _).drew).new⟩
theorem same_yes {a b : Int} (r : Rt a b) (w : World) : Calls Try.prog 14 #[.complex .f64 (fb a) (fb b), .agg #[.int .i64 a, .int .i64 b]] w fun e w' => e = .returned (.bool true) ∧ Fr (fun _ => False) w w' := by
  have H1 := hid fun w => s_bytes r w
  have H2 := hid fun w => s_pages r w
  have A := At.new w a b
  have c0 := A.c0
  have c1 := A.c1
  clear r A
  generalize fb a = x at *
  generalize fb b = y at *
  go_enter Try.func14, Try.ntmps14
  go_wp2_with fail
  go_quiet (first | (go_at_call 33; refine Calls.quiet_of (H1.out _)) | (go_at_call 34; refine Calls.quiet_of (H2.out _)))
  go_wp2
  go_ret
  exact ⟨by simp, ((Fr.refl _ _).alloc _).drewN _⟩
end Go.Proofs.Ytnlaocokjilncaa
