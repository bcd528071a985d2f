/-
  Calls by their number, of any two numbers as the laws hand them in: right sums and wrong ones alike.
-/
import Derived.Test.YtnlaocokjilncaaQuNil
import Derived.Test.YtnlaocokjilncaaQuOpen
namespace Go.Proofs.Ytnlaocokjilncaa
open Go.RowKit

/-- The bits that 'of' answers. -/
def xb (a b : Int) : Nat := if Rt a b then fb a else 13830554455654793216
def yb (a b : Int) : Nat := if Rt a b then fb b else 0
theorem o_all (a b : Int) (w : World) : Calls Try.prog 8 #[.int .i64 a, .int .i64 b] w fun e w' => e = .returned (.tuple #[.complex .f64 (xb a b) (yb a b), .agg #[.int .i64 (okA a b), .int .i64 (okB a b)], .bool (decide (Rt a b))]) ∧ Fr (fun _ => False) w w' := by
  by_cases r : Rt a b
  · rw [xb, yb, if_pos r, if_pos r, (ok_right r).1, (ok_right r).2.1, decide_eq_true r]; exact o_yes r w
  · rw [xb, yb, if_neg r, if_neg r, (ok_wrong r).1, (ok_wrong r).2.1, decide_eq_false r]; exact o_no r w
section
variable {W w : World} {B : Nat} {s : QS}
theorem x_res (h : Qn W w B s) (a b : Int) : Calls Try.prog 12 #[.pointer (some ⟨B, 0, none⟩), .complex .f64 (xb a b) (yb a b)] w fun e w' => e = .returned (.int .i64 (stepE s 1 a b)) ∧ Qn W w' B (stepS s 1 a b) ∧ Fr (fun i => i = B) w w' := by
  by_cases r : Rt a b
  · rw [xb, yb, if_pos r, if_pos r, show stepE s 1 a b = resE s a b by unfold stepE; rw [if_pos r]; rfl, show stepS s 1 a b = resS s a b by unfold stepS; rw [if_pos r]; rfl]; exact n_res h r
  · rw [xb, yb, if_neg r, if_neg r, show stepE s 1 a b = 12 by unfold stepE; rw [if_neg r], show stepS s 1 a b = s by unfold stepS; rw [if_neg r]]; exact n_res_no h wrong_raw
theorem x_com (h : Qn W w B s) (a b : Int) : Calls Try.prog 18 #[.pointer (some ⟨B, 0, none⟩), .complex .f64 (xb a b) (yb a b)] w fun e w' => e = .returned (.int .i64 (stepE s 2 a b)) ∧ Qn W w' B (stepS s 2 a b) ∧ Fr (fun i => i = B) w w' := by
  by_cases r : Rt a b
  · rw [xb, yb, if_pos r, if_pos r, show stepE s 2 a b = comE s a b by unfold stepE; rw [if_pos r]; rfl, show stepS s 2 a b = comS s a b by unfold stepS; rw [if_pos r]; rfl]; exact n_com h r
  · rw [xb, yb, if_neg r, if_neg r, show stepE s 2 a b = 12 by unfold stepE; rw [if_neg r], show stepS s 2 a b = s by unfold stepS; rw [if_neg r]]; exact n_com_no h wrong_raw
theorem x_can (h : Qn W w B s) (a b : Int) : Calls Try.prog 19 #[.pointer (some ⟨B, 0, none⟩), .complex .f64 (xb a b) (yb a b)] w fun e w' => e = .returned (.int .i64 (stepE s 3 a b)) ∧ Qn W w' B (stepS s 3 a b) ∧ Fr (fun i => i = B) w w' := by
  by_cases r : Rt a b
  · rw [xb, yb, if_pos r, if_pos r, show stepE s 3 a b = canE s a b by unfold stepE; rw [if_pos r]; rfl, show stepS s 3 a b = canS s a b by unfold stepS; rw [if_pos r]; rfl]; exact n_can h r
  · rw [xb, yb, if_neg r, if_neg r, show stepE s 3 a b = 12 by unfold stepE; rw [if_neg r], show stepS s 3 a b = s by unfold stepS; rw [if_neg r]]; exact n_can_no h wrong_raw
theorem x_ref (h : Qn W w B s) (a b : Int) : Calls Try.prog 20 #[.pointer (some ⟨B, 0, none⟩), .complex .f64 (xb a b) (yb a b)] w fun e w' => e = .returned (.int .i64 (stepE s 4 a b)) ∧ Qn W w' B (stepS s 4 a b) ∧ Fr (fun i => i = B) w w' := by
  by_cases r : Rt a b
  · rw [xb, yb, if_pos r, if_pos r, show stepE s 4 a b = refE s a b by unfold stepE; rw [if_pos r]; rfl, show stepS s 4 a b = refS s a b by unfold stepS; rw [if_pos r]; rfl]; exact n_ref h r
  · rw [xb, yb, if_neg r, if_neg r, show stepE s 4 a b = 12 by unfold stepE; rw [if_neg r], show stepS s 4 a b = s by unfold stepS; rw [if_neg r]]; exact n_ref_no h wrong_raw
theorem x_rsz (h : Qn W w B s) (a b : Int) : Calls Try.prog 21 #[.pointer (some ⟨B, 0, none⟩), .complex .f64 (xb a b) (yb a b)] w fun e w' => e = .returned (.int .i64 (stepE s 5 a b)) ∧ Qn W w' B (stepS s 5 a b) ∧ Fr (fun i => i = B) w w' := by
  by_cases r : Rt a b
  · rw [xb, yb, if_pos r, if_pos r, show stepE s 5 a b = rszE s a b by unfold stepE; rw [if_pos r]; rfl, show stepS s 5 a b = rszS s a b by unfold stepS; rw [if_pos r]; rfl]; exact n_rsz h r
  · rw [xb, yb, if_neg r, if_neg r, show stepE s 5 a b = 12 by unfold stepE; rw [if_neg r], show stepS s 5 a b = s by unfold stepS; rw [if_neg r]]; exact n_rsz_no h wrong_raw
theorem x_plus (h : s.Ok) (w : World) : Calls Try.prog 22 #[.complex .f64 (fb s.cb) (fb s.cp), .complex .f64 (fb s.rb) (fb s.rp)] w fun e w' => e = .returned (.tuple #[.complex .f64 (fb (s.cb + s.rb)) (fb (s.cp + s.rp)), .int .i64 0]) ∧ Fr (fun _ => False) w w' := by
  have k := s_plus h.char h.rsv w
  rw [(ok_right h.both).1, (ok_right h.both).2.1, (ok_right h.both).2.2] at k
  exact k.mono fun _ _ ⟨he, hw⟩ => ⟨he, frOf hw⟩
theorem x_fits (h : s.Ok) (w : World) : Calls Try.prog 23 #[.complex .f64 (fb (s.cb + s.rb)) (fb (s.cp + s.rp)), .complex .f64 (fb s.lb) (fb s.lp)] w fun e w' => e = .returned (.bool true) ∧ Fr (fun _ => False) w w' := by
  have k := s_fits h.both h.lim w
  rw [decide_eq_true ⟨h.fb1, h.fp1⟩] at k
  exact k.mono fun _ _ ⟨he, hw⟩ => ⟨he, frOf hw⟩
theorem stepS_none {s : QS} {k a b : Int} (h : k < 1 ∨ 5 < k) : stepS s k a b = s := by
  unfold stepS
  split
  · rw [if_neg (by omega), if_neg (by omega), if_neg (by omega), if_neg (by omega), if_neg (by omega)]
  · rfl
end
end Go.Proofs.Ytnlaocokjilncaa
