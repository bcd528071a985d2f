/-
  The program's quota and the document's beside each other; what 'done' does, whatever the two have.
-/
import Derived.Test.YtnlaocokjilncaaQuStep
namespace Go.Proofs.Ytnlaocokjilncaa
open Go.RowKit

/-- A quota of the program's and one of the document's, both made behind W. -/
structure Bo (W w : World) (B : Nat) (s : QS) (R : Nat) (t : QS) : Prop where
  q : Qn W w B s
  r : Rm w R t
  le : W.heap.size ≤ R
  ne : B ≠ R
/-- What the calls of either turn. -/
def BR (B R i : Nat) : Prop := i = B ∨ i = R
section
variable {W w w' : World} {B R : Nat} {s t : QS}
theorem Fr.br1 (h : Fr (fun i => i = B) w w') : Fr (BR B R) w w' := h.mono fun _ _ e => .inl e
theorem Fr.br2 (h : Fr (fun i => i = R) w w') : Fr (BR B R) w w' := h.mono fun _ _ e => .inr e
theorem Bo.kept (h : Bo W w B s R t) (f : Fr (fun _ => False) w w') : Bo W w' B s R t := ⟨h.q.kept f, h.r.kept f, h.le, h.ne⟩
theorem Bo.alloc (h : Bo W w B s R t) (o : Obj) : Bo W (w.alloc o) B s R t := h.kept ((Fr.refl _ _).alloc o)
theorem Bo.drew (h : Bo W w B s R t) : Bo W w.drew B s R t := h.kept (Fr.refl _ _).drew
theorem Bo.step1 {s' : QS} (h : Bo W w B s R t) (k : Qn W w' B s') (f : Fr (fun i => i = B) w w') : Bo W w' B s' R t := ⟨k, h.r.carry f (fun e => h.ne e.symm), h.le, h.ne⟩
theorem Bo.step2 {t' : QS} (h : Bo W w B s R t) (k : Rm w' R t') (f : Fr (fun i => i = R) w w') : Bo W w' B s R t' := ⟨h.q.carry f h.ne (fun i e => by subst e; exact h.le), k, h.le, h.ne⟩
theorem p_res (h : Bo W w B s R t) {a b : Int} (r : Rt a b) : Calls Try.prog 12 #[.pointer (some ⟨B, 0, none⟩), .complex .f64 (fb a) (fb b)] w fun e w' => e = .returned (.int .i64 (resE s a b)) ∧ Bo W w' B (resS s a b) R t ∧ Fr (BR B R) w w' :=
  (n_res h.q r).mono fun _ _ ⟨he, hq, f⟩ => ⟨he, h.step1 hq f, f.br1⟩
theorem p_res_no (h : Bo W w B s R t) : Calls Try.prog 12 #[.pointer (some ⟨B, 0, none⟩), .complex .f64 13830554455654793216 0] w fun e w' => e = .returned (.int .i64 12) ∧ Bo W w' B s R t ∧ Fr (BR B R) w w' :=
  (n_res_no h.q wrong_raw).mono fun _ _ ⟨he, hq, f⟩ => ⟨he, h.step1 hq f, f.br1⟩
theorem d_res (h : Bo W w B s R t) {a b : Int} (r : Rt a b) : Calls Try.prog 28 #[.pointer (some ⟨R, 0, none⟩), .agg #[.int .i64 a, .int .i64 b]] w fun e w' => e = .returned (.int .i64 (resE t a b)) ∧ Bo W w' B s R (resS t a b) ∧ Fr (BR B R) w w' :=
  (e_reserve h.r r).mono fun _ _ ⟨he, hq, f⟩ => ⟨he, h.step2 hq f, f.br2⟩
theorem p_com (h : Bo W w B s R t) {a b : Int} (r : Rt a b) : Calls Try.prog 18 #[.pointer (some ⟨B, 0, none⟩), .complex .f64 (fb a) (fb b)] w fun e w' => e = .returned (.int .i64 (comE s a b)) ∧ Bo W w' B (comS s a b) R t ∧ Fr (BR B R) w w' :=
  (n_com h.q r).mono fun _ _ ⟨he, hq, f⟩ => ⟨he, h.step1 hq f, f.br1⟩
theorem p_com_no (h : Bo W w B s R t) : Calls Try.prog 18 #[.pointer (some ⟨B, 0, none⟩), .complex .f64 13830554455654793216 0] w fun e w' => e = .returned (.int .i64 12) ∧ Bo W w' B s R t ∧ Fr (BR B R) w w' :=
  (n_com_no h.q wrong_raw).mono fun _ _ ⟨he, hq, f⟩ => ⟨he, h.step1 hq f, f.br1⟩
theorem d_com (h : Bo W w B s R t) {a b : Int} (r : Rt a b) : Calls Try.prog 29 #[.pointer (some ⟨R, 0, none⟩), .agg #[.int .i64 a, .int .i64 b]] w fun e w' => e = .returned (.int .i64 (comE t a b)) ∧ Bo W w' B s R (comS t a b) ∧ Fr (BR B R) w w' :=
  (e_commit h.r r).mono fun _ _ ⟨he, hq, f⟩ => ⟨he, h.step2 hq f, f.br2⟩
theorem p_can (h : Bo W w B s R t) {a b : Int} (r : Rt a b) : Calls Try.prog 19 #[.pointer (some ⟨B, 0, none⟩), .complex .f64 (fb a) (fb b)] w fun e w' => e = .returned (.int .i64 (canE s a b)) ∧ Bo W w' B (canS s a b) R t ∧ Fr (BR B R) w w' :=
  (n_can h.q r).mono fun _ _ ⟨he, hq, f⟩ => ⟨he, h.step1 hq f, f.br1⟩
theorem p_can_no (h : Bo W w B s R t) : Calls Try.prog 19 #[.pointer (some ⟨B, 0, none⟩), .complex .f64 13830554455654793216 0] w fun e w' => e = .returned (.int .i64 12) ∧ Bo W w' B s R t ∧ Fr (BR B R) w w' :=
  (n_can_no h.q wrong_raw).mono fun _ _ ⟨he, hq, f⟩ => ⟨he, h.step1 hq f, f.br1⟩
theorem d_can (h : Bo W w B s R t) {a b : Int} (r : Rt a b) : Calls Try.prog 30 #[.pointer (some ⟨R, 0, none⟩), .agg #[.int .i64 a, .int .i64 b]] w fun e w' => e = .returned (.int .i64 (canE t a b)) ∧ Bo W w' B s R (canS t a b) ∧ Fr (BR B R) w w' :=
  (e_cancel h.r r).mono fun _ _ ⟨he, hq, f⟩ => ⟨he, h.step2 hq f, f.br2⟩
theorem p_ref (h : Bo W w B s R t) {a b : Int} (r : Rt a b) : Calls Try.prog 20 #[.pointer (some ⟨B, 0, none⟩), .complex .f64 (fb a) (fb b)] w fun e w' => e = .returned (.int .i64 (refE s a b)) ∧ Bo W w' B (refS s a b) R t ∧ Fr (BR B R) w w' :=
  (n_ref h.q r).mono fun _ _ ⟨he, hq, f⟩ => ⟨he, h.step1 hq f, f.br1⟩
theorem p_ref_no (h : Bo W w B s R t) : Calls Try.prog 20 #[.pointer (some ⟨B, 0, none⟩), .complex .f64 13830554455654793216 0] w fun e w' => e = .returned (.int .i64 12) ∧ Bo W w' B s R t ∧ Fr (BR B R) w w' :=
  (n_ref_no h.q wrong_raw).mono fun _ _ ⟨he, hq, f⟩ => ⟨he, h.step1 hq f, f.br1⟩
theorem d_ref (h : Bo W w B s R t) {a b : Int} (r : Rt a b) : Calls Try.prog 31 #[.pointer (some ⟨R, 0, none⟩), .agg #[.int .i64 a, .int .i64 b]] w fun e w' => e = .returned (.int .i64 (refE t a b)) ∧ Bo W w' B s R (refS t a b) ∧ Fr (BR B R) w w' :=
  (e_refund h.r r).mono fun _ _ ⟨he, hq, f⟩ => ⟨he, h.step2 hq f, f.br2⟩
theorem p_rsz (h : Bo W w B s R t) {a b : Int} (r : Rt a b) : Calls Try.prog 21 #[.pointer (some ⟨B, 0, none⟩), .complex .f64 (fb a) (fb b)] w fun e w' => e = .returned (.int .i64 (rszE s a b)) ∧ Bo W w' B (rszS s a b) R t ∧ Fr (BR B R) w w' :=
  (n_rsz h.q r).mono fun _ _ ⟨he, hq, f⟩ => ⟨he, h.step1 hq f, f.br1⟩
theorem p_rsz_no (h : Bo W w B s R t) : Calls Try.prog 21 #[.pointer (some ⟨B, 0, none⟩), .complex .f64 13830554455654793216 0] w fun e w' => e = .returned (.int .i64 12) ∧ Bo W w' B s R t ∧ Fr (BR B R) w w' :=
  (n_rsz_no h.q wrong_raw).mono fun _ _ ⟨he, hq, f⟩ => ⟨he, h.step1 hq f, f.br1⟩
theorem d_rsz (h : Bo W w B s R t) {a b : Int} (r : Rt a b) : Calls Try.prog 32 #[.pointer (some ⟨R, 0, none⟩), .agg #[.int .i64 a, .int .i64 b]] w fun e w' => e = .returned (.int .i64 (rszE t a b)) ∧ Bo W w' B s R (rszS t a b) ∧ Fr (BR B R) w w' :=
  (e_resize h.r r).mono fun _ _ ⟨he, hq, f⟩ => ⟨he, h.step2 hq f, f.br2⟩
set_option maxRecDepth 20000 in
set_option maxHeartbeats 1000000 in
theorem done_res (h : Bo W w B s R t) (a c : Int) (r : Rt a c) : Calls Try.prog 13 #[.pointer (some ⟨B, 0, none⟩), .pointer (some ⟨R, 0, none⟩), .agg #[.int .i64 1, .int .i64 a, .int .i64 c]] w fun e w' => ∃ v : Bool, e = .returned (.bool v) ∧ (s = t → v = true) ∧ Bo W w' B (stepS s 1 a c) R (stepS t 1 a c) ∧ Fr (BR B R) w w' := by
  have HO := hid fun w => o_yes r w
  have e1 : stepS s 1 a c = resS s a c := by unfold stepS; rw [if_pos r]; rfl
  have e2 : stepS t 1 a c = resS t a c := by unfold stepS; rw [if_pos r]; rfl
  rw [e1, e2]
  clear e1 e2
  have HB0 := hid (h.alloc (.cells #[.int .i64 1, .int .i64 a, .int .i64 c] 38))
  have HX := hid (Bx.new w 1 a c)
  have hxb : Hid (¬ BR B R w.heap.size) := fun e => by have := h.q.lt; have := h.r.lt; rcases e with e | e <;> omega
  have HF0 : Hid (Fr (BR B R) w (w.alloc (.cells #[.int .i64 1, .int .i64 a, .int .i64 c] 38))) := (Fr.refl _ _).alloc _
  have P1 := hid fun w (h : Bo W w B s R t) => p_res h r
  have P2 := hid fun w (h : Bo W w B (resS s a c) R t) => d_res h r
  have HV : Hid (s = t → (resE s a c == resE t a c) = true) := fun e => by subst e; simp
  clear h r
  generalize resS s a c = s' at *
  generalize resS t a c = t' at *
  generalize resE s a c = z1 at *
  generalize resE t a c = z2 at *
  generalize fb a = x at *
  generalize fb c = y at *
  go_enter Try.func13, Try.ntmps13
  go_wp2_with fail
  refine (HO.out _).mono ?_
  rintro e w1 ⟨rfl, f1⟩
  have HB1 := hid ((HB0.out.kept f1).alloc (.cells #[.int .i64 a, .int .i64 c] 26))
  have HX1 := hid ((HX.out.kept f1).alloc (.cells #[.int .i64 a, .int .i64 c] 26))
  have HA1 := hid (At.new w1 a c)
  have hab : Hid (¬ BR B R w1.heap.size) := fun e => by have := (HB0.out.kept f1).q.lt; have := (HB0.out.kept f1).r.lt; rcases e with e | e <;> omega
  have HF1 := hid ((HF0.out.trans (Fr.wide f1)).alloc (.cells #[.int .i64 a, .int .i64 c] 26))
  clear f1 HB0 HX HO HF0
  have q0 := HX1.out.c0
  go_wp2_with fail
  refine (P1.out _ HB1.out).mono ?_
  rintro e w2 ⟨rfl, hb, f2⟩
  have HB2 := hid hb
  have HA2 := hid (HA1.out.carry f2 hab.out)
  have HF2 := hid (HF1.out.trans f2)
  clear hb f2 HB1 HA1 HX1 q0 P1 HF1
  have c0 := HA2.out.c0
  have c1 := HA2.out.c1
  go_wp2_with fail
  refine (P2.out _ HB2.out).mono ?_
  rintro e w3 ⟨rfl, hb, f3⟩
  have HB3 := hid hb
  have HF3 := hid (HF2.out.trans f3)
  clear hb f3 HB2 HA2 c0 c1 P2 HF2
  go_wp2
  go_ret
  exact ⟨_, by simp, HV.out, HB3.out, HF3.out⟩
set_option maxRecDepth 20000 in
set_option maxHeartbeats 1000000 in
theorem done_res_no (h : Bo W w B s R t) (a c : Int) (r : ¬ Rt a c) : Calls Try.prog 13 #[.pointer (some ⟨B, 0, none⟩), .pointer (some ⟨R, 0, none⟩), .agg #[.int .i64 1, .int .i64 a, .int .i64 c]] w fun e w' => ∃ v : Bool, e = .returned (.bool v) ∧ (s = t → v = true) ∧ Bo W w' B (stepS s 1 a c) R (stepS t 1 a c) ∧ Fr (BR B R) w w' := by
  have HO := hid fun w => o_no r w
  have e1 : stepS s 1 a c = s := by unfold stepS; rw [if_neg r]
  have e2 : stepS t 1 a c = t := by unfold stepS; rw [if_neg r]
  rw [e1, e2]
  clear e1 e2 r
  have HB0 := hid (h.alloc (.cells #[.int .i64 1, .int .i64 a, .int .i64 c] 38))
  have HX := hid (Bx.new w 1 a c)
  have hxb : Hid (¬ BR B R w.heap.size) := fun e => by have := h.q.lt; have := h.r.lt; rcases e with e | e <;> omega
  have HF0 : Hid (Fr (BR B R) w (w.alloc (.cells #[.int .i64 1, .int .i64 a, .int .i64 c] 38))) := (Fr.refl _ _).alloc _
  have P1 := hid fun w (h : Bo W w B s R t) => p_res_no h
  clear h
  go_enter Try.func13, Try.ntmps13
  go_wp2_with fail
  refine (HO.out _).mono ?_
  rintro e w1 ⟨rfl, f1⟩
  have HB1 := hid ((HB0.out.kept f1).alloc (.cells #[.int .i64 0, .int .i64 0] 26))
  have HX1 := hid ((HX.out.kept f1).alloc (.cells #[.int .i64 0, .int .i64 0] 26))
  have HA1 := hid (At.new w1 0 0)
  have hab : Hid (¬ BR B R w1.heap.size) := fun e => by have := (HB0.out.kept f1).q.lt; have := (HB0.out.kept f1).r.lt; rcases e with e | e <;> omega
  have HF1 := hid ((HF0.out.trans (Fr.wide f1)).alloc (.cells #[.int .i64 0, .int .i64 0] 26))
  clear f1 HB0 HX HO HF0
  have q0 := HX1.out.c0
  go_wp2_with fail
  refine (P1.out _ HB1.out).mono ?_
  rintro e w2 ⟨rfl, hb, f2⟩
  have HB2 := hid hb
  have HF2 := hid (HF1.out.trans f2)
  clear hb f2 HB1 HA1 HX1 q0 P1 HF1
  go_wp2
  go_ret
  exact ⟨true, by simp, fun _ => rfl, HB2.out, HF2.out⟩
set_option maxRecDepth 20000 in
set_option maxHeartbeats 1000000 in
theorem done_com (h : Bo W w B s R t) (a c : Int) (r : Rt a c) : Calls Try.prog 13 #[.pointer (some ⟨B, 0, none⟩), .pointer (some ⟨R, 0, none⟩), .agg #[.int .i64 2, .int .i64 a, .int .i64 c]] w fun e w' => ∃ v : Bool, e = .returned (.bool v) ∧ (s = t → v = true) ∧ Bo W w' B (stepS s 2 a c) R (stepS t 2 a c) ∧ Fr (BR B R) w w' := by
  have HO := hid fun w => o_yes r w
  have e1 : stepS s 2 a c = comS s a c := by unfold stepS; rw [if_pos r]; rfl
  have e2 : stepS t 2 a c = comS t a c := by unfold stepS; rw [if_pos r]; rfl
  rw [e1, e2]
  clear e1 e2
  have HB0 := hid (h.alloc (.cells #[.int .i64 2, .int .i64 a, .int .i64 c] 38))
  have HX := hid (Bx.new w 2 a c)
  have hxb : Hid (¬ BR B R w.heap.size) := fun e => by have := h.q.lt; have := h.r.lt; rcases e with e | e <;> omega
  have HF0 : Hid (Fr (BR B R) w (w.alloc (.cells #[.int .i64 2, .int .i64 a, .int .i64 c] 38))) := (Fr.refl _ _).alloc _
  have P1 := hid fun w (h : Bo W w B s R t) => p_com h r
  have P2 := hid fun w (h : Bo W w B (comS s a c) R t) => d_com h r
  have HV : Hid (s = t → (comE s a c == comE t a c) = true) := fun e => by subst e; simp
  clear h r
  generalize comS s a c = s' at *
  generalize comS t a c = t' at *
  generalize comE s a c = z1 at *
  generalize comE t a c = z2 at *
  generalize fb a = x at *
  generalize fb c = y at *
  go_enter Try.func13, Try.ntmps13
  go_wp2_with fail
  refine (HO.out _).mono ?_
  rintro e w1 ⟨rfl, f1⟩
  have HB1 := hid ((HB0.out.kept f1).alloc (.cells #[.int .i64 a, .int .i64 c] 26))
  have HX1 := hid ((HX.out.kept f1).alloc (.cells #[.int .i64 a, .int .i64 c] 26))
  have HA1 := hid (At.new w1 a c)
  have hab : Hid (¬ BR B R w1.heap.size) := fun e => by have := (HB0.out.kept f1).q.lt; have := (HB0.out.kept f1).r.lt; rcases e with e | e <;> omega
  have HF1 := hid ((HF0.out.trans (Fr.wide f1)).alloc (.cells #[.int .i64 a, .int .i64 c] 26))
  clear f1 HB0 HX HO HF0
  have q0 := HX1.out.c0
  go_wp2_with fail
  refine (P1.out _ HB1.out).mono ?_
  rintro e w2 ⟨rfl, hb, f2⟩
  have HB2 := hid hb
  have HA2 := hid (HA1.out.carry f2 hab.out)
  have HF2 := hid (HF1.out.trans f2)
  clear hb f2 HB1 HA1 HX1 q0 P1 HF1
  have c0 := HA2.out.c0
  have c1 := HA2.out.c1
  go_wp2_with fail
  refine (P2.out _ HB2.out).mono ?_
  rintro e w3 ⟨rfl, hb, f3⟩
  have HB3 := hid hb
  have HF3 := hid (HF2.out.trans f3)
  clear hb f3 HB2 HA2 c0 c1 P2 HF2
  go_wp2
  go_ret
  exact ⟨_, by simp, HV.out, HB3.out, HF3.out⟩
set_option maxRecDepth 20000 in
set_option maxHeartbeats 1000000 in
theorem done_com_no (h : Bo W w B s R t) (a c : Int) (r : ¬ Rt a c) : Calls Try.prog 13 #[.pointer (some ⟨B, 0, none⟩), .pointer (some ⟨R, 0, none⟩), .agg #[.int .i64 2, .int .i64 a, .int .i64 c]] w fun e w' => ∃ v : Bool, e = .returned (.bool v) ∧ (s = t → v = true) ∧ Bo W w' B (stepS s 2 a c) R (stepS t 2 a c) ∧ Fr (BR B R) w w' := by
  have HO := hid fun w => o_no r w
  have e1 : stepS s 2 a c = s := by unfold stepS; rw [if_neg r]
  have e2 : stepS t 2 a c = t := by unfold stepS; rw [if_neg r]
  rw [e1, e2]
  clear e1 e2 r
  have HB0 := hid (h.alloc (.cells #[.int .i64 2, .int .i64 a, .int .i64 c] 38))
  have HX := hid (Bx.new w 2 a c)
  have hxb : Hid (¬ BR B R w.heap.size) := fun e => by have := h.q.lt; have := h.r.lt; rcases e with e | e <;> omega
  have HF0 : Hid (Fr (BR B R) w (w.alloc (.cells #[.int .i64 2, .int .i64 a, .int .i64 c] 38))) := (Fr.refl _ _).alloc _
  have P1 := hid fun w (h : Bo W w B s R t) => p_com_no h
  clear h
  go_enter Try.func13, Try.ntmps13
  go_wp2_with fail
  refine (HO.out _).mono ?_
  rintro e w1 ⟨rfl, f1⟩
  have HB1 := hid ((HB0.out.kept f1).alloc (.cells #[.int .i64 0, .int .i64 0] 26))
  have HX1 := hid ((HX.out.kept f1).alloc (.cells #[.int .i64 0, .int .i64 0] 26))
  have HA1 := hid (At.new w1 0 0)
  have hab : Hid (¬ BR B R w1.heap.size) := fun e => by have := (HB0.out.kept f1).q.lt; have := (HB0.out.kept f1).r.lt; rcases e with e | e <;> omega
  have HF1 := hid ((HF0.out.trans (Fr.wide f1)).alloc (.cells #[.int .i64 0, .int .i64 0] 26))
  clear f1 HB0 HX HO HF0
  have q0 := HX1.out.c0
  go_wp2_with fail
  refine (P1.out _ HB1.out).mono ?_
  rintro e w2 ⟨rfl, hb, f2⟩
  have HB2 := hid hb
  have HF2 := hid (HF1.out.trans f2)
  clear hb f2 HB1 HA1 HX1 q0 P1 HF1
  go_wp2
  go_ret
  exact ⟨true, by simp, fun _ => rfl, HB2.out, HF2.out⟩
set_option maxRecDepth 20000 in
set_option maxHeartbeats 1000000 in
theorem done_can (h : Bo W w B s R t) (a c : Int) (r : Rt a c) : Calls Try.prog 13 #[.pointer (some ⟨B, 0, none⟩), .pointer (some ⟨R, 0, none⟩), .agg #[.int .i64 3, .int .i64 a, .int .i64 c]] w fun e w' => ∃ v : Bool, e = .returned (.bool v) ∧ (s = t → v = true) ∧ Bo W w' B (stepS s 3 a c) R (stepS t 3 a c) ∧ Fr (BR B R) w w' := by
  have HO := hid fun w => o_yes r w
  have e1 : stepS s 3 a c = canS s a c := by unfold stepS; rw [if_pos r]; rfl
  have e2 : stepS t 3 a c = canS t a c := by unfold stepS; rw [if_pos r]; rfl
  rw [e1, e2]
  clear e1 e2
  have HB0 := hid (h.alloc (.cells #[.int .i64 3, .int .i64 a, .int .i64 c] 38))
  have HX := hid (Bx.new w 3 a c)
  have hxb : Hid (¬ BR B R w.heap.size) := fun e => by have := h.q.lt; have := h.r.lt; rcases e with e | e <;> omega
  have HF0 : Hid (Fr (BR B R) w (w.alloc (.cells #[.int .i64 3, .int .i64 a, .int .i64 c] 38))) := (Fr.refl _ _).alloc _
  have P1 := hid fun w (h : Bo W w B s R t) => p_can h r
  have P2 := hid fun w (h : Bo W w B (canS s a c) R t) => d_can h r
  have HV : Hid (s = t → (canE s a c == canE t a c) = true) := fun e => by subst e; simp
  clear h r
  generalize canS s a c = s' at *
  generalize canS t a c = t' at *
  generalize canE s a c = z1 at *
  generalize canE t a c = z2 at *
  generalize fb a = x at *
  generalize fb c = y at *
  go_enter Try.func13, Try.ntmps13
  go_wp2_with fail
  refine (HO.out _).mono ?_
  rintro e w1 ⟨rfl, f1⟩
  have HB1 := hid ((HB0.out.kept f1).alloc (.cells #[.int .i64 a, .int .i64 c] 26))
  have HX1 := hid ((HX.out.kept f1).alloc (.cells #[.int .i64 a, .int .i64 c] 26))
  have HA1 := hid (At.new w1 a c)
  have hab : Hid (¬ BR B R w1.heap.size) := fun e => by have := (HB0.out.kept f1).q.lt; have := (HB0.out.kept f1).r.lt; rcases e with e | e <;> omega
  have HF1 := hid ((HF0.out.trans (Fr.wide f1)).alloc (.cells #[.int .i64 a, .int .i64 c] 26))
  clear f1 HB0 HX HO HF0
  have q0 := HX1.out.c0
  go_wp2_with fail
  refine (P1.out _ HB1.out).mono ?_
  rintro e w2 ⟨rfl, hb, f2⟩
  have HB2 := hid hb
  have HA2 := hid (HA1.out.carry f2 hab.out)
  have HF2 := hid (HF1.out.trans f2)
  clear hb f2 HB1 HA1 HX1 q0 P1 HF1
  have c0 := HA2.out.c0
  have c1 := HA2.out.c1
  go_wp2_with fail
  refine (P2.out _ HB2.out).mono ?_
  rintro e w3 ⟨rfl, hb, f3⟩
  have HB3 := hid hb
  have HF3 := hid (HF2.out.trans f3)
  clear hb f3 HB2 HA2 c0 c1 P2 HF2
  go_wp2
  go_ret
  exact ⟨_, by simp, HV.out, HB3.out, HF3.out⟩
set_option maxRecDepth 20000 in
set_option maxHeartbeats 1000000 in
theorem done_can_no (h : Bo W w B s R t) (a c : Int) (r : ¬ Rt a c) : Calls Try.prog 13 #[.pointer (some ⟨B, 0, none⟩), .pointer (some ⟨R, 0, none⟩), .agg #[.int .i64 3, .int .i64 a, .int .i64 c]] w fun e w' => ∃ v : Bool, e = .returned (.bool v) ∧ (s = t → v = true) ∧ Bo W w' B (stepS s 3 a c) R (stepS t 3 a c) ∧ Fr (BR B R) w w' := by
  have HO := hid fun w => o_no r w
  have e1 : stepS s 3 a c = s := by unfold stepS; rw [if_neg r]
  have e2 : stepS t 3 a c = t := by unfold stepS; rw [if_neg r]
  rw [e1, e2]
  clear e1 e2 r
  have HB0 := hid (h.alloc (.cells #[.int .i64 3, .int .i64 a, .int .i64 c] 38))
  have HX := hid (Bx.new w 3 a c)
  have hxb : Hid (¬ BR B R w.heap.size) := fun e => by have := h.q.lt; have := h.r.lt; rcases e with e | e <;> omega
  have HF0 : Hid (Fr (BR B R) w (w.alloc (.cells #[.int .i64 3, .int .i64 a, .int .i64 c] 38))) := (Fr.refl _ _).alloc _
  have P1 := hid fun w (h : Bo W w B s R t) => p_can_no h
  clear h
  go_enter Try.func13, Try.ntmps13
  go_wp2_with fail
  refine (HO.out _).mono ?_
  rintro e w1 ⟨rfl, f1⟩
  have HB1 := hid ((HB0.out.kept f1).alloc (.cells #[.int .i64 0, .int .i64 0] 26))
  have HX1 := hid ((HX.out.kept f1).alloc (.cells #[.int .i64 0, .int .i64 0] 26))
  have HA1 := hid (At.new w1 0 0)
  have hab : Hid (¬ BR B R w1.heap.size) := fun e => by have := (HB0.out.kept f1).q.lt; have := (HB0.out.kept f1).r.lt; rcases e with e | e <;> omega
  have HF1 := hid ((HF0.out.trans (Fr.wide f1)).alloc (.cells #[.int .i64 0, .int .i64 0] 26))
  clear f1 HB0 HX HO HF0
  have q0 := HX1.out.c0
  go_wp2_with fail
  refine (P1.out _ HB1.out).mono ?_
  rintro e w2 ⟨rfl, hb, f2⟩
  have HB2 := hid hb
  have HF2 := hid (HF1.out.trans f2)
  clear hb f2 HB1 HA1 HX1 q0 P1 HF1
  go_wp2
  go_ret
  exact ⟨true, by simp, fun _ => rfl, HB2.out, HF2.out⟩
set_option maxRecDepth 20000 in
set_option maxHeartbeats 1000000 in
theorem done_ref (h : Bo W w B s R t) (a c : Int) (r : Rt a c) : Calls Try.prog 13 #[.pointer (some ⟨B, 0, none⟩), .pointer (some ⟨R, 0, none⟩), .agg #[.int .i64 4, .int .i64 a, .int .i64 c]] w fun e w' => ∃ v : Bool, e = .returned (.bool v) ∧ (s = t → v = true) ∧ Bo W w' B (stepS s 4 a c) R (stepS t 4 a c) ∧ Fr (BR B R) w w' := by
  have HO := hid fun w => o_yes r w
  have e1 : stepS s 4 a c = refS s a c := by unfold stepS; rw [if_pos r]; rfl
  have e2 : stepS t 4 a c = refS t a c := by unfold stepS; rw [if_pos r]; rfl
  rw [e1, e2]
  clear e1 e2
  have HB0 := hid (h.alloc (.cells #[.int .i64 4, .int .i64 a, .int .i64 c] 38))
  have HX := hid (Bx.new w 4 a c)
  have hxb : Hid (¬ BR B R w.heap.size) := fun e => by have := h.q.lt; have := h.r.lt; rcases e with e | e <;> omega
  have HF0 : Hid (Fr (BR B R) w (w.alloc (.cells #[.int .i64 4, .int .i64 a, .int .i64 c] 38))) := (Fr.refl _ _).alloc _
  have P1 := hid fun w (h : Bo W w B s R t) => p_ref h r
  have P2 := hid fun w (h : Bo W w B (refS s a c) R t) => d_ref h r
  have HV : Hid (s = t → (refE s a c == refE t a c) = true) := fun e => by subst e; simp
  clear h r
  generalize refS s a c = s' at *
  generalize refS t a c = t' at *
  generalize refE s a c = z1 at *
  generalize refE t a c = z2 at *
  generalize fb a = x at *
  generalize fb c = y at *
  go_enter Try.func13, Try.ntmps13
  go_wp2_with fail
  refine (HO.out _).mono ?_
  rintro e w1 ⟨rfl, f1⟩
  have HB1 := hid ((HB0.out.kept f1).alloc (.cells #[.int .i64 a, .int .i64 c] 26))
  have HX1 := hid ((HX.out.kept f1).alloc (.cells #[.int .i64 a, .int .i64 c] 26))
  have HA1 := hid (At.new w1 a c)
  have hab : Hid (¬ BR B R w1.heap.size) := fun e => by have := (HB0.out.kept f1).q.lt; have := (HB0.out.kept f1).r.lt; rcases e with e | e <;> omega
  have HF1 := hid ((HF0.out.trans (Fr.wide f1)).alloc (.cells #[.int .i64 a, .int .i64 c] 26))
  clear f1 HB0 HX HO HF0
  have q0 := HX1.out.c0
  go_wp2_with fail
  refine (P1.out _ HB1.out).mono ?_
  rintro e w2 ⟨rfl, hb, f2⟩
  have HB2 := hid hb
  have HA2 := hid (HA1.out.carry f2 hab.out)
  have HF2 := hid (HF1.out.trans f2)
  clear hb f2 HB1 HA1 HX1 q0 P1 HF1
  have c0 := HA2.out.c0
  have c1 := HA2.out.c1
  go_wp2_with fail
  refine (P2.out _ HB2.out).mono ?_
  rintro e w3 ⟨rfl, hb, f3⟩
  have HB3 := hid hb
  have HF3 := hid (HF2.out.trans f3)
  clear hb f3 HB2 HA2 c0 c1 P2 HF2
  go_wp2
  go_ret
  exact ⟨_, by simp, HV.out, HB3.out, HF3.out⟩
set_option maxRecDepth 20000 in
set_option maxHeartbeats 1000000 in
theorem done_ref_no (h : Bo W w B s R t) (a c : Int) (r : ¬ Rt a c) : Calls Try.prog 13 #[.pointer (some ⟨B, 0, none⟩), .pointer (some ⟨R, 0, none⟩), .agg #[.int .i64 4, .int .i64 a, .int .i64 c]] w fun e w' => ∃ v : Bool, e = .returned (.bool v) ∧ (s = t → v = true) ∧ Bo W w' B (stepS s 4 a c) R (stepS t 4 a c) ∧ Fr (BR B R) w w' := by
  have HO := hid fun w => o_no r w
  have e1 : stepS s 4 a c = s := by unfold stepS; rw [if_neg r]
  have e2 : stepS t 4 a c = t := by unfold stepS; rw [if_neg r]
  rw [e1, e2]
  clear e1 e2 r
  have HB0 := hid (h.alloc (.cells #[.int .i64 4, .int .i64 a, .int .i64 c] 38))
  have HX := hid (Bx.new w 4 a c)
  have hxb : Hid (¬ BR B R w.heap.size) := fun e => by have := h.q.lt; have := h.r.lt; rcases e with e | e <;> omega
  have HF0 : Hid (Fr (BR B R) w (w.alloc (.cells #[.int .i64 4, .int .i64 a, .int .i64 c] 38))) := (Fr.refl _ _).alloc _
  have P1 := hid fun w (h : Bo W w B s R t) => p_ref_no h
  clear h
  go_enter Try.func13, Try.ntmps13
  go_wp2_with fail
  refine (HO.out _).mono ?_
  rintro e w1 ⟨rfl, f1⟩
  have HB1 := hid ((HB0.out.kept f1).alloc (.cells #[.int .i64 0, .int .i64 0] 26))
  have HX1 := hid ((HX.out.kept f1).alloc (.cells #[.int .i64 0, .int .i64 0] 26))
  have HA1 := hid (At.new w1 0 0)
  have hab : Hid (¬ BR B R w1.heap.size) := fun e => by have := (HB0.out.kept f1).q.lt; have := (HB0.out.kept f1).r.lt; rcases e with e | e <;> omega
  have HF1 := hid ((HF0.out.trans (Fr.wide f1)).alloc (.cells #[.int .i64 0, .int .i64 0] 26))
  clear f1 HB0 HX HO HF0
  have q0 := HX1.out.c0
  go_wp2_with fail
  refine (P1.out _ HB1.out).mono ?_
  rintro e w2 ⟨rfl, hb, f2⟩
  have HB2 := hid hb
  have HF2 := hid (HF1.out.trans f2)
  clear hb f2 HB1 HA1 HX1 q0 P1 HF1
  go_wp2
  go_ret
  exact ⟨true, by simp, fun _ => rfl, HB2.out, HF2.out⟩
set_option maxRecDepth 20000 in
set_option maxHeartbeats 1000000 in
theorem done_rsz (h : Bo W w B s R t) (a c : Int) (r : Rt a c) : Calls Try.prog 13 #[.pointer (some ⟨B, 0, none⟩), .pointer (some ⟨R, 0, none⟩), .agg #[.int .i64 5, .int .i64 a, .int .i64 c]] w fun e w' => ∃ v : Bool, e = .returned (.bool v) ∧ (s = t → v = true) ∧ Bo W w' B (stepS s 5 a c) R (stepS t 5 a c) ∧ Fr (BR B R) w w' := by
  have HO := hid fun w => o_yes r w
  have e1 : stepS s 5 a c = rszS s a c := by unfold stepS; rw [if_pos r]; rfl
  have e2 : stepS t 5 a c = rszS t a c := by unfold stepS; rw [if_pos r]; rfl
  rw [e1, e2]
  clear e1 e2
  have HB0 := hid (h.alloc (.cells #[.int .i64 5, .int .i64 a, .int .i64 c] 38))
  have HX := hid (Bx.new w 5 a c)
  have hxb : Hid (¬ BR B R w.heap.size) := fun e => by have := h.q.lt; have := h.r.lt; rcases e with e | e <;> omega
  have HF0 : Hid (Fr (BR B R) w (w.alloc (.cells #[.int .i64 5, .int .i64 a, .int .i64 c] 38))) := (Fr.refl _ _).alloc _
  have P1 := hid fun w (h : Bo W w B s R t) => p_rsz h r
  have P2 := hid fun w (h : Bo W w B (rszS s a c) R t) => d_rsz h r
  have HV : Hid (s = t → (rszE s a c == rszE t a c) = true) := fun e => by subst e; simp
  clear h r
  generalize rszS s a c = s' at *
  generalize rszS t a c = t' at *
  generalize rszE s a c = z1 at *
  generalize rszE t a c = z2 at *
  generalize fb a = x at *
  generalize fb c = y at *
  go_enter Try.func13, Try.ntmps13
  go_wp2_with fail
  refine (HO.out _).mono ?_
  rintro e w1 ⟨rfl, f1⟩
  have HB1 := hid ((HB0.out.kept f1).alloc (.cells #[.int .i64 a, .int .i64 c] 26))
  have HX1 := hid ((HX.out.kept f1).alloc (.cells #[.int .i64 a, .int .i64 c] 26))
  have HA1 := hid (At.new w1 a c)
  have hab : Hid (¬ BR B R w1.heap.size) := fun e => by have := (HB0.out.kept f1).q.lt; have := (HB0.out.kept f1).r.lt; rcases e with e | e <;> omega
  have HF1 := hid ((HF0.out.trans (Fr.wide f1)).alloc (.cells #[.int .i64 a, .int .i64 c] 26))
  clear f1 HB0 HX HO HF0
  have q0 := HX1.out.c0
  go_wp2_with fail
  refine (P1.out _ HB1.out).mono ?_
  rintro e w2 ⟨rfl, hb, f2⟩
  have HB2 := hid hb
  have HA2 := hid (HA1.out.carry f2 hab.out)
  have HF2 := hid (HF1.out.trans f2)
  clear hb f2 HB1 HA1 HX1 q0 P1 HF1
  have c0 := HA2.out.c0
  have c1 := HA2.out.c1
  go_wp2_with fail
  refine (P2.out _ HB2.out).mono ?_
  rintro e w3 ⟨rfl, hb, f3⟩
  have HB3 := hid hb
  have HF3 := hid (HF2.out.trans f3)
  clear hb f3 HB2 HA2 c0 c1 P2 HF2
  go_wp2
  go_ret
  exact ⟨_, by simp, HV.out, HB3.out, HF3.out⟩
set_option maxRecDepth 20000 in
set_option maxHeartbeats 1000000 in
theorem done_rsz_no (h : Bo W w B s R t) (a c : Int) (r : ¬ Rt a c) : Calls Try.prog 13 #[.pointer (some ⟨B, 0, none⟩), .pointer (some ⟨R, 0, none⟩), .agg #[.int .i64 5, .int .i64 a, .int .i64 c]] w fun e w' => ∃ v : Bool, e = .returned (.bool v) ∧ (s = t → v = true) ∧ Bo W w' B (stepS s 5 a c) R (stepS t 5 a c) ∧ Fr (BR B R) w w' := by
  have HO := hid fun w => o_no r w
  have e1 : stepS s 5 a c = s := by unfold stepS; rw [if_neg r]
  have e2 : stepS t 5 a c = t := by unfold stepS; rw [if_neg r]
  rw [e1, e2]
  clear e1 e2 r
  have HB0 := hid (h.alloc (.cells #[.int .i64 5, .int .i64 a, .int .i64 c] 38))
  have HX := hid (Bx.new w 5 a c)
  have hxb : Hid (¬ BR B R w.heap.size) := fun e => by have := h.q.lt; have := h.r.lt; rcases e with e | e <;> omega
  have HF0 : Hid (Fr (BR B R) w (w.alloc (.cells #[.int .i64 5, .int .i64 a, .int .i64 c] 38))) := (Fr.refl _ _).alloc _
  have P1 := hid fun w (h : Bo W w B s R t) => p_rsz_no h
  clear h
  go_enter Try.func13, Try.ntmps13
  go_wp2_with fail
  refine (HO.out _).mono ?_
  rintro e w1 ⟨rfl, f1⟩
  have HB1 := hid ((HB0.out.kept f1).alloc (.cells #[.int .i64 0, .int .i64 0] 26))
  have HX1 := hid ((HX.out.kept f1).alloc (.cells #[.int .i64 0, .int .i64 0] 26))
  have HA1 := hid (At.new w1 0 0)
  have hab : Hid (¬ BR B R w1.heap.size) := fun e => by have := (HB0.out.kept f1).q.lt; have := (HB0.out.kept f1).r.lt; rcases e with e | e <;> omega
  have HF1 := hid ((HF0.out.trans (Fr.wide f1)).alloc (.cells #[.int .i64 0, .int .i64 0] 26))
  clear f1 HB0 HX HO HF0
  have q0 := HX1.out.c0
  go_wp2_with fail
  refine (P1.out _ HB1.out).mono ?_
  rintro e w2 ⟨rfl, hb, f2⟩
  have HB2 := hid hb
  have HF2 := hid (HF1.out.trans f2)
  clear hb f2 HB1 HA1 HX1 q0 P1 HF1
  go_wp2
  go_ret
  exact ⟨true, by simp, fun _ => rfl, HB2.out, HF2.out⟩
set_option maxRecDepth 20000 in
set_option maxHeartbeats 1000000 in
theorem done_none (h : Bo W w B s R t) (kind a c : Int) (hk : kind < 1 ∨ 5 < kind) : Calls Try.prog 13 #[.pointer (some ⟨B, 0, none⟩), .pointer (some ⟨R, 0, none⟩), .agg #[.int .i64 kind, .int .i64 a, .int .i64 c]] w fun e w' => ∃ v : Bool, e = .returned (.bool v) ∧ (s = t → v = true) ∧ Bo W w' B (stepS s kind a c) R (stepS t kind a c) ∧ Fr (BR B R) w w' := by
  have HO := hid fun w => o_all a c w
  rw [stepS_none hk, stepS_none hk]
  have n1 : (kind == 1) = false := by simp; omega
  have n2 : (kind == 2) = false := by simp; omega
  have n3 : (kind == 3) = false := by simp; omega
  have n4 : (kind == 4) = false := by simp; omega
  have n5 : (kind == 5) = false := by simp; omega
  clear hk
  have HB0 := hid (h.alloc (.cells #[.int .i64 kind, .int .i64 a, .int .i64 c] 38))
  have HX := hid (Bx.new w kind a c)
  have hxb : Hid (¬ BR B R w.heap.size) := fun e => by have := h.q.lt; have := h.r.lt; rcases e with e | e <;> omega
  have HF0 : Hid (Fr (BR B R) w (w.alloc (.cells #[.int .i64 kind, .int .i64 a, .int .i64 c] 38))) := (Fr.refl _ _).alloc _
  clear h
  go_enter Try.func13, Try.ntmps13
  go_wp2_with fail
  refine (HO.out _).mono ?_
  rintro e w1 ⟨rfl, f1⟩
  have HB1 := hid ((HB0.out.kept f1).alloc (.cells #[.int .i64 (okA a c), .int .i64 (okB a c)] 26))
  have HX1 := hid ((HX.out.kept f1).alloc (.cells #[.int .i64 (okA a c), .int .i64 (okB a c)] 26))
  have HA1 := hid (At.new w1 (okA a c) (okB a c))
  have hab : Hid (¬ BR B R w1.heap.size) := fun e => by have := (HB0.out.kept f1).q.lt; have := (HB0.out.kept f1).r.lt; rcases e with e | e <;> omega
  have HF1 := hid ((HF0.out.trans (Fr.wide f1)).alloc (.cells #[.int .i64 (okA a c), .int .i64 (okB a c)] 26))
  clear f1 HB0 HX HO HF0
  have q0 := HX1.out.c0
  go_wp2
  go_ret
  exact ⟨true, by simp, fun _ => rfl, HB1.out, HF1.out⟩
theorem done_any (h : Bo W w B s R t) (kind a c : Int)  : Calls Try.prog 13 #[.pointer (some ⟨B, 0, none⟩), .pointer (some ⟨R, 0, none⟩), .agg #[.int .i64 kind, .int .i64 a, .int .i64 c]] w fun e w' => ∃ v : Bool, e = .returned (.bool v) ∧ (s = t → v = true) ∧ Bo W w' B (stepS s kind a c) R (stepS t kind a c) ∧ Fr (BR B R) w w' := by
  by_cases k1 : kind = 1
  · subst k1
    by_cases r : Rt a c
    · exact done_res h a c r
    · exact done_res_no h a c r
  by_cases k2 : kind = 2
  · subst k2
    by_cases r : Rt a c
    · exact done_com h a c r
    · exact done_com_no h a c r
  by_cases k3 : kind = 3
  · subst k3
    by_cases r : Rt a c
    · exact done_can h a c r
    · exact done_can_no h a c r
  by_cases k4 : kind = 4
  · subst k4
    by_cases r : Rt a c
    · exact done_ref h a c r
    · exact done_ref_no h a c r
  by_cases k5 : kind = 5
  · subst k5
    by_cases r : Rt a c
    · exact done_rsz h a c r
    · exact done_rsz_no h a c r
  exact done_none h kind a c (by omega)
theorem done_same (h : Bo W w B s R s) (kind a c : Int) : Calls Try.prog 13 #[.pointer (some ⟨B, 0, none⟩), .pointer (some ⟨R, 0, none⟩), .agg #[.int .i64 kind, .int .i64 a, .int .i64 c]] w fun e w' => e = .returned (.bool true) ∧ Bo W w' B (stepS s kind a c) R (stepS s kind a c) ∧ Fr (BR B R) w w' :=
  (done_any h kind a c).mono fun _ _ ⟨_, he, hv, hb, f⟩ => ⟨by rw [he, hv rfl], hb, f⟩
end
end Go.Proofs.Ytnlaocokjilncaa
