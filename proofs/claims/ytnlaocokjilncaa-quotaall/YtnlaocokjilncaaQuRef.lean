/-
  What the document's own quota does.
-/
import Derived.Test.YtnlaocokjilncaaQuMem
import Derived.BigRegion
namespace Go.Proofs.Ytnlaocokjilncaa
open Go.RowKit

theorem Rm.behind {w w' : World} {R : Nat} {s : QS} (h : Rm w R s) (f : Fr (fun _ => False) w.drew w') : Rm w' R s := (h.kept (Fr.refl _ w).drew).kept f
theorem At.behind {w w' : World} {B : Nat} {a b : Int} (h : At w B a b) (f : Fr (fun _ => False) w.drew w') : At w' B a b := (h.kept (Fr.refl _ w).drew).kept f
theorem wrap_at (n : Int) (h0 : 0 ≤ n) (h1 : n ≤ 9223372036854775807) : IntKind.i64.wrap n = n := by rw [IntKind.wrap_i64]; omega
section
variable {w : World} {R : Nat} {s : QS}
set_option maxRecDepth 20000 in
theorem e_all (h : Rm w R s) {a b : Int} (r : Rt a b) : Calls Try.prog 40 #[.pointer (some ⟨R, 0, none⟩), .agg #[.int .i64 a, .int .i64 b]] w fun e w' => e = .returned (.agg #[.int .i64 (s.cb + s.rb + a), .int .i64 (s.cp + s.rp + b)]) ∧ Fr (fun _ => False) w w' := by
  obtain ⟨o1, o2, o3, o4, o5, o6, o7⟩ := h.ok
  have h1 := h.alloc (.cells #[.int .i64 a, .int .i64 b] 26)
  have A := At.new w a b
  have c2 := fun o => (h1.alloc o).c2
  have c3 := fun o => (h1.alloc o).c3
  have c4 := fun o => (h1.alloc o).c4
  have c5 := fun o => (h1.alloc o).c5
  have a0 := fun o => (A.alloc o).c0
  have a1 := fun o => (A.alloc o).c1
  have B := At.new (w.alloc (.cells #[.int .i64 a, .int .i64 b] 26)) 0 0
  have b0 := B.c0
  have b1 := B.c1
  have g0 := B.g 0
  have g1 := B.g 1
  have hlt := h.lt
  have hne : R ≠ w.heap.size + 1 := by omega
  simp only [World.size_alloc] at b0 b1 g0 g1
  have HF : Hid (Fr (fun k => w.heap.size ≤ k) w ((w.alloc (.cells #[.int .i64 a, .int .i64 b] 26)).alloc (.cells #[.int .i64 0, .int .i64 0] 26))) := ((Fr.refl _ _).alloc _).alloc _
  clear A B h h1 hlt
  unfold Rt at r o1
  obtain ⟨lb, lp, cb, cp, rb, rp⟩ := s
  simp only at *
  have e1 := wrap_at (cb + rb) (by omega) (by omega)
  have e2 := wrap_at (cp + rp) (by omega) (by omega)
  have e3 := wrap_at (cb + rb + a) (by omega) (by omega)
  have e4 := wrap_at (cp + rp + b) (by omega) (by omega)
  clear r o1 o2 o3 o4 o5 o6 o7
  go_enter Try.func40, Try.ntmps40
  go_wp2
  go_region_held (fun w' => w'.cell? ⟨R, 2, none⟩ = some (.int .i64 cb) ∧ w'.cell? ⟨R, 3, none⟩ = some (.int .i64 cp) ∧ w'.cell? ⟨R, 4, none⟩ = some (.int .i64 rb) ∧ w'.cell? ⟨R, 5, none⟩ = some (.int .i64 rp) ∧ w'.cell? ⟨w.heap.size, 0, none⟩ = some (.int .i64 a) ∧ w'.cell? ⟨w.heap.size, 1, none⟩ = some (.int .i64 b)) (go_keep) (fail)
  go_wp2
  exact bodyPost_ret (v := .agg #[.int .i64 (cb + rb + a), .int .i64 (cp + rp + b)]) (by simp [results, Try.results40, go_sem]) rfl ⟨rfl, (((Fr.refl _ _).alloc _).alloc _).drew⟩
set_option maxRecDepth 20000 in
set_option maxHeartbeats 1000000 in
theorem e_cancel (h : Rm w R s) {a b : Int} (r : Rt a b) : Calls Try.prog 30 #[.pointer (some ⟨R, 0, none⟩), .agg #[.int .i64 a, .int .i64 b]] w fun e w' => e = .returned (.int .i64 (canE s a b)) ∧ Rm w' R (canS s a b) ∧ Fr (fun i => i = R) w w' := by
  have h1 := h.alloc (.cells #[.int .i64 a, .int .i64 b] 26)
  have HF := hid fun w => r_fits a b s.rb s.rp w
  have A := At.new w a b
  have hlt := h.lt
  by_cases hh : s.Had a b
  · have HR := hid (canS_ok h.ok r)
    have e1 : Hid (canE s a b = 0) := by show _ = _; unfold canE; rw [if_pos hh]
    have e2 : canS s a b = ⟨s.lb, s.lp, s.cb, s.cp, s.rb - a, s.rp - b⟩ := by unfold canS; rw [if_pos hh]
    have E2 := hid e2
    rw [decide_eq_true (p := a ≤ s.rb ∧ b ≤ s.rp) hh] at HF
    obtain ⟨o1, o2, o3, o4, o5, o6, o7⟩ := h.ok
    have H1 := hid h1
    have HA := hid A
    have c4 := h1.c4
    have c5 := h1.c5
    have a0 := A.c0
    have a1 := A.c1
    clear e2 h h1 A
    unfold QS.Had at hh
    unfold Rt at r o1
    go_enter Try.func30, Try.ntmps30
    go_wp2_with fail
    go_region_held (fun w' => w'.cell? ⟨R, 4, none⟩ = some (.int .i64 s.rb) ∧ w'.cell? ⟨R, 5, none⟩ = some (.int .i64 s.rp) ∧ w'.cell? ⟨w.heap.size, 0, none⟩ = some (.int .i64 a) ∧ w'.cell? ⟨w.heap.size, 1, none⟩ = some (.int .i64 b)) (go_keep) (first | (go_at_call 39; refine (HF.out _).mono ?_; rintro e w1 ⟨rfl, f1⟩; have H2 := hid (H1.out.behind f1); have HA2 := hid (HA.out.behind f1); have k0 := H2.out.c4; have k1 := H2.out.c5; have l0 := HA2.out.c0; have l1 := HA2.out.c1; have HF1 := hid (Fr.trans ((Fr.refl (fun i => i = R) w).alloc _).drew (Fr.wide f1)); clear f1))
    clear c4 c5 a0 a1 HF
    have d1 := wrap_at (s.rb - a) (by omega) (by omega)
    have d2 := wrap_at (s.rp - b) (by omega) (by omega)
    have g0 := H2.out.g 4
    have g1 := H2.out.g 5
    go_wp2
    go_region
    go_wp2
    go_ret
    exact ⟨by rw [e1.out]; rfl, by rw [E2.out] at HR ⊢; exact (H2.out.put4 HR.out).kept (Fr.refl _ _).drew, ((HF1.out.setCell rfl _).setCell rfl _).drew⟩
  · have e1 : Hid (canE s a b = 12) := by show _ = _; unfold canE; rw [if_neg hh]
    have e2 : Hid (canS s a b = s) := by show _ = _; unfold canS; rw [if_neg hh]
    rw [decide_eq_false (p := a ≤ s.rb ∧ b ≤ s.rp) hh] at HF
    have H1 := hid h1
    have HA := hid A
    have c4 := h1.c4
    have c5 := h1.c5
    have a0 := A.c0
    have a1 := A.c1
    clear h h1 A hh r
    go_enter Try.func30, Try.ntmps30
    go_wp2_with fail
    go_region_held (fun w' => w'.cell? ⟨R, 4, none⟩ = some (.int .i64 s.rb) ∧ w'.cell? ⟨R, 5, none⟩ = some (.int .i64 s.rp) ∧ w'.cell? ⟨w.heap.size, 0, none⟩ = some (.int .i64 a) ∧ w'.cell? ⟨w.heap.size, 1, none⟩ = some (.int .i64 b)) (go_keep) (first | (go_at_call 39; refine (HF.out _).mono ?_; rintro e w1 ⟨rfl, f1⟩; have H2 := hid (H1.out.behind f1); have HA2 := hid (HA.out.behind f1); have k0 := H2.out.c4; have k1 := H2.out.c5; have l0 := HA2.out.c0; have l1 := HA2.out.c1; have HF1 := hid (Fr.trans ((Fr.refl (fun i => i = R) w).alloc _).drew (Fr.wide f1)); clear f1))
    go_wp2
    go_ret
    exact ⟨by rw [e1.out]; rfl, by rw [e2.out]; exact H2.out, HF1.out⟩
set_option maxRecDepth 20000 in
set_option maxHeartbeats 1000000 in
theorem e_refund (h : Rm w R s) {a b : Int} (r : Rt a b) : Calls Try.prog 31 #[.pointer (some ⟨R, 0, none⟩), .agg #[.int .i64 a, .int .i64 b]] w fun e w' => e = .returned (.int .i64 (refE s a b)) ∧ Rm w' R (refS s a b) ∧ Fr (fun i => i = R) w w' := by
  have h1 := h.alloc (.cells #[.int .i64 a, .int .i64 b] 26)
  have HF := hid fun w => r_fits a b s.cb s.cp w
  have A := At.new w a b
  have hlt := h.lt
  by_cases hh : s.Paid a b
  · have HR := hid (refS_ok h.ok r)
    have e1 : Hid (refE s a b = 0) := by show _ = _; unfold refE; rw [if_pos hh]
    have e2 : refS s a b = ⟨s.lb, s.lp, s.cb - a, s.cp - b, s.rb, s.rp⟩ := by unfold refS; rw [if_pos hh]
    have E2 := hid e2
    rw [decide_eq_true (p := a ≤ s.cb ∧ b ≤ s.cp) hh] at HF
    obtain ⟨o1, o2, o3, o4, o5, o6, o7⟩ := h.ok
    have H1 := hid h1
    have HA := hid A
    have c2 := h1.c2
    have c3 := h1.c3
    have a0 := A.c0
    have a1 := A.c1
    clear e2 h h1 A
    unfold QS.Paid at hh
    unfold Rt at r o1
    go_enter Try.func31, Try.ntmps31
    go_wp2_with fail
    go_region_held (fun w' => w'.cell? ⟨R, 2, none⟩ = some (.int .i64 s.cb) ∧ w'.cell? ⟨R, 3, none⟩ = some (.int .i64 s.cp) ∧ w'.cell? ⟨w.heap.size, 0, none⟩ = some (.int .i64 a) ∧ w'.cell? ⟨w.heap.size, 1, none⟩ = some (.int .i64 b)) (go_keep) (first | (go_at_call 39; refine (HF.out _).mono ?_; rintro e w1 ⟨rfl, f1⟩; have H2 := hid (H1.out.behind f1); have HA2 := hid (HA.out.behind f1); have k0 := H2.out.c2; have k1 := H2.out.c3; have l0 := HA2.out.c0; have l1 := HA2.out.c1; have HF1 := hid (Fr.trans ((Fr.refl (fun i => i = R) w).alloc _).drew (Fr.wide f1)); clear f1))
    clear c2 c3 a0 a1 HF
    have d1 := wrap_at (s.cb - a) (by omega) (by omega)
    have d2 := wrap_at (s.cp - b) (by omega) (by omega)
    have g0 := H2.out.g 2
    have g1 := H2.out.g 3
    go_wp2
    go_region
    go_wp2
    go_ret
    exact ⟨by rw [e1.out]; rfl, by rw [E2.out] at HR ⊢; exact (H2.out.put2 HR.out).kept (Fr.refl _ _).drew, ((HF1.out.setCell rfl _).setCell rfl _).drew⟩
  · have e1 : Hid (refE s a b = 12) := by show _ = _; unfold refE; rw [if_neg hh]
    have e2 : Hid (refS s a b = s) := by show _ = _; unfold refS; rw [if_neg hh]
    rw [decide_eq_false (p := a ≤ s.cb ∧ b ≤ s.cp) hh] at HF
    have H1 := hid h1
    have HA := hid A
    have c2 := h1.c2
    have c3 := h1.c3
    have a0 := A.c0
    have a1 := A.c1
    clear h h1 A hh r
    go_enter Try.func31, Try.ntmps31
    go_wp2_with fail
    go_region_held (fun w' => w'.cell? ⟨R, 2, none⟩ = some (.int .i64 s.cb) ∧ w'.cell? ⟨R, 3, none⟩ = some (.int .i64 s.cp) ∧ w'.cell? ⟨w.heap.size, 0, none⟩ = some (.int .i64 a) ∧ w'.cell? ⟨w.heap.size, 1, none⟩ = some (.int .i64 b)) (go_keep) (first | (go_at_call 39; refine (HF.out _).mono ?_; rintro e w1 ⟨rfl, f1⟩; have H2 := hid (H1.out.behind f1); have HA2 := hid (HA.out.behind f1); have k0 := H2.out.c2; have k1 := H2.out.c3; have l0 := HA2.out.c0; have l1 := HA2.out.c1; have HF1 := hid (Fr.trans ((Fr.refl (fun i => i = R) w).alloc _).drew (Fr.wide f1)); clear f1))
    go_wp2
    go_ret
    exact ⟨by rw [e1.out]; rfl, by rw [e2.out]; exact H2.out, HF1.out⟩
set_option maxRecDepth 20000 in
set_option maxHeartbeats 1000000 in
theorem e_reserve (h : Rm w R s) {a b : Int} (r : Rt a b) : Calls Try.prog 28 #[.pointer (some ⟨R, 0, none⟩), .agg #[.int .i64 a, .int .i64 b]] w fun e w' => e = .returned (.int .i64 (resE s a b)) ∧ Rm w' R (resS s a b) ∧ Fr (fun i => i = R) w w' := by
  have h1 := h.alloc (.cells #[.int .i64 a, .int .i64 b] 26)
  have HF := hid fun w => r_fits (s.cb + s.rb + a) (s.cp + s.rp + b) s.lb s.lp w
  have HL := hid fun w (h : Rm w R s) => e_all h (a := a) (b := b) (r)
  have A := At.new w a b
  have hlt := h.lt
  by_cases hh : s.Room a b
  · have HR := hid (resS_ok h.ok r)
    have e1 : Hid (resE s a b = 0) := by show _ = _; unfold resE; rw [if_pos hh]
    have e2 : resS s a b = ⟨s.lb, s.lp, s.cb, s.cp, s.rb + a, s.rp + b⟩ := by unfold resS; rw [if_pos hh]
    have E2 := hid e2
    rw [decide_eq_true (p := s.cb + s.rb + a ≤ s.lb ∧ s.cp + s.rp + b ≤ s.lp) hh] at HF
    obtain ⟨o1, o2, o3, o4, o5, o6, o7⟩ := h.ok
    have H1 := hid h1
    have HA := hid A
    have c0 := h1.c0
    have c1 := h1.c1
    have a0 := A.c0
    have a1 := A.c1
    clear e2 h h1 A
    unfold QS.Room at hh
    unfold Rt at r o1
    go_enter Try.func28, Try.ntmps28
    go_wp2_with fail
    go_region_held (fun w' => w'.cell? ⟨R, 0, none⟩ = some (.int .i64 s.lb) ∧ w'.cell? ⟨R, 1, none⟩ = some (.int .i64 s.lp) ∧ w'.cell? ⟨w.heap.size, 0, none⟩ = some (.int .i64 a) ∧ w'.cell? ⟨w.heap.size, 1, none⟩ = some (.int .i64 b)) (go_keep) (first | (go_at_call 40; refine (HL.out _ (H1.out.kept (Fr.refl _ _).drew)).mono ?_; rintro e w0 ⟨rfl, f0⟩; have HB := hid (H1.out.behind f0); have HAB := hid (HA.out.behind f0); have b0 := HB.out.c0; have b1 := HB.out.c1; have m0 := HAB.out.c0; have m1 := HAB.out.c1; have HF0 := hid (Fr.trans ((Fr.refl (fun i => i = R) w).alloc _).drew (Fr.wide f0)); clear f0) | (go_at_call 39; refine (HF.out _).mono ?_; rintro e w1 ⟨rfl, f1⟩; have H2 := hid (HB.out.kept f1); have HA2 := hid (HAB.out.kept f1); have k0 := H2.out.c0; have k1 := H2.out.c1; have l0 := HA2.out.c0; have l1 := HA2.out.c1; have HF1 := hid (HF0.out.trans (Fr.wide f1)); clear f1))
    clear c0 c1 a0 a1 HF HL b0 b1 m0 m1
    have n0 := H2.out.c4
    have n1 := H2.out.c5
    have d1 := wrap_at (s.rb + a) (by omega) (by omega)
    have d2 := wrap_at (s.rp + b) (by omega) (by omega)
    have g0 := H2.out.g 4
    have g1 := H2.out.g 5
    go_wp2
    go_region
    go_wp2
    go_ret
    exact ⟨by rw [e1.out]; rfl, by rw [E2.out] at HR ⊢; exact (H2.out.put4 HR.out).kept (Fr.refl _ _).drew, ((HF1.out.setCell rfl _).setCell rfl _).drew⟩
  · have e1 : Hid (resE s a b = 3) := by show _ = _; unfold resE; rw [if_neg hh]
    have e2 : Hid (resS s a b = s) := by show _ = _; unfold resS; rw [if_neg hh]
    rw [decide_eq_false (p := s.cb + s.rb + a ≤ s.lb ∧ s.cp + s.rp + b ≤ s.lp) hh] at HF
    have H1 := hid h1
    have HA := hid A
    have c0 := h1.c0
    have c1 := h1.c1
    have a0 := A.c0
    have a1 := A.c1
    clear h h1 A hh r
    go_enter Try.func28, Try.ntmps28
    go_wp2_with fail
    go_region_held (fun w' => w'.cell? ⟨R, 0, none⟩ = some (.int .i64 s.lb) ∧ w'.cell? ⟨R, 1, none⟩ = some (.int .i64 s.lp) ∧ w'.cell? ⟨w.heap.size, 0, none⟩ = some (.int .i64 a) ∧ w'.cell? ⟨w.heap.size, 1, none⟩ = some (.int .i64 b)) (go_keep) (first | (go_at_call 40; refine (HL.out _ (H1.out.kept (Fr.refl _ _).drew)).mono ?_; rintro e w0 ⟨rfl, f0⟩; have HB := hid (H1.out.behind f0); have HAB := hid (HA.out.behind f0); have b0 := HB.out.c0; have b1 := HB.out.c1; have m0 := HAB.out.c0; have m1 := HAB.out.c1; have HF0 := hid (Fr.trans ((Fr.refl (fun i => i = R) w).alloc _).drew (Fr.wide f0)); clear f0) | (go_at_call 39; refine (HF.out _).mono ?_; rintro e w1 ⟨rfl, f1⟩; have H2 := hid (HB.out.kept f1); have HA2 := hid (HAB.out.kept f1); have k0 := H2.out.c0; have k1 := H2.out.c1; have l0 := HA2.out.c0; have l1 := HA2.out.c1; have HF1 := hid (HF0.out.trans (Fr.wide f1)); clear f1))
    go_wp2
    go_ret
    exact ⟨by rw [e1.out]; rfl, by rw [e2.out]; exact H2.out, HF1.out⟩
set_option maxRecDepth 20000 in
set_option maxHeartbeats 1000000 in
theorem e_resize (h : Rm w R s) {a b : Int} (r : Rt a b) : Calls Try.prog 32 #[.pointer (some ⟨R, 0, none⟩), .agg #[.int .i64 a, .int .i64 b]] w fun e w' => e = .returned (.int .i64 (rszE s a b)) ∧ Rm w' R (rszS s a b) ∧ Fr (fun i => i = R) w w' := by
  have h1 := h.alloc (.cells #[.int .i64 a, .int .i64 b] 26)
  have HF := hid fun w => r_fits (s.cb + s.rb) (s.cp + s.rp) a b w
  have HL := hid fun w (h : Rm w R s) => e_all h (a := 0) (b := 0) (by decide)
  simp only [Int.add_zero] at HL
  have A := At.new w a b
  have hlt := h.lt
  by_cases hh : s.Held a b
  · have HR := hid (rszS_ok h.ok r)
    have e1 : Hid (rszE s a b = 0) := by show _ = _; unfold rszE; rw [if_pos hh]
    have e2 : rszS s a b = ⟨a, b, s.cb, s.cp, s.rb, s.rp⟩ := by unfold rszS; rw [if_pos hh]
    have E2 := hid e2
    rw [decide_eq_true (p := s.cb + s.rb ≤ a ∧ s.cp + s.rp ≤ b) hh] at HF
    obtain ⟨o1, o2, o3, o4, o5, o6, o7⟩ := h.ok
    have H1 := hid h1
    have HA := hid A
    have c0 := h1.c0
    have c1 := h1.c1
    have a0 := A.c0
    have a1 := A.c1
    clear e2 h h1 A
    unfold QS.Held at hh
    unfold Rt at r o1
    go_enter Try.func32, Try.ntmps32
    go_wp2_with fail
    go_region_held (fun w' => w'.cell? ⟨R, 0, none⟩ = some (.int .i64 s.lb) ∧ w'.cell? ⟨R, 1, none⟩ = some (.int .i64 s.lp) ∧ w'.cell? ⟨w.heap.size, 0, none⟩ = some (.int .i64 a) ∧ w'.cell? ⟨w.heap.size, 1, none⟩ = some (.int .i64 b)) (go_keep) (first | (go_at_call 40; refine (HL.out _ (H1.out.kept (Fr.refl _ _).drew)).mono ?_; rintro e w0 ⟨rfl, f0⟩; have HB := hid (H1.out.behind f0); have HAB := hid (HA.out.behind f0); have b0 := HB.out.c0; have b1 := HB.out.c1; have m0 := HAB.out.c0; have m1 := HAB.out.c1; have HF0 := hid (Fr.trans ((Fr.refl (fun i => i = R) w).alloc _).drew (Fr.wide f0)); clear f0) | (go_at_call 39; refine (HF.out _).mono ?_; rintro e w1 ⟨rfl, f1⟩; have H2 := hid (HB.out.kept f1); have HA2 := hid (HAB.out.kept f1); have k0 := H2.out.c0; have k1 := H2.out.c1; have l0 := HA2.out.c0; have l1 := HA2.out.c1; have HF1 := hid (HF0.out.trans (Fr.wide f1)); clear f1))
    clear c0 c1 a0 a1 HF HL b0 b1 m0 m1
    have g0 := H2.out.g 0
    have g1 := H2.out.g 1
    go_wp2
    go_ret
    exact ⟨by rw [e1.out]; rfl, by rw [E2.out] at HR ⊢; exact H2.out.put0 HR.out, (HF1.out.setCell rfl _).setCell rfl _⟩
  · have e1 : Hid (rszE s a b = 3) := by show _ = _; unfold rszE; rw [if_neg hh]
    have e2 : Hid (rszS s a b = s) := by show _ = _; unfold rszS; rw [if_neg hh]
    rw [decide_eq_false (p := s.cb + s.rb ≤ a ∧ s.cp + s.rp ≤ b) hh] at HF
    have H1 := hid h1
    have HA := hid A
    have c0 := h1.c0
    have c1 := h1.c1
    have a0 := A.c0
    have a1 := A.c1
    clear h h1 A hh r
    go_enter Try.func32, Try.ntmps32
    go_wp2_with fail
    go_region_held (fun w' => w'.cell? ⟨R, 0, none⟩ = some (.int .i64 s.lb) ∧ w'.cell? ⟨R, 1, none⟩ = some (.int .i64 s.lp) ∧ w'.cell? ⟨w.heap.size, 0, none⟩ = some (.int .i64 a) ∧ w'.cell? ⟨w.heap.size, 1, none⟩ = some (.int .i64 b)) (go_keep) (first | (go_at_call 40; refine (HL.out _ (H1.out.kept (Fr.refl _ _).drew)).mono ?_; rintro e w0 ⟨rfl, f0⟩; have HB := hid (H1.out.behind f0); have HAB := hid (HA.out.behind f0); have b0 := HB.out.c0; have b1 := HB.out.c1; have m0 := HAB.out.c0; have m1 := HAB.out.c1; have HF0 := hid (Fr.trans ((Fr.refl (fun i => i = R) w).alloc _).drew (Fr.wide f0)); clear f0) | (go_at_call 39; refine (HF.out _).mono ?_; rintro e w1 ⟨rfl, f1⟩; have H2 := hid (HB.out.kept f1); have HA2 := hid (HAB.out.kept f1); have k0 := H2.out.c0; have k1 := H2.out.c1; have l0 := HA2.out.c0; have l1 := HA2.out.c1; have HF1 := hid (HF0.out.trans (Fr.wide f1)); clear f1))
    go_wp2
    go_ret
    exact ⟨by rw [e1.out]; rfl, by rw [e2.out]; exact H2.out, HF1.out⟩
set_option maxRecDepth 20000 in
set_option maxHeartbeats 1000000 in
theorem e_commit (h : Rm w R s) {a b : Int} (r : Rt a b) : Calls Try.prog 29 #[.pointer (some ⟨R, 0, none⟩), .agg #[.int .i64 a, .int .i64 b]] w fun e w' => e = .returned (.int .i64 (comE s a b)) ∧ Rm w' R (comS s a b) ∧ Fr (fun i => i = R) w w' := by
  have h1 := h.alloc (.cells #[.int .i64 a, .int .i64 b] 26)
  have HC := hid (e_cancel h1 r)
  have A := At.new w a b
  have hlt := h.lt
  have a0 := A.c0
  have a1 := A.c1
  have HA := hid A
  have hne : Hid (¬ w.heap.size = R) := fun e => by omega
  by_cases hh : s.Had a b
  · have HR := hid (comS_ok h.ok r)
    have HR1 := hid (canS_ok h.ok r)
    have e0 : canE s a b = 0 := by unfold canE; rw [if_pos hh]
    have e1 : Hid (comE s a b = 0) := by show _ = _; unfold comE; rw [if_pos hh]
    have e2 : canS s a b = ⟨s.lb, s.lp, s.cb, s.cp, s.rb - a, s.rp - b⟩ := by unfold canS; rw [if_pos hh]
    have e3 : Hid (comS s a b = ⟨s.lb, s.lp, s.cb + a, s.cp + b, s.rb - a, s.rp - b⟩) := by show _ = _; unfold comS; rw [if_pos hh]
    rw [e0, e2] at HC
    obtain ⟨o1, o2, o3, o4, o5, o6, o7⟩ := h.ok
    clear e0 e2 h h1 A
    unfold QS.Had at hh
    unfold Rt at r o1
    go_enter Try.func29, Try.ntmps29
    go_wp2_with fail
    refine HC.out.mono ?_
    rintro e w1 ⟨rfl, h2, f1⟩
    have H2 := hid h2
    have HA2 := hid (HA.out.carry f1 hne.out)
    have HF1 := hid (Fr.trans ((Fr.refl (fun i => i = R) w).alloc _) f1)
    clear f1 h2 a0 a1
    have l0 := HA2.out.c0
    have l1 := HA2.out.c1
    have n0 := H2.out.c2
    have n1 := H2.out.c3
    have g0 := H2.out.g 2
    have g1 := H2.out.g 3
    have d1 := wrap_at (s.cb + a) (by omega) (by omega)
    have d2 := wrap_at (s.cp + b) (by omega) (by omega)
    go_wp2
    go_region
    go_wp2
    go_ret
    exact ⟨by rw [e1.out]; rfl, by rw [e3.out] at HR ⊢; exact (H2.out.put2 HR.out).kept (Fr.refl _ _).drew, ((HF1.out.setCell rfl _).setCell rfl _).drew⟩
  · have e0 : canE s a b = 12 := by unfold canE; rw [if_neg hh]
    have e1 : Hid (comE s a b = 12) := by show _ = _; unfold comE; rw [if_neg hh]
    have e2 : canS s a b = s := by unfold canS; rw [if_neg hh]
    have e3 : Hid (comS s a b = s) := by show _ = _; unfold comS; rw [if_neg hh]
    rw [e0, e2] at HC
    clear h h1 A hh r e0 e2
    go_enter Try.func29, Try.ntmps29
    go_wp2_with fail
    refine HC.out.mono ?_
    rintro e w1 ⟨rfl, h2, f1⟩
    have H2 := hid h2
    have HF1 := hid (Fr.trans ((Fr.refl (fun i => i = R) w).alloc _) f1)
    clear f1 h2 a0 a1
    go_wp2
    go_ret
    exact ⟨by rw [e1.out]; rfl, by rw [e3.out]; exact H2.out, HF1.out⟩
end
end Go.Proofs.Ytnlaocokjilncaa
