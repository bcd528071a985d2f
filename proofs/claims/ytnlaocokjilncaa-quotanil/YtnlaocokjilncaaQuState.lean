/-
  A quota that the call itself has made: what was there before stays as it was. The document's own examples stand, so the laws are awake.
-/
import Derived.Test.YtnlaocokjilncaaQuOf
namespace Go.Proofs.Ytnlaocokjilncaa
open Go.RowKit

/-- A quota of the program's that was made behind W. -/
structure Qn (W w : World) (B : Nat) (s : QS) : Prop where
  q : Qm w B s
  le : W.heap.size ≤ B
  nw : Nw W w
section
variable {W w w' : World} {B : Nat} {s : QS}
theorem Qn.step {s' : QS} (h : Qn W w B s) (k : Qm w' B s') (f : Fr (fun i => i = B) w w') : Qn W w' B s' := ⟨k, h.le, h.nw.on f fun i e => by subst e; exact h.le⟩
theorem Qn.carry {S : Nat → Prop} (h : Qn W w B s) (f : Fr S w w') (hn : ¬ S B) (hs : ∀ i, S i → W.heap.size ≤ i) : Qn W w' B s := ⟨h.q.carry f hn, h.le, h.nw.on f hs⟩
theorem Qn.kept (h : Qn W w B s) (f : Fr (fun _ => False) w w') : Qn W w' B s := h.carry f id fun _ e => e.elim
theorem Qn.alloc (h : Qn W w B s) (o : Obj) : Qn W (w.alloc o) B s := h.kept ((Fr.refl _ _).alloc o)
theorem Qn.drew (h : Qn W w B s) : Qn W w.drew B s := h.kept (Fr.refl _ _).drew
theorem Qn.lt (h : Qn W w B s) : B < w.heap.size := h.q.lt
theorem n_new {a b : Int} (r : Rt a b) (h : Nw W w) : Calls Try.prog 9 #[.complex .f64 (fb a) (fb b)] w fun e w' => ∃ B, e = .returned (.tuple #[.pointer (some ⟨B, 0, none⟩), .int .i64 0]) ∧ w.heap.size ≤ B ∧ Qn W w' B (newQ a b) ∧ Fr (fun _ => False) w w' :=
  (q_new r w).mono fun _ _ ⟨B, he, hl, hq, f⟩ => ⟨B, he, hl, ⟨hq, Nat.le_trans h.le hl, h.kept f⟩, f⟩
theorem n_res (h : Qn W w B s) {a b : Int} (r : Rt a b) : Calls Try.prog 12 #[.pointer (some ⟨B, 0, none⟩), .complex .f64 (fb a) (fb b)] w fun e w' => e = .returned (.int .i64 (resE s a b)) ∧ Qn W w' B (resS s a b) ∧ Fr (fun i => i = B) w w' :=
  (q_res h.q r).mono fun _ _ ⟨he, hq, f⟩ => ⟨he, h.step hq f, f⟩
theorem n_res_no (h : Qn W w B s) {x y : Nat} (hn : (rawB x && rawB y) = false) : Calls Try.prog 12 #[.pointer (some ⟨B, 0, none⟩), .complex .f64 x y] w fun e w' => e = .returned (.int .i64 12) ∧ Qn W w' B s ∧ Fr (fun i => i = B) w w' :=
  (q_res_no h.q hn).mono fun _ _ ⟨he, hq, f⟩ => ⟨he, h.step hq f, f⟩
theorem n_com (h : Qn W w B s) {a b : Int} (r : Rt a b) : Calls Try.prog 18 #[.pointer (some ⟨B, 0, none⟩), .complex .f64 (fb a) (fb b)] w fun e w' => e = .returned (.int .i64 (comE s a b)) ∧ Qn W w' B (comS s a b) ∧ Fr (fun i => i = B) w w' :=
  (q_com h.q r).mono fun _ _ ⟨he, hq, f⟩ => ⟨he, h.step hq f, f⟩
theorem n_com_no (h : Qn W w B s) {x y : Nat} (hn : (rawB x && rawB y) = false) : Calls Try.prog 18 #[.pointer (some ⟨B, 0, none⟩), .complex .f64 x y] w fun e w' => e = .returned (.int .i64 12) ∧ Qn W w' B s ∧ Fr (fun i => i = B) w w' :=
  (q_com_no h.q hn).mono fun _ _ ⟨he, hq, f⟩ => ⟨he, h.step hq f, f⟩
theorem n_can (h : Qn W w B s) {a b : Int} (r : Rt a b) : Calls Try.prog 19 #[.pointer (some ⟨B, 0, none⟩), .complex .f64 (fb a) (fb b)] w fun e w' => e = .returned (.int .i64 (canE s a b)) ∧ Qn W w' B (canS s a b) ∧ Fr (fun i => i = B) w w' :=
  (q_can h.q r).mono fun _ _ ⟨he, hq, f⟩ => ⟨he, h.step hq f, f⟩
theorem n_can_no (h : Qn W w B s) {x y : Nat} (hn : (rawB x && rawB y) = false) : Calls Try.prog 19 #[.pointer (some ⟨B, 0, none⟩), .complex .f64 x y] w fun e w' => e = .returned (.int .i64 12) ∧ Qn W w' B s ∧ Fr (fun i => i = B) w w' :=
  (q_can_no h.q hn).mono fun _ _ ⟨he, hq, f⟩ => ⟨he, h.step hq f, f⟩
theorem n_ref (h : Qn W w B s) {a b : Int} (r : Rt a b) : Calls Try.prog 20 #[.pointer (some ⟨B, 0, none⟩), .complex .f64 (fb a) (fb b)] w fun e w' => e = .returned (.int .i64 (refE s a b)) ∧ Qn W w' B (refS s a b) ∧ Fr (fun i => i = B) w w' :=
  (q_ref h.q r).mono fun _ _ ⟨he, hq, f⟩ => ⟨he, h.step hq f, f⟩
theorem n_ref_no (h : Qn W w B s) {x y : Nat} (hn : (rawB x && rawB y) = false) : Calls Try.prog 20 #[.pointer (some ⟨B, 0, none⟩), .complex .f64 x y] w fun e w' => e = .returned (.int .i64 12) ∧ Qn W w' B s ∧ Fr (fun i => i = B) w w' :=
  (q_ref_no h.q hn).mono fun _ _ ⟨he, hq, f⟩ => ⟨he, h.step hq f, f⟩
theorem n_rsz (h : Qn W w B s) {a b : Int} (r : Rt a b) : Calls Try.prog 21 #[.pointer (some ⟨B, 0, none⟩), .complex .f64 (fb a) (fb b)] w fun e w' => e = .returned (.int .i64 (rszE s a b)) ∧ Qn W w' B (rszS s a b) ∧ Fr (fun i => i = B) w w' :=
  (q_rsz h.q r).mono fun _ _ ⟨he, hq, f⟩ => ⟨he, h.step hq f, f⟩
theorem n_rsz_no (h : Qn W w B s) {x y : Nat} (hn : (rawB x && rawB y) = false) : Calls Try.prog 21 #[.pointer (some ⟨B, 0, none⟩), .complex .f64 x y] w fun e w' => e = .returned (.int .i64 12) ∧ Qn W w' B s ∧ Fr (fun i => i = B) w w' :=
  (q_rsz_no h.q hn).mono fun _ _ ⟨he, hq, f⟩ => ⟨he, h.step hq f, f⟩
theorem n_lim (h : Qn W w B s) : Calls Try.prog 15 #[.pointer (some ⟨B, 0, none⟩)] w fun e w' => e = .returned (.complex .f64 (fb s.lb) (fb s.lp)) ∧ Qn W w' B s ∧ Fr (fun _ => False) w w' :=
  (q_lim h.q).mono fun _ _ ⟨he, hw⟩ => ⟨he, h.kept (frOf hw), frOf hw⟩
theorem n_cha (h : Qn W w B s) : Calls Try.prog 16 #[.pointer (some ⟨B, 0, none⟩)] w fun e w' => e = .returned (.complex .f64 (fb s.cb) (fb s.cp)) ∧ Qn W w' B s ∧ Fr (fun _ => False) w w' :=
  (q_cha h.q).mono fun _ _ ⟨he, hw⟩ => ⟨he, h.kept (frOf hw), frOf hw⟩
theorem n_rsv (h : Qn W w B s) : Calls Try.prog 17 #[.pointer (some ⟨B, 0, none⟩)] w fun e w' => e = .returned (.complex .f64 (fb s.rb) (fb s.rp)) ∧ Qn W w' B s ∧ Fr (fun _ => False) w w' :=
  (q_rsv h.q).mono fun _ _ ⟨he, hw⟩ => ⟨he, h.kept (frOf hw), frOf hw⟩
end
theorem order_zero : FloatKind.f64.format.order 0 0 = some .eq := by decide +kernel
theorem order_self (n : Int) (h : n.natAbs < 9007199254740992) : FloatKind.f64.format.order (fb n) (fb n) = some .eq := by
  rw [fb_order n n h h]; simp
theorem zero_rt : Rt 0 0 := by decide
set_option maxRecDepth 20000 in
set_option maxHeartbeats 1000000 in
theorem awake_any {W w : World} (h : Nw W w) : Calls Try.prog 10 #[] w fun e w' => e = .returned (.bool true) ∧ Nw W w' := by
  have HN0 := hid h
  have H1 : Hid (∀ w, Calls Try.prog 24 #[.int .i64 100, .int .i64 1] w fun e w' => e = .returned (.tuple #[.complex .f64 (fb 100) (fb 1), .int .i64 0]) ∧ ∃ m, w' = w.drewN m) := fun w => s_of 100 1 w
  have H2 : Hid (∀ w, Calls Try.prog 24 #[.int .i64 60, .int .i64 0] w fun e w' => e = .returned (.tuple #[.complex .f64 (fb 60) (fb 0), .int .i64 0]) ∧ ∃ m, w' = w.drewN m) := fun w => s_of 60 0 w
  have H3 : Hid (∀ w, Calls Try.prog 24 #[.int .i64 50, .int .i64 0] w fun e w' => e = .returned (.tuple #[.complex .f64 (fb 50) (fb 0), .int .i64 0]) ∧ ∃ m, w' = w.drewN m) := fun w => s_of 50 0 w
  have H4 := hid fun w (h : Nw W w) => n_new (a := 100) (b := 1) (by decide) h
  have H5 : Hid (∀ w B, Qn W w B (newQ 100 1) → Calls Try.prog 12 #[.pointer (some ⟨B, 0, none⟩), .complex .f64 (fb 60) (fb 0)] w fun e w' => e = .returned (.int .i64 0) ∧ Qn W w' B ⟨100, 1, 0, 0, 60, 0⟩ ∧ Fr (fun i => i = B) w w') := fun w B h => n_res h (a := 60) (b := 0) (by decide)
  have H6 : Hid (∀ w B, Qn W w B ⟨100, 1, 0, 0, 60, 0⟩ → Calls Try.prog 12 #[.pointer (some ⟨B, 0, none⟩), .complex .f64 (fb 50) (fb 0)] w fun e w' => e = .returned (.int .i64 3) ∧ Qn W w' B ⟨100, 1, 0, 0, 60, 0⟩ ∧ Fr (fun i => i = B) w w') := fun w B h => n_res h (a := 50) (b := 0) (by decide)
  have H7 : Hid (∀ w B, Qn W w B ⟨100, 1, 0, 0, 60, 0⟩ → Calls Try.prog 18 #[.pointer (some ⟨B, 0, none⟩), .complex .f64 (fb 60) (fb 0)] w fun e w' => e = .returned (.int .i64 0) ∧ Qn W w' B ⟨100, 1, 60, 0, 0, 0⟩ ∧ Fr (fun i => i = B) w w') := fun w B h => n_com h (a := 60) (b := 0) (by decide)
  have H8 : Hid (∀ w B, Qn W w B ⟨100, 1, 60, 0, 0, 0⟩ → Calls Try.prog 16 #[.pointer (some ⟨B, 0, none⟩)] w fun e w' => e = .returned (.complex .f64 (fb 60) (fb 0)) ∧ Qn W w' B ⟨100, 1, 60, 0, 0, 0⟩ ∧ Fr (fun _ => False) w w') := fun w B h => n_cha h
  have H9 : Hid (∀ w B, Qn W w B ⟨100, 1, 60, 0, 0, 0⟩ → Calls Try.prog 17 #[.pointer (some ⟨B, 0, none⟩)] w fun e w' => e = .returned (.complex .f64 (fb 0) (fb 0)) ∧ Qn W w' B ⟨100, 1, 60, 0, 0, 0⟩ ∧ Fr (fun _ => False) w w') := fun w B h => n_rsv h
  have H10 : Hid (∀ w B, Qn W w B ⟨100, 1, 60, 0, 0, 0⟩ → Calls Try.prog 21 #[.pointer (some ⟨B, 0, none⟩), .complex .f64 (fb 50) (fb 0)] w fun e w' => e = .returned (.int .i64 3) ∧ Qn W w' B ⟨100, 1, 60, 0, 0, 0⟩ ∧ Fr (fun i => i = B) w w') := fun w B h => n_rsz h (a := 50) (b := 0) (by decide)
  have o1 := order_self 60 (by decide)
  have o0 := order_zero
  rw [fb_zero] at H2 H3 H5 H6 H7 H8 H9 H10
  clear h
  generalize fb 100 = x1 at *
  generalize fb 1 = x2 at *
  generalize fb 60 = x3 at *
  generalize fb 50 = x4 at *
  go_enter Try.func10, Try.ntmps10
  go_wp2_with fail
  refine (H1.out _).mono ?_
  rintro e w1 ⟨rfl, hw⟩
  have HN1 := hid (HN0.out.kept (frOf hw))
  clear hw HN0
  go_wp2_with fail
  refine (H2.out _).mono ?_
  rintro e w2 ⟨rfl, hw⟩
  have HN2 := hid (HN1.out.kept (frOf hw))
  clear hw HN1
  go_wp2_with fail
  refine (H3.out _).mono ?_
  rintro e w3 ⟨rfl, hw⟩
  have HN3 := hid (HN2.out.kept (frOf hw))
  clear hw HN2
  go_wp2_with fail
  refine (H4.out _ HN3.out).mono ?_
  rintro e w4 ⟨B, rfl, hl, hq, f4⟩
  have HQ4 := hid hq
  clear hq f4 HN3 hl
  go_wp2_with fail
  refine (H5.out _ _ HQ4.out).mono ?_
  rintro e w5 ⟨rfl, hq, hf⟩
  have HQ5 := hid hq
  clear hq hf HQ4
  go_wp2_with fail
  refine (H6.out _ _ HQ5.out).mono ?_
  rintro e w6 ⟨rfl, hq, hf⟩
  have HQ6 := hid hq
  clear hq hf HQ5
  go_wp2_with fail
  refine (H7.out _ _ HQ6.out).mono ?_
  rintro e w7 ⟨rfl, hq, hf⟩
  have HQ7 := hid hq
  clear hq hf HQ6
  go_wp2_with fail
  refine (H8.out _ _ HQ7.out).mono ?_
  rintro e w8 ⟨rfl, hq, hf⟩
  have HQ8 := hid hq
  clear hq hf HQ7
  go_wp2_with fail
  refine (H9.out _ _ HQ8.out).mono ?_
  rintro e w9 ⟨rfl, hq, hf⟩
  have HQ9 := hid hq
  clear hq hf HQ8
  go_wp2_with fail
  refine (H10.out _ _ HQ9.out).mono ?_
  rintro e w10 ⟨rfl, hq, hf⟩
  have HQ10 := hid hq
  clear hq hf HQ9
  go_wp2
  go_ret
  exact ⟨by simp, HQ10.out.nw⟩
theorem awake_f (w : World) : Calls Try.prog 10 #[] w fun e w' => e = .returned (.bool true) ∧ Fr (fun _ => False) w w' := (awake_any (Nw.start w)).mono fun _ _ ⟨h, n⟩ => ⟨h, n.fr⟩
end Go.Proofs.Ytnlaocokjilncaa
