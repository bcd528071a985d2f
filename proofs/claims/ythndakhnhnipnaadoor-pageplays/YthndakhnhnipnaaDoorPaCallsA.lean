/-
  What the calls of package page do: where a page may lie, what it tells, the nil page.
-/
import Derived.Test.YthndakhnhnipnaaDoorPaProg
import Derived.ScopeJumps
namespace Go.Proofs.YthndakhnhnipnaaDoor
open Go.RowKit
open An

section
variable {w0 w : World} {Z0 Z U : Nat → Prop} {a p rd wt sa sb : Nat} {bs : List UInt8} {ss : List Sp} {g : Pg}
set_option maxRecDepth 20000 in
set_option maxHeartbeats 1000000 in
theorem l_lies (h : Am 70 a bs ss w Z) {x : Int} (hi : I64 x) : Calls Tryd.prog 37 #[.pointer (some ⟨a, 0, none⟩), .int .i64 x] w fun e w' => e = .returned (.bool (decide (Fits bs.length x))) ∧ w' = w := by
  have H1 := hid (am_size h)
  have hl := h.le
  obtain ⟨i1, i2⟩ := hi
  clear h
  generalize bs.length = n at *
  by_cases h0 : 0 ≤ x
  case neg =>
    have he : Hid (decide (Fits n x) = false) := decide_eq_false fun m => h0 m.1
    generalize decide (Fits n x) = v at *
    go_enter Tryd.func37, Tryd.ntmps37
    go_wp2
    go_ret
    exact ⟨by rw [he.out]; simp, rfl⟩
  have ht := Int.tmod_eq_emod_of_nonneg (b := 512) h0
  by_cases h1 : x % 512 = 0
  case neg =>
    have he : Hid (decide (Fits n x) = false) := decide_eq_false fun m => h1 m.2.1
    generalize decide (Fits n x) = v at *
    have hb : ((x % 512) == 0) = false := by simp; omega
    go_enter Tryd.func37, Tryd.ntmps37
    go_wp2
    go_ret
    exact ⟨by rw [he.out]; simp, rfl⟩
  have hw : IntKind.i64.wrap ((n : Int) - x) = n - x := wrapI _ (by omega) (by omega)
  by_cases h3 : (512 : Int) ≤ n - x
  · have he : Hid (decide (Fits n x) = true) := decide_eq_true ⟨h0, h1, by omega⟩
    generalize decide (Fits n x) = v at *
    go_enter Tryd.func37, Tryd.ntmps37
    go_wp2_with fail
    refine H1.out.mono ?_
    rintro e w1 ⟨rfl, hw⟩
    obtain rfl := hw.symm
    go_wp2
    go_ret
    exact ⟨by rw [he.out]; simp, rfl⟩
  · have he : Hid (decide (Fits n x) = false) := decide_eq_false fun m => h3 (by omega)
    generalize decide (Fits n x) = v at *
    go_enter Tryd.func37, Tryd.ntmps37
    go_wp2_with fail
    refine H1.out.mono ?_
    rintro e w1 ⟨rfl, hw⟩
    obtain rfl := hw.symm
    go_wp2
    go_ret
    exact ⟨by rw [he.out]; simp; omega, rfl⟩
set_option maxRecDepth 20000 in
theorem l_full (ok : g.Ok bs) (h : Pp w0 Z0 w p a rd wt sa sb Z bs ss g) : Calls Tryd.prog 19 #[.pointer (some ⟨p, 0, none⟩)] w fun e w' => e = .returned (.bool (decide g.Full)) ∧ w' = w := by
  have H1 := hid (Sf.s_free h.sh)
  have c6 := h.pw.c6
  have hu := hs_used ok
  clear h
  by_cases hf : g.Full
  · have he : Hid (decide g.Full = true) := decide_eq_true hf
    have h0 : Sf.frees (hs g) = 0 := by unfold Pg.Full at hf; omega
    rw [h0] at H1
    generalize decide g.Full = v at *
    clear hf ok hu h0
    go_enter Tryd.func19, Tryd.ntmps19
    go_wp2_with fail
    refine H1.out.mono ?_
    rintro e w1 ⟨rfl, hw⟩
    obtain rfl := hw.symm
    go_wp2
    go_ret
    exact ⟨by rw [he.out]; simp, rfl⟩
  · have he : Hid (decide g.Full = false) := decide_eq_false hf
    have h0 : Sf.frees (hs g) ≠ 0 := fun e => hf (by unfold Pg.Full; omega)
    generalize decide g.Full = v at *
    generalize Sf.frees (hs g) = m at *
    have h1 : ((m : Int) == 0) = false := by simp; omega
    clear hf ok hu h0
    go_enter Tryd.func19, Tryd.ntmps19
    go_wp2_with fail
    refine H1.out.mono ?_
    rintro e w1 ⟨rfl, hw⟩
    obtain rfl := hw.symm
    go_wp2
    go_ret
    exact ⟨by rw [he.out]; simp, rfl⟩
set_option maxRecDepth 20000 in
set_option maxHeartbeats 1000000 in
theorem l_used (ok : g.Ok bs) (h : Pp w0 Z0 w p a rd wt sa sb Z bs ss g) : Calls Tryd.prog 17 #[.pointer (some ⟨p, 0, none⟩)] w fun e w' => e = .returned (.int .i64 (g.used : Int)) ∧ Fr (fun _ => False) w w' := by
  have c6 := h.pw.c6
  have hu := hs_used ok
  have hp := (kind_facts g.kind ok.kind).2.1.2
  have HS := hid h.sh
  have hl := hs_length g
  have H1 : Hid (∀ w1, Fr (fun _ => False) w w1 → Calls Tryd.prog 49 #[.pointer (some ⟨sa, 0, none⟩)] w1 fun e w' => e = .returned (.int .i64 ((hs g).length : Int)) ∧ w' = w1) := fun w1 f => Sf.s_size (sh_on h.sh f id id)
  have H2 : Hid (∀ w1, Fr (fun _ => False) w w1 → Calls Tryd.prog 56 #[.pointer (some ⟨sa, 0, none⟩)] w1 fun e w' => e = .returned (.int .i64 (Sf.frees (hs g) : Int)) ∧ w' = w1) := fun w1 f => Sf.s_free (sh_on h.sh f id id)
  clear h ok
  generalize hs g = l at *
  generalize pp g.kind = n at *
  subst hl
  have hr : IntKind.i64.wrap ((l.length : Int) - (Sf.frees l : Int)) = (g.used : Int) := by rw [wrapI _ (by omega) (by omega)]; omega
  generalize g.used = u at *
  generalize Sf.frees l = m at *
  generalize l.length = n at *
  clear hu hp HS
  go_enter Tryd.func17, Tryd.ntmps17
  go_wp2_with fail
  go_region_held3 (fun w' => w'.cell? ⟨p, 6, none⟩ = some (.pointer (some ⟨sa, 0, none⟩))) (first | exact (by assumption) | go_keep) (first | (go_at_call 49; refine (H1.out _ (Fr.refl _ _).drew).mono ?_; rintro e w1 ⟨rfl, hw⟩; obtain rfl := hw.symm; clear hw) | (go_at_call 56; refine (H2.out _ (Fr.refl _ _).drew).mono ?_; rintro e w1 ⟨rfl, hw⟩; obtain rfl := hw.symm; clear hw))
  all_goals
    go_wp2
    go_ret
    exact ⟨by simp, (Fr.refl _ _).drew⟩
set_option maxRecDepth 20000 in
theorem l_has (h : Pp w0 Z0 w p a rd wt sa sb Z bs ss g) (k : Int) : Calls Tryd.prog 21 #[.pointer (some ⟨p, 0, none⟩), .int .i64 k] w fun e w' => e = .returned (.bool (decide (g.May k))) ∧ Fr (fun _ => False) w w' := by
  have H1 := hid (Sf.s_taken h.sh k)
  rw [hs_isT] at H1
  have c6 := h.pw.c6
  clear h
  generalize decide (g.May k) = v at *
  go_enter Tryd.func21, Tryd.ntmps21
  go_wp2_with fail
  refine H1.out.mono ?_
  rintro e w1 ⟨rfl, m, rfl⟩
  go_wp2
  go_ret
  exact ⟨by simp, (Fr.refl _ _).drewN m⟩
set_option maxRecDepth 20000 in
theorem x_base (h : Pa a bs ss p g w U) : Calls Tryd.prog 23 #[.pointer (some ⟨p, 0, none⟩)] w fun e w' => e = .returned (.int .i64 g.base) ∧ Fr (fun _ => False) w w' := by
  obtain ⟨Z, rd, wt, sa, sb, h, _⟩ := h.into
  have c3 := h.pw.c3
  clear h
  go_enter Tryd.func23, Tryd.ntmps23
  go_wp2
  go_ret
  exact ⟨by simp, Fr.refl _ _⟩
set_option maxRecDepth 20000 in
theorem x_kind (h : Pa a bs ss p g w U) : Calls Tryd.prog 24 #[.pointer (some ⟨p, 0, none⟩)] w fun e w' => e = .returned (.int .i64 g.kind) ∧ Fr (fun _ => False) w w' := by
  obtain ⟨Z, rd, wt, sa, sb, h, _⟩ := h.into
  have c4 := h.pw.c4
  clear h
  go_enter Tryd.func24, Tryd.ntmps24
  go_wp2
  go_ret
  exact ⟨by simp, Fr.refl _ _⟩
set_option maxRecDepth 20000 in
theorem x_new_nil (x kd : Int) (w : World) : Calls Tryd.prog 9 #[.pointer none, .int .i64 x, .int .i64 kd] w fun e w' => e = .returned (.tuple #[.pointer none, .int .i64 11]) ∧ Fr (fun _ => False) w w' := by
  go_enter Tryd.func9, Tryd.ntmps9
  go_wp2
  go_ret2
  exact ⟨by simp, Fr.refl _ _⟩
set_option maxRecDepth 20000 in
theorem x_alloc_nil (w : World) : Calls Tryd.prog 13 #[.pointer none] w fun e w' => e = .returned (.tuple #[.int .i64 0, .int .i64 11]) ∧ Fr (fun _ => False) w w' := by
  go_enter Tryd.func13, Tryd.ntmps13
  go_wp2
  refine wp_scope_jumps 0 (fun _ _ => False) (fun _ _ => 0) rfl ?_ fun _ _ h => h.elim
  go_wp2
  rw [jump_ret]
  go_ret2
  exact ⟨by simp, Fr.refl _ _⟩
set_option maxRecDepth 20000 in
theorem x_free_nil (k : Int) (w : World) : Calls Tryd.prog 15 #[.pointer none, .int .i64 k] w fun e w' => e = .returned (.int .i64 11) ∧ Fr (fun _ => False) w w' := by
  go_enter Tryd.func15, Tryd.ntmps15
  go_wp2
  go_ret
  exact ⟨by simp, Fr.refl _ _⟩
set_option maxRecDepth 20000 in
theorem x_move_nil (k : Int) (w : World) : Calls Tryd.prog 27 #[.pointer none, .int .i64 k] w fun e w' => e = .returned (.int .i64 11) ∧ Fr (fun _ => False) w w' := by
  go_enter Tryd.func27, Tryd.ntmps27
  go_wp2
  go_ret
  exact ⟨by simp, Fr.refl _ _⟩
set_option maxRecDepth 20000 in
theorem x_has_nil (k : Int) (w : World) : Calls Tryd.prog 21 #[.pointer none, .int .i64 k] w fun e w' => e = .returned (.bool false) ∧ Fr (fun _ => False) w w' := by
  go_enter Tryd.func21, Tryd.ntmps21
  go_wp2
  go_ret
  exact ⟨by simp, Fr.refl _ _⟩
set_option maxRecDepth 20000 in
theorem x_used_nil (w : World) : Calls Tryd.prog 17 #[.pointer none] w fun e w' => e = .returned (.int .i64 0) ∧ Fr (fun _ => False) w w' := by
  go_enter Tryd.func17, Tryd.ntmps17
  go_wp2
  go_ret
  exact ⟨by simp, Fr.refl _ _⟩
set_option maxRecDepth 20000 in
theorem x_full_nil (w : World) : Calls Tryd.prog 19 #[.pointer none] w fun e w' => e = .returned (.bool false) ∧ Fr (fun _ => False) w w' := by
  go_enter Tryd.func19, Tryd.ntmps19
  go_wp2
  go_ret
  exact ⟨by simp, Fr.refl _ _⟩
set_option maxRecDepth 20000 in
theorem x_base_nil (w : World) : Calls Tryd.prog 23 #[.pointer none] w fun e w' => e = .returned (.int .i64 0) ∧ Fr (fun _ => False) w w' := by
  go_enter Tryd.func23, Tryd.ntmps23
  go_wp2
  go_ret
  exact ⟨by simp, Fr.refl _ _⟩
set_option maxRecDepth 20000 in
theorem x_kind_nil (w : World) : Calls Tryd.prog 24 #[.pointer none] w fun e w' => e = .returned (.int .i64 0) ∧ Fr (fun _ => False) w w' := by
  go_enter Tryd.func24, Tryd.ntmps24
  go_wp2
  go_ret
  exact ⟨by simp, Fr.refl _ _⟩
set_option maxRecDepth 20000 in
theorem x_copy_nil (w : World) : Calls Tryd.prog 36 #[.pointer none, .pointer none] w fun e w' => e = .returned (.pointer none) ∧ Fr (fun _ => False) w w' := by
  go_enter Tryd.func36, Tryd.ntmps36
  go_wp2
  go_ret
  exact ⟨by simp, Fr.refl _ _⟩
end
end Go.Proofs.YthndakhnhnipnaaDoor
