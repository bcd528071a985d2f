/-
  What place's Within, At and Addr answer, at the landed code, whatever lies in memory.
-/
import Derived.Test.YtioplfbkfokkfaaGreatDoorRows
import Derived.Test.YtioplfbkfokkfaaGreatDoorSeen
import Derived.Test.YtioplfbkfokkfaaGreatDoorPlFloat
import Derived.WalkMore
import Derived.Deep.QuietTactic
import Derived.BigQuiet
import Derived.Deep.RegionHeld3
namespace Go.Proofs.YtioplfbkfokkfaaGreatDoor.Pt
open Go.RowKit

def K (w0 w : World) : Prop := Fr (fun _ => False) w0 w
theorem pw {x : Int} (h : -9223372036854775808 ≤ x ∧ x ≤ 9223372036854775807) : IntKind.i64.wrap x = x := by rw [IntKind.wrap_i64]; omega
section
variable {w0 w : World}
set_option maxRecDepth 20000 in
theorem l_within (a n : Int) (ha : I64 a) (_hn : I64 n) (k : K w0 w) : Calls Tryz.prog 178 #[.int .i64 a, .int .i64 n] w fun e w' => e = .returned (.bool (decide (InW a n))) ∧ K w0 w' := by
  have HK := hid k
  clear k
  by_cases h0 : 0 ≤ n
  · by_cases h1 : 131072 ≤ a
    · have hm : Hid (decide (InW a n) = decide (n ≤ 3276800 - a)) := decide_eq_decide.2 (by omega)
      generalize decide (InW a n) = r at *
      go_enter Tryz.func178, Tryz.ntmps178
      go_wp2
      go_ret
      exact ⟨by rw [hm.out]; rfl, HK.out⟩
    · have hm : Hid (decide (InW a n) = false) := decide_eq_false (p := InW a n) (by omega)
      generalize decide (InW a n) = r at *
      clear ha
      go_enter Tryz.func178, Tryz.ntmps178
      go_wp2
      go_ret
      exact ⟨by rw [hm.out]; rfl, HK.out⟩
  · have hm : Hid (decide (InW a n) = false) := decide_eq_false (p := InW a n) (by omega)
    generalize decide (InW a n) = r at *
    clear ha
    go_enter Tryz.func178, Tryz.ntmps178
    go_wp2
    go_ret
    exact ⟨by rw [hm.out]; rfl, HK.out⟩
set_option maxRecDepth 20000 in
theorem b_in (a : Int) (ha : I64 a) (k : K w0 w) : Calls Tryz.prog 218 #[.int .i64 a] w fun e w' => e = .returned (.bool (decide (Win a))) ∧ K w0 w' := by
  have H1 := hid (l_within a 1 ha (by decide) k)
  have hm : Hid (decide (Win a) = decide (InW a 1)) := decide_eq_decide.2 (by omega)
  rw [hm.out]
  clear ha k hm
  generalize decide (InW a 1) = r at *
  go_enter Tryz.func218, Tryz.ntmps218
  go_wp2_with fail
  refine H1.out.mono ?_
  rintro e w' ⟨rfl, hk⟩
  have HK := hid hk
  clear hk
  go_wp2
  go_ret
  exact ⟨rfl, HK.out⟩
set_option maxRecDepth 20000 in
theorem l_at {a : Int} (h : Win a) (k : K w0 w) : Calls Tryz.prog 179 #[.int .i64 a] w fun e w' => e = .returned (.tuple #[.complex .f64 (fb (a / 512)) (fb (a % 512)), .int .i64 0]) ∧ K w0 w' := by
  have H1 := hid (b_in a (by omega) k)
  rw [decide_eq_true h] at H1
  have t1 : Int.tdiv a 512 = a / 512 := Int.tdiv_eq_ediv_of_nonneg (by omega)
  have t2 : Int.tmod a 512 = a % 512 := Int.tmod_eq_emod_of_nonneg (by omega)
  have t3 := pw (x := a / 512) (by omega)
  have t4 := pw (x := a % 512) (by omega)
  clear h k
  generalize a / 512 = p at *
  generalize a % 512 = q at *
  show Calls Tryz.prog 179 #[.int .i64 a] w fun e w' => e = .returned (.tuple #[.complex .f64 (floatOfInt .f64 p) (floatOfInt .f64 q), .int .i64 0]) ∧ K w0 w'
  go_enter Tryz.func179, Tryz.ntmps179
  go_wp2_with fail
  refine H1.out.mono ?_
  rintro e w1 ⟨rfl, hk⟩
  have HK1 := hid hk
  clear hk
  go_wp2
  go_ret2
  exact ⟨by simp, HK1.out⟩
theorem conv_f (x : Nat) (q : Int) (hq : floatToIntVal .f64 x .i64 = some q) (w : World) : (convert 141 3 (.float .f64 x)).run Tryz.prog w = .ok (.int .i64 q) w :=
  run_convert_float_int w _ _ .f64 .i64 x q (by rw [Tryz.underlying141]; rfl) Tryz.underlying3 hq
theorem whB_lit (x y : Nat) : (whB x 256 6400 && whB y 0 512) = (((FloatKind.f64.format.order x 4643211215818981376 == some .gt || FloatKind.f64.format.order x 4643211215818981376 == some .eq) && (FloatKind.f64.format.order x 4663758889118859264 == some .lt) && (match floatToIntVal .f64 x .i64 with | some q => FloatKind.f64.format.order (floatOfInt .f64 q) x == some .eq | none => false)) && ((FloatKind.f64.format.order y 0 == some .gt || FloatKind.f64.format.order y 0 == some .eq) && (FloatKind.f64.format.order y 4647714815446351872 == some .lt) && (match floatToIntVal .f64 y .i64 with | some q => FloatKind.f64.format.order (floatOfInt .f64 q) y == some .eq | none => false))) := by
  unfold whB geB ltB
  rw [← fb256, ← fb6400, ← fb512, fb_zero]
  rfl
theorem mid_lit {x : Nat} (h1 : (FloatKind.f64.format.order x 4643211215818981376 == some .gt || FloatKind.f64.format.order x 4643211215818981376 == some .eq) = true) (h2 : (FloatKind.f64.format.order x 4663758889118859264 == some .lt) = true) : ∃ q : Int, floatToIntVal .f64 x .i64 = some q ∧ 256 ≤ q ∧ q < 6400 := raw_mid x 256 6400 (by decide) (by decide) (by decide) (by decide) (by unfold geB; rw [← fb256]; exact h1) (by unfold ltB; rw [← fb6400]; exact h2)
theorem mid_lit2 {y : Nat} (h1 : (FloatKind.f64.format.order y 0 == some .gt || FloatKind.f64.format.order y 0 == some .eq) = true) (h2 : (FloatKind.f64.format.order y 4647714815446351872 == some .lt) = true) : ∃ q : Int, floatToIntVal .f64 y .i64 = some q ∧ 0 ≤ q ∧ q < 512 := raw_mid y 0 512 (by decide) (by decide) (by decide) (by decide) (by unfold geB; rw [fb_zero]; exact h1) (by unfold ltB; rw [← fb512]; exact h2)
set_option maxRecDepth 20000 in
set_option maxHeartbeats 4000000 in
theorem addr_out0 {x y : Nat} (g1 : (FloatKind.f64.format.order x 4643211215818981376 == some .gt || FloatKind.f64.format.order x 4643211215818981376 == some .eq) = false) (k : K w0 w) : Calls Tryz.prog 246 #[.complex .f64 x y] w fun e w' => e = .returned (.tuple #[.int .i64 0, .int .i64 4]) ∧ K w0 w' := by
  have HK := hid k
  clear k
  go_enter Tryz.func246, Tryz.ntmps246
  go_wp2
  go_ret2
  exact ⟨by simp, HK.out⟩
set_option maxRecDepth 20000 in
set_option maxHeartbeats 4000000 in
theorem addr_out1 {x y : Nat} (g1 : (FloatKind.f64.format.order x 4643211215818981376 == some .gt || FloatKind.f64.format.order x 4643211215818981376 == some .eq) = true) (l1 : (FloatKind.f64.format.order x 4663758889118859264 == some .lt) = false) (k : K w0 w) : Calls Tryz.prog 246 #[.complex .f64 x y] w fun e w' => e = .returned (.tuple #[.int .i64 0, .int .i64 4]) ∧ K w0 w' := by
  have HK := hid k
  clear k
  go_enter Tryz.func246, Tryz.ntmps246
  go_wp2
  go_ret2
  exact ⟨by simp, HK.out⟩
set_option maxRecDepth 20000 in
set_option maxHeartbeats 4000000 in
theorem addr_out2 {x y : Nat} (g1 : (FloatKind.f64.format.order x 4643211215818981376 == some .gt || FloatKind.f64.format.order x 4643211215818981376 == some .eq) = true) (l1 : (FloatKind.f64.format.order x 4663758889118859264 == some .lt) = true) (g2 : (FloatKind.f64.format.order y 0 == some .gt || FloatKind.f64.format.order y 0 == some .eq) = false) (k : K w0 w) : Calls Tryz.prog 246 #[.complex .f64 x y] w fun e w' => e = .returned (.tuple #[.int .i64 0, .int .i64 4]) ∧ K w0 w' := by
  have HK := hid k
  clear k
  go_enter Tryz.func246, Tryz.ntmps246
  go_wp2
  go_ret2
  exact ⟨by simp, HK.out⟩
set_option maxRecDepth 20000 in
set_option maxHeartbeats 4000000 in
theorem addr_out3 {x y : Nat} (g1 : (FloatKind.f64.format.order x 4643211215818981376 == some .gt || FloatKind.f64.format.order x 4643211215818981376 == some .eq) = true) (l1 : (FloatKind.f64.format.order x 4663758889118859264 == some .lt) = true) (g2 : (FloatKind.f64.format.order y 0 == some .gt || FloatKind.f64.format.order y 0 == some .eq) = true) (l2 : (FloatKind.f64.format.order y 4647714815446351872 == some .lt) = false) (k : K w0 w) : Calls Tryz.prog 246 #[.complex .f64 x y] w fun e w' => e = .returned (.tuple #[.int .i64 0, .int .i64 4]) ∧ K w0 w' := by
  have HK := hid k
  clear k
  go_enter Tryz.func246, Tryz.ntmps246
  go_wp2
  go_ret2
  exact ⟨by simp, HK.out⟩
set_option maxRecDepth 20000 in
set_option maxHeartbeats 4000000 in
theorem addr_yes {x y : Nat} (g1 : (FloatKind.f64.format.order x 4643211215818981376 == some .gt || FloatKind.f64.format.order x 4643211215818981376 == some .eq) = true) (l1 : (FloatKind.f64.format.order x 4663758889118859264 == some .lt) = true) (g2 : (FloatKind.f64.format.order y 0 == some .gt || FloatKind.f64.format.order y 0 == some .eq) = true) (l2 : (FloatKind.f64.format.order y 4647714815446351872 == some .lt) = true) (p q : Int) (v1 : ∀ w, (convert 141 3 (.float .f64 x)).run Tryz.prog w = .ok (.int .i64 p) w) (v2 : ∀ w, (convert 141 3 (.float .f64 y)).run Tryz.prog w = .ok (.int .i64 q) w) (b1 : 256 ≤ p) (b2 : p < 6400) (b3 : 0 ≤ q) (b4 : q < 512) (e1 : (FloatKind.f64.format.order (floatOfInt .f64 p) x == some .eq) = true) (e2 : (FloatKind.f64.format.order (floatOfInt .f64 q) y == some .eq) = true) (k : K w0 w) : Calls Tryz.prog 246 #[.complex .f64 x y] w fun e w' => e = .returned (.tuple #[.int .i64 (p * 512 + q), .int .i64 0]) ∧ K w0 w' := by
  have H1 : Hid (Calls Tryz.prog 179 #[.int .i64 (p * 512 + q)] w fun e w' => e = .returned (.tuple #[.complex .f64 (floatOfInt .f64 p) (floatOfInt .f64 q), .int .i64 0]) ∧ K w0 w') := by
    have := l_at (a := p * 512 + q) (by omega) k
    rw [show (p * 512 + q) / 512 = p by omega, show (p * 512 + q) % 512 = q by omega] at this
    exact this
  clear k
  go_enter Tryz.func246, Tryz.ntmps246
  go_wp2_with fail
  refine H1.out.mono ?_
  rintro e w1 ⟨rfl, hk⟩
  have HK := hid hk
  clear hk
  go_wp2
  go_ret2
  exact ⟨by simp, HK.out⟩
set_option maxRecDepth 20000 in
set_option maxHeartbeats 4000000 in
theorem addr_fr1 {x y : Nat} (g1 : (FloatKind.f64.format.order x 4643211215818981376 == some .gt || FloatKind.f64.format.order x 4643211215818981376 == some .eq) = true) (l1 : (FloatKind.f64.format.order x 4663758889118859264 == some .lt) = true) (g2 : (FloatKind.f64.format.order y 0 == some .gt || FloatKind.f64.format.order y 0 == some .eq) = true) (l2 : (FloatKind.f64.format.order y 4647714815446351872 == some .lt) = true) (p q : Int) (v1 : ∀ w, (convert 141 3 (.float .f64 x)).run Tryz.prog w = .ok (.int .i64 p) w) (v2 : ∀ w, (convert 141 3 (.float .f64 y)).run Tryz.prog w = .ok (.int .i64 q) w) (b1 : 256 ≤ p) (b2 : p < 6400) (b3 : 0 ≤ q) (b4 : q < 512) (e1 : (FloatKind.f64.format.order (floatOfInt .f64 p) x == some .eq) = false) (k : K w0 w) : Calls Tryz.prog 246 #[.complex .f64 x y] w fun e w' => e = .returned (.tuple #[.int .i64 0, .int .i64 4]) ∧ K w0 w' := by
  have H1 : Hid (Calls Tryz.prog 179 #[.int .i64 (p * 512 + q)] w fun e w' => e = .returned (.tuple #[.complex .f64 (floatOfInt .f64 p) (floatOfInt .f64 q), .int .i64 0]) ∧ K w0 w') := by
    have := l_at (a := p * 512 + q) (by omega) k
    rw [show (p * 512 + q) / 512 = p by omega, show (p * 512 + q) % 512 = q by omega] at this
    exact this
  clear k
  go_enter Tryz.func246, Tryz.ntmps246
  go_wp2_with fail
  refine H1.out.mono ?_
  rintro e w1 ⟨rfl, hk⟩
  have HK := hid hk
  clear hk
  go_wp2
  go_ret2
  exact ⟨by simp, HK.out⟩
set_option maxRecDepth 20000 in
set_option maxHeartbeats 4000000 in
theorem addr_fr2 {x y : Nat} (g1 : (FloatKind.f64.format.order x 4643211215818981376 == some .gt || FloatKind.f64.format.order x 4643211215818981376 == some .eq) = true) (l1 : (FloatKind.f64.format.order x 4663758889118859264 == some .lt) = true) (g2 : (FloatKind.f64.format.order y 0 == some .gt || FloatKind.f64.format.order y 0 == some .eq) = true) (l2 : (FloatKind.f64.format.order y 4647714815446351872 == some .lt) = true) (p q : Int) (v1 : ∀ w, (convert 141 3 (.float .f64 x)).run Tryz.prog w = .ok (.int .i64 p) w) (v2 : ∀ w, (convert 141 3 (.float .f64 y)).run Tryz.prog w = .ok (.int .i64 q) w) (b1 : 256 ≤ p) (b2 : p < 6400) (b3 : 0 ≤ q) (b4 : q < 512) (e1 : (FloatKind.f64.format.order (floatOfInt .f64 p) x == some .eq) = true) (e2 : (FloatKind.f64.format.order (floatOfInt .f64 q) y == some .eq) = false) (k : K w0 w) : Calls Tryz.prog 246 #[.complex .f64 x y] w fun e w' => e = .returned (.tuple #[.int .i64 0, .int .i64 4]) ∧ K w0 w' := by
  have H1 : Hid (Calls Tryz.prog 179 #[.int .i64 (p * 512 + q)] w fun e w' => e = .returned (.tuple #[.complex .f64 (floatOfInt .f64 p) (floatOfInt .f64 q), .int .i64 0]) ∧ K w0 w') := by
    have := l_at (a := p * 512 + q) (by omega) k
    rw [show (p * 512 + q) / 512 = p by omega, show (p * 512 + q) % 512 = q by omega] at this
    exact this
  clear k
  go_enter Tryz.func246, Tryz.ntmps246
  go_wp2_with fail
  refine H1.out.mono ?_
  rintro e w1 ⟨rfl, hk⟩
  have HK := hid hk
  clear hk
  go_wp2
  go_ret2
  exact ⟨by simp, HK.out⟩
theorem l_addr_no {x y : Nat} (h : (whB x 256 6400 && whB y 0 512) = false) (k : K w0 w) : Calls Tryz.prog 246 #[.complex .f64 x y] w fun e w' => e = .returned (.tuple #[.int .i64 0, .int .i64 4]) ∧ K w0 w' := by
  cases g1 : (FloatKind.f64.format.order x 4643211215818981376 == some .gt || FloatKind.f64.format.order x 4643211215818981376 == some .eq) with
  | false => exact addr_out0 g1 k
  | true =>
  cases l1 : (FloatKind.f64.format.order x 4663758889118859264 == some .lt) with
  | false => exact addr_out1 g1 l1 k
  | true =>
  cases g2 : (FloatKind.f64.format.order y 0 == some .gt || FloatKind.f64.format.order y 0 == some .eq) with
  | false => exact addr_out2 g1 l1 g2 k
  | true =>
  cases l2 : (FloatKind.f64.format.order y 4647714815446351872 == some .lt) with
  | false => exact addr_out3 g1 l1 g2 l2 k
  | true =>
  obtain ⟨p, hp, b1, b2⟩ := mid_lit g1 l1
  obtain ⟨q, hq, b3, b4⟩ := mid_lit2 g2 l2
  cases e1 : (FloatKind.f64.format.order (floatOfInt .f64 p) x == some .eq) with
  | false => exact addr_fr1 g1 l1 g2 l2 p q (conv_f x p hp) (conv_f y q hq) b1 b2 b3 b4 e1 k
  | true =>
  cases e2 : (FloatKind.f64.format.order (floatOfInt .f64 q) y == some .eq) with
  | false => exact addr_fr2 g1 l1 g2 l2 p q (conv_f x p hp) (conv_f y q hq) b1 b2 b3 b4 e1 e2 k
  | true =>
    exfalso
    rw [whB_lit, hp, hq] at h
    simp only [g1, l1, g2, l2, e1, e2] at h
    exact absurd h (by decide)
theorem l_addr {x y : Nat} {p q : Int} (h : (whB x 256 6400 && whB y 0 512) = true) (hp : floatToIntVal .f64 x .i64 = some p) (hq : floatToIntVal .f64 y .i64 = some q) (k : K w0 w) : Calls Tryz.prog 246 #[.complex .f64 x y] w fun e w' => e = .returned (.tuple #[.int .i64 (p * 512 + q), .int .i64 0]) ∧ K w0 w' := by
  rw [whB_lit, hp, hq] at h
  simp only [Bool.and_eq_true] at h
  obtain ⟨⟨⟨g1, l1⟩, e1⟩, ⟨g2, l2⟩, e2⟩ := h
  obtain ⟨p', hp', b1, b2⟩ := mid_lit g1 l1
  obtain ⟨q', hq', b3, b4⟩ := mid_lit2 g2 l2
  obtain rfl : p = p' := Option.some.inj (hp.symm.trans hp')
  obtain rfl : q = q' := Option.some.inj (hq.symm.trans hq')
  exact addr_yes g1 l1 g2 l2 p q (conv_f x p hp) (conv_f y q hq) b1 b2 b3 b4 e1 e2 k
theorem win_great (s : Bool) (r : Nat) (h0 : 4845873199050653696 ≤ r) (h1 : r ≤ 9218868437227405312) : whB (Ieee.double.word s r) 256 6400 = false := by
  obtain ⟨t0, m0, i0, K0, e0, a0, b0, c0⟩ := (Is.fb 256 (by decide)).scale
  obtain ⟨t1, m1, i1, K1, e1, a1, b1, c1⟩ := (Is.fb 6400 (by decide)).scale
  have i0' := Is.fb 256 (by decide)
  have i1' := Is.fb 6400 (by decide)
  have key : ((Ieee.double.read (Ieee.double.word s r)).order (Ieee.double.read (fb 256)) == some .gt || (Ieee.double.read (Ieee.double.word s r)).order (Ieee.double.read (fb 256)) == some .eq) = false ∨ ((Ieee.double.read (Ieee.double.word s r)).order (Ieee.double.read (fb 6400)) == some .lt) = false := by
    by_cases hr : r < 9218868437227405312
    · rw [read_word s r (by omega) hr]
      have hK : (0 : Int) ≤ -1074 + ((r / 4503599627370496 - 1 : Nat) : Int) + ((0 : Nat) : Int) := by omega
      rw [order_val hK i0', order_val hK i1']
      simp only [Option.some_beq_some]
      rw [cmp_ge]
      obtain ⟨k, hk⟩ : ∃ k, (-1074 + ((r / 4503599627370496 - 1 : Nat) : Int) + ((0 : Nat) : Int)).toNat = k := ⟨_, rfl⟩
      rw [hk]
      have hp := Nat.two_pow_pos k
      have : 4503599627370496 ≤ (4503599627370496 + r % 4503599627370496) * 2 ^ k := Nat.le_trans (Nat.le_add_right _ _) (Nat.le_mul_of_pos_right _ hp)
      cases s
      · right
        unfold Ieee.signed
        rw [if_neg (by decide), Nat.shiftLeft_eq]
        generalize (4503599627370496 + r % 4503599627370496) * 2 ^ k = v at *
        apply Bool.eq_false_iff.2
        intro h
        have := Int.compare_eq_lt.1 (eq_of_beq h)
        simp at this
        omega
      · left
        unfold Ieee.signed
        rw [if_pos rfl, Nat.shiftLeft_eq]
        generalize (4503599627370496 + r % 4503599627370496) * 2 ^ k = v at *
        simp
        omega
    · obtain rfl : r = 9218868437227405312 := by omega
      rw [read_inf, e0, e1]
      cases s
      · right; rfl
      · left; rfl
  unfold whB geB ltB
  show (((Ieee.double.read (Ieee.double.word s r)).order (Ieee.double.read (fb 256)) == some .gt || (Ieee.double.read (Ieee.double.word s r)).order (Ieee.double.read (fb 256)) == some .eq) && ((Ieee.double.read (Ieee.double.word s r)).order (Ieee.double.read (fb 6400)) == some .lt) && _) = false
  rcases key with k | k <;> rw [k] <;> simp
theorem wh_of {x : Nat} {n L T : Int} (h : Wh x n) (hn : n.natAbs < 9007199254740992) (hL : L.natAbs < 9007199254740992) (hT : T.natAbs < 9007199254740992) : whB x L T = decide (L ≤ n ∧ n < T) := by
  unfold whB geB ltB
  rw [h.order (Wh.of L hL), h.order (Wh.of T hT), h.int (by omega) (by omega)]
  simp only [(Wh.of n hn).order h, Option.some_beq_some]
  rw [cmp_ge]
  have e1 : (compare n n == Ordering.eq) = true := by rw [cmp_eq]; simp
  rw [e1, Bool.and_true]
  by_cases c : n < T
  · rw [show (compare n T == Ordering.lt) = true by rw [Int.compare_eq_lt.2 c]; rfl]
    simp [c]
  · rw [show (compare n T == Ordering.lt) = false by apply Bool.eq_false_iff.2; intro h; exact c (Int.compare_eq_lt.1 (eq_of_beq h))]
    simp [c]
theorem win_fb (v : Int) : (whB (fb v) 256 6400 && whB 0 0 512) = decide (256 ≤ v ∧ v ≤ 6399) := by
  have h0 : whB 0 0 512 = true := by
    rw [← fb_zero, wh_of (Wh.of 0 (by decide)) (by decide) (by decide) (by decide)]; rfl
  rw [h0, Bool.and_true]
  by_cases h : v.natAbs < 9007199254740992
  · rw [wh_of (Wh.of v h) h (by decide) (by decide)]
    exact decide_eq_decide.2 (by omega)
  · obtain ⟨r, e, r1, r2⟩ := nearest_great (decide (v < 0)) v.natAbs (by omega)
    rw [fb_eq, e, win_great _ _ r1 r2]
    symm
    rw [decide_eq_false_iff_not]
    omega
end
end Go.Proofs.YtioplfbkfokkfaaGreatDoor.Pt
