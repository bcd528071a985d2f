/-
  Bits are those of the key that they are taken apart to; unlike keys have unlike bits: the walk of the law HandleOne.
-/
import Derived.Test.YtaljdfncdpbjfaaHaState
namespace Go.Proofs.Ytaljdfncdpbjfaa
open Go.RowKit

set_option maxRecDepth 20000 in
set_option maxHeartbeats 2000000 in
theorem one_walk {h : Int} (h0 : 0 ≤ h) (h1 : h ≤ 18446744073709551615) (t1 s1 r1 n1 t2 s2 r2 n2 : Int) (w : World) : Calls Try.prog 6 #[.int .u64 h, .agg #[.int .i64 t1, .int .i64 s1, .int .i64 r1, .int .i64 n1], .agg #[.int .i64 t2, .int .i64 s2, .int .i64 r2, .int .i64 n2]] w fun e w' => e = .returned (.bool true) ∧ Fr (fun _ => False) w w' := by
  have HU := hid fun w => h_unpack h0 h1 w
  have HPA := hid fun w => h_pack t1 s1 r1 n1 w
  have HPB := hid fun w => h_pack t2 s2 r2 n2 w
  have HAL : Hid (KR t1 s1 r1 n1 → KR t2 s2 r2 n2 → (pkB t1 s1 r1 n1 = pkB t2 s2 r2 n2 ↔ t1 = t2 ∧ s1 = s2 ∧ r1 = r2 ∧ n1 = n2)) := alike
  have HK1 : Hid (Kb ((w.alloc (.cells #[.int .i64 t1, .int .i64 s1, .int .i64 r1, .int .i64 n1] 23)).alloc (.cells #[.int .i64 t2, .int .i64 s2, .int .i64 r2, .int .i64 n2] 23)) w.heap.size t1 s1 r1 n1) := (Kb.new w t1 s1 r1 n1).alloc _
  have HK2 : Hid (Kb ((w.alloc (.cells #[.int .i64 t1, .int .i64 s1, .int .i64 r1, .int .i64 n1] 23)).alloc (.cells #[.int .i64 t2, .int .i64 s2, .int .i64 r2, .int .i64 n2] 23)) (w.heap.size + 1) t2 s2 r2 n2) := by
    show Kb _ _ _ _ _ _
    have := Kb.new (w.alloc (.cells #[.int .i64 t1, .int .i64 s1, .int .i64 r1, .int .i64 n1] 23)) t2 s2 r2 n2
    simpa using this
  have HF0 : Hid (Fr (fun _ => False) w ((w.alloc (.cells #[.int .i64 t1, .int .i64 s1, .int .i64 r1, .int .i64 n1] 23)).alloc (.cells #[.int .i64 t2, .int .i64 s2, .int .i64 r2, .int .i64 n2] 23))) := ((Fr.refl _ _).alloc _).alloc _
  by_cases hb : HB h
  case pos =>
    have HPH := hid fun w => h_pack (h % 16) (h / 128 % 8192) (h / 16 % 8) (h / 1048576) w
    rw [pkE_yes hb, one hb] at HPH
    obtain ⟨u1, u2, u3, u4, u5⟩ := un_yes hb
    rw [u1, u2, u3, u4, u5] at HU
    clear u1 u2 u3 u4 u5 hb h0 h1
    generalize h % 16 = t0 at *
    generalize h / 128 % 8192 = s0 at *
    generalize h / 16 % 8 = r0 at *
    generalize h / 1048576 = n0 at *
    go_enter Try.func6, Try.ntmps6
    go_wp2_with fail
    refine (HU.out _).mono ?_
    rintro e w1 ⟨rfl, f1⟩
    have HK0 := hid (Kb.new w1 t0 s0 r0 n0)
    have HK11 := hid ((HK1.out.kept f1).alloc (.cells #[.int .i64 t0, .int .i64 s0, .int .i64 r0, .int .i64 n0] 23))
    have HK21 := hid ((HK2.out.kept f1).alloc (.cells #[.int .i64 t0, .int .i64 s0, .int .i64 r0, .int .i64 n0] 23))
    have HF1 := hid ((HF0.out.trans f1).alloc (.cells #[.int .i64 t0, .int .i64 s0, .int .i64 r0, .int .i64 n0] 23))
    clear f1 HK1 HK2 HF0
    have c0 := HK0.out.c0
    have c1 := HK0.out.c1
    have c2 := HK0.out.c2
    have c3 := HK0.out.c3
    go_wp2_with fail
    refine (HPH.out _).mono ?_
    rintro e w2 ⟨rfl, f2⟩
    have HK12 := hid (HK11.out.kept f2)
    have HK22 := hid (HK21.out.kept f2)
    have HF2 := hid (HF1.out.trans f2)
    clear f2 HK11 HK21 HF1
    clear c0 c1 c2 c3 HK0
    have a0 := HK12.out.c0
    have b0 := HK22.out.c0
    have a1 := HK12.out.c1
    have b1 := HK22.out.c1
    have a2 := HK12.out.c2
    have b2 := HK22.out.c2
    have a3 := HK12.out.c3
    have b3 := HK22.out.c3
    go_wp2_with fail
    refine (HPA.out _).mono ?_
    rintro e w3 ⟨rfl, f3⟩
    have HK13 := hid (HK12.out.kept f3)
    have HK23 := hid (HK22.out.kept f3)
    have HF3 := hid (HF2.out.trans f3)
    clear f3 HK12 HK22 HF2
    clear a0 b0 a1 b1 a2 b2 a3 b3
    have a0 := HK13.out.c0
    have b0 := HK23.out.c0
    have a1 := HK13.out.c1
    have b1 := HK23.out.c1
    have a2 := HK13.out.c2
    have b2 := HK23.out.c2
    have a3 := HK13.out.c3
    have b3 := HK23.out.c3
    go_wp2_with fail
    refine (HPB.out _).mono ?_
    rintro e w4 ⟨rfl, f4⟩
    have HK14 := hid (HK13.out.kept f4)
    have HK24 := hid (HK23.out.kept f4)
    have HF4 := hid (HF3.out.trans f4)
    clear f4 HK13 HK23 HF3
    clear a0 b0 a1 b1 a2 b2 a3 b3
    go_wp2_with fail
    refine (awake_f _).mono ?_
    rintro e w5 ⟨rfl, f5⟩
    have HK15 := hid (HK14.out.kept f5)
    have HK25 := hid (HK24.out.kept f5)
    have HF5 := hid (HF4.out.trans f5)
    clear f5 HK14 HK24 HF4
    have a0 := HK15.out.c0
    have b0 := HK25.out.c0
    have a1 := HK15.out.c1
    have b1 := HK25.out.c1
    have a2 := HK15.out.c2
    have b2 := HK25.out.c2
    have a3 := HK15.out.c3
    have b3 := HK25.out.c3
    by_cases ka : KR t1 s1 r1 n1
    case neg =>
      have hx : pkE t1 s1 r1 n1 = 12 := pkE_no ka
      clear HAL ka
      go_wp2
      go_ret
      exact ⟨by simp <;> assumption, HF5.out⟩
    have hx : pkE t1 s1 r1 n1 = 0 := pkE_yes ka
    by_cases kb : KR t2 s2 r2 n2
    case neg =>
      have hy : pkE t2 s2 r2 n2 = 12 := pkE_no kb
      clear HAL ka kb
      go_wp2
      go_ret
      exact ⟨by simp <;> assumption, HF5.out⟩
    have hy : pkE t2 s2 r2 n2 = 0 := pkE_yes kb
    have hal := HAL.out ka kb
    clear HAL ka kb HPA HPB
    generalize pkB t1 s1 r1 n1 = x at *
    generalize pkB t2 s2 r2 n2 = y at *
    generalize pkE t1 s1 r1 n1 = ex at *
    generalize pkE t2 s2 r2 n2 = ey at *
    by_cases q0 : t1 = t2
    case neg =>
      have hne : ¬ x = y := fun e => q0 (hal.1 e).1
      clear hal
      go_wp2
      go_ret
      exact ⟨by simp <;> assumption, HF5.out⟩
    by_cases q1 : s1 = s2
    case neg =>
      have hne : ¬ x = y := fun e => q1 (hal.1 e).2.1
      clear hal
      go_wp2
      go_ret
      exact ⟨by simp <;> assumption, HF5.out⟩
    by_cases q2 : r1 = r2
    case neg =>
      have hne : ¬ x = y := fun e => q2 (hal.1 e).2.2.1
      clear hal
      go_wp2
      go_ret
      exact ⟨by simp <;> assumption, HF5.out⟩
    by_cases q3 : n1 = n2
    case neg =>
      have hne : ¬ x = y := fun e => q3 (hal.1 e).2.2.2
      clear hal
      go_wp2
      go_ret
      exact ⟨by simp <;> assumption, HF5.out⟩
    have heq : x = y := hal.2 ⟨q0, q1, q2, q3⟩
    clear hal
    go_wp2
    go_ret
    exact ⟨by simp <;> assumption, HF5.out⟩
  case neg =>
    obtain ⟨u1, u2, u3, u4, u5⟩ := un_no hb
    rw [u1, u2, u3, u4, u5] at HU
    clear u1 u2 u3 u4 u5 hb h0 h1
    go_enter Try.func6, Try.ntmps6
    go_wp2_with fail
    refine (HU.out _).mono ?_
    rintro e w1 ⟨rfl, f1⟩
    have HK11 := hid ((HK1.out.kept f1).alloc (.cells #[.int .i64 0, .int .i64 0, .int .i64 0, .int .i64 0] 23))
    have HK21 := hid ((HK2.out.kept f1).alloc (.cells #[.int .i64 0, .int .i64 0, .int .i64 0, .int .i64 0] 23))
    have HF1 := hid ((HF0.out.trans f1).alloc (.cells #[.int .i64 0, .int .i64 0, .int .i64 0, .int .i64 0] 23))
    clear f1 HK1 HK2 HF0
    have a0 := HK11.out.c0
    have b0 := HK21.out.c0
    have a1 := HK11.out.c1
    have b1 := HK21.out.c1
    have a2 := HK11.out.c2
    have b2 := HK21.out.c2
    have a3 := HK11.out.c3
    have b3 := HK21.out.c3
    go_wp2_with fail
    refine (HPA.out _).mono ?_
    rintro e w2 ⟨rfl, f2⟩
    have HK12 := hid (HK11.out.kept f2)
    have HK22 := hid (HK21.out.kept f2)
    have HF2 := hid (HF1.out.trans f2)
    clear f2 HK11 HK21 HF1
    clear a0 b0 a1 b1 a2 b2 a3 b3
    have a0 := HK12.out.c0
    have b0 := HK22.out.c0
    have a1 := HK12.out.c1
    have b1 := HK22.out.c1
    have a2 := HK12.out.c2
    have b2 := HK22.out.c2
    have a3 := HK12.out.c3
    have b3 := HK22.out.c3
    go_wp2_with fail
    refine (HPB.out _).mono ?_
    rintro e w3 ⟨rfl, f3⟩
    have HK13 := hid (HK12.out.kept f3)
    have HK23 := hid (HK22.out.kept f3)
    have HF3 := hid (HF2.out.trans f3)
    clear f3 HK12 HK22 HF2
    clear a0 b0 a1 b1 a2 b2 a3 b3
    go_wp2_with fail
    refine (awake_f _).mono ?_
    rintro e w4 ⟨rfl, f4⟩
    have HK14 := hid (HK13.out.kept f4)
    have HK24 := hid (HK23.out.kept f4)
    have HF4 := hid (HF3.out.trans f4)
    clear f4 HK13 HK23 HF3
    have a0 := HK14.out.c0
    have b0 := HK24.out.c0
    have a1 := HK14.out.c1
    have b1 := HK24.out.c1
    have a2 := HK14.out.c2
    have b2 := HK24.out.c2
    have a3 := HK14.out.c3
    have b3 := HK24.out.c3
    by_cases ka : KR t1 s1 r1 n1
    case neg =>
      have hx : pkE t1 s1 r1 n1 = 12 := pkE_no ka
      clear HAL ka
      go_wp2
      go_ret
      exact ⟨by simp <;> assumption, HF4.out⟩
    have hx : pkE t1 s1 r1 n1 = 0 := pkE_yes ka
    by_cases kb : KR t2 s2 r2 n2
    case neg =>
      have hy : pkE t2 s2 r2 n2 = 12 := pkE_no kb
      clear HAL ka kb
      go_wp2
      go_ret
      exact ⟨by simp <;> assumption, HF4.out⟩
    have hy : pkE t2 s2 r2 n2 = 0 := pkE_yes kb
    have hal := HAL.out ka kb
    clear HAL ka kb HPA HPB
    generalize pkB t1 s1 r1 n1 = x at *
    generalize pkB t2 s2 r2 n2 = y at *
    generalize pkE t1 s1 r1 n1 = ex at *
    generalize pkE t2 s2 r2 n2 = ey at *
    by_cases q0 : t1 = t2
    case neg =>
      have hne : ¬ x = y := fun e => q0 (hal.1 e).1
      clear hal
      go_wp2
      go_ret
      exact ⟨by simp <;> assumption, HF4.out⟩
    by_cases q1 : s1 = s2
    case neg =>
      have hne : ¬ x = y := fun e => q1 (hal.1 e).2.1
      clear hal
      go_wp2
      go_ret
      exact ⟨by simp <;> assumption, HF4.out⟩
    by_cases q2 : r1 = r2
    case neg =>
      have hne : ¬ x = y := fun e => q2 (hal.1 e).2.2.1
      clear hal
      go_wp2
      go_ret
      exact ⟨by simp <;> assumption, HF4.out⟩
    by_cases q3 : n1 = n2
    case neg =>
      have hne : ¬ x = y := fun e => q3 (hal.1 e).2.2.2
      clear hal
      go_wp2
      go_ret
      exact ⟨by simp <;> assumption, HF4.out⟩
    have heq : x = y := hal.2 ⟨q0, q1, q2, q3⟩
    clear hal
    go_wp2
    go_ret
    exact ⟨by simp <;> assumption, HF4.out⟩
end Go.Proofs.Ytaljdfncdpbjfaa
