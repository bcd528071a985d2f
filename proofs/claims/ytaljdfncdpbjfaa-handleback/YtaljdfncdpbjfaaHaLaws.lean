/-
  The walks of the laws HandlePacks, HandleUnpacks, HandleBack and HandleOne.
-/
import Derived.Test.YtaljdfncdpbjfaaHaState
namespace Go.Proofs.Ytaljdfncdpbjfaa
open Go.RowKit

set_option maxRecDepth 20000 in
set_option maxHeartbeats 1000000 in
theorem packs_walk (t s r n : Int) (w : World) : Calls Try.prog 3 #[.agg #[.int .i64 t, .int .i64 s, .int .i64 r, .int .i64 n]] w fun e w' => e = .returned (.bool true) ∧ Fr (fun _ => False) w w' := by
  have H1 := hid fun w => h_pack t s r n w
  have H2 := hid fun w => e_pack t s r n w
  have H3 := hid fun w => h_check t s r n w
  have HA0 := hid (Kb.new w t s r n)
  generalize pkB t s r n = b at *
  generalize pkE t s r n = x at *
  have c0 := HA0.out.c0
  have c1 := HA0.out.c1
  have c2 := HA0.out.c2
  have c3 := HA0.out.c3
  go_enter Try.func3, Try.ntmps3
  go_wp2_with fail
  refine (H1.out _).mono ?_
  rintro e w1 ⟨rfl, f1⟩
  have HA1 := hid (HA0.out.kept f1)
  have HF1 := hid (((Fr.refl (fun _ => False) w).alloc _).trans f1)
  clear f1 c0 c1 c2 c3 HA0
  have c0 := HA1.out.c0
  have c1 := HA1.out.c1
  have c2 := HA1.out.c2
  have c3 := HA1.out.c3
  go_wp2_with fail
  refine (H2.out _).mono ?_
  rintro e w2 ⟨rfl, f2⟩
  have HA2 := hid (HA1.out.kept f2)
  have HF2 := hid (HF1.out.trans f2)
  clear f2 c0 c1 c2 c3 HA1 HF1
  go_wp2_with fail
  refine (awake_f _).mono ?_
  rintro e w3 ⟨rfl, f3⟩
  have HA3 := hid (HA2.out.kept f3)
  have HF3 := hid (HF2.out.trans f3)
  clear f3 HA2 HF2
  have c0 := HA3.out.c0
  have c1 := HA3.out.c1
  have c2 := HA3.out.c2
  have c3 := HA3.out.c3
  go_wp2_with fail
  refine (H3.out _).mono ?_
  rintro e w4 ⟨rfl, f4⟩
  have HF4 := hid (HF3.out.trans f4)
  clear f4
  go_wp2
  go_ret
  exact ⟨by simp, HF4.out⟩
set_option maxRecDepth 20000 in
set_option maxHeartbeats 1000000 in
theorem unpacks_walk {h : Int} (h0 : 0 ≤ h) (h1 : h ≤ 18446744073709551615) (w : World) : Calls Try.prog 4 #[.int .u64 h] w fun e w' => e = .returned (.bool true) ∧ Fr (fun _ => False) w w' := by
  have H1 := hid fun w => h_unpack h0 h1 w
  have H2 := hid fun w => e_unpack h0 h1 w
  generalize unT h = t at *
  generalize unS h = s at *
  generalize unR h = r at *
  generalize unN h = n at *
  generalize unE h = x at *
  clear h0 h1
  go_enter Try.func4, Try.ntmps4
  go_wp2_with fail
  refine (H1.out _).mono ?_
  rintro e w1 ⟨rfl, f1⟩
  have HA1 := hid (Kb.new w1 t s r n)
  have HF1 := hid (Fr.alloc f1 (.cells #[.int .i64 t, .int .i64 s, .int .i64 r, .int .i64 n] 23))
  clear f1
  go_wp2_with fail
  refine (H2.out _).mono ?_
  rintro e w2 ⟨rfl, f2⟩
  have HA2 := hid ((HA1.out.kept f2).alloc (.cells #[.int .i64 t, .int .i64 s, .int .i64 r, .int .i64 n] 23))
  have HB2 := hid (Kb.new w2 t s r n)
  have HF2 := hid ((HF1.out.trans f2).alloc (.cells #[.int .i64 t, .int .i64 s, .int .i64 r, .int .i64 n] 23))
  clear f2 HA1 HF1
  go_wp2_with fail
  refine (awake_f _).mono ?_
  rintro e w3 ⟨rfl, f3⟩
  have HA3 := hid (HA2.out.kept f3)
  have HB3 := hid (HB2.out.kept f3)
  have HF3 := hid (HF2.out.trans f3)
  clear f3 HA2 HB2 HF2
  have c0 := HA3.out.c0
  have c1 := HA3.out.c1
  have c2 := HA3.out.c2
  have c3 := HA3.out.c3
  have d0 := HB3.out.c0
  have d1 := HB3.out.c1
  have d2 := HB3.out.c2
  have d3 := HB3.out.c3
  go_wp2
  go_ret
  exact ⟨by simp, HF3.out⟩
set_option maxRecDepth 20000 in
set_option maxHeartbeats 1000000 in
theorem back_walk (t s r n : Int) (w : World) : Calls Try.prog 5 #[.agg #[.int .i64 t, .int .i64 s, .int .i64 r, .int .i64 n]] w fun e w' => e = .returned (.bool true) ∧ Fr (fun _ => False) w w' := by
  have H1 := hid fun w => h_pack t s r n w
  have HA0 := hid (Kb.new w t s r n)
  have c0 := HA0.out.c0
  have c1 := HA0.out.c1
  have c2 := HA0.out.c2
  have c3 := HA0.out.c3
  by_cases hk : KR t s r n
  · have H2 := hid fun w => h_unpack (pkB_range t s r n).1 (pkB_range t s r n).2 w
    obtain ⟨u1, u2, u3, u4, u5⟩ := back_un hk
    rw [u1, u2, u3, u4, u5] at H2
    rw [pkE_yes hk] at H1
    clear u1 u2 u3 u4 u5 hk
    generalize pkB t s r n = b at *
    go_enter Try.func5, Try.ntmps5
    go_wp2_with fail
    refine (H1.out _).mono ?_
    rintro e w1 ⟨rfl, f1⟩
    have HA1 := hid (HA0.out.kept f1)
    have HF1 := hid (((Fr.refl (fun _ => False) w).alloc _).trans f1)
    clear f1 c0 c1 c2 c3 HA0
    go_wp2_with fail
    refine (H2.out _).mono ?_
    rintro e w2 ⟨rfl, f2⟩
    have HA2 := hid ((HA1.out.kept f2).alloc (.cells #[.int .i64 t, .int .i64 s, .int .i64 r, .int .i64 n] 23))
    have HB2 := hid (Kb.new w2 t s r n)
    have HF2 := hid ((HF1.out.trans f2).alloc (.cells #[.int .i64 t, .int .i64 s, .int .i64 r, .int .i64 n] 23))
    clear f2 HA1 HF1
    go_wp2_with fail
    refine (awake_f _).mono ?_
    rintro e w3 ⟨rfl, f3⟩
    have HA3 := hid (HA2.out.kept f3)
    have HB3 := hid (HB2.out.kept f3)
    have HF3 := hid (HF2.out.trans f3)
    clear f3 HA2 HB2 HF2
    have c0 := HA3.out.c0
    have c1 := HA3.out.c1
    have c2 := HA3.out.c2
    have c3 := HA3.out.c3
    have d0 := HB3.out.c0
    have d1 := HB3.out.c1
    have d2 := HB3.out.c2
    have d3 := HB3.out.c3
    go_wp2
    go_ret
    exact ⟨by simp, HF3.out⟩
  · rw [pkE_no hk, pkB_no hk] at H1
    clear hk
    go_enter Try.func5, Try.ntmps5
    go_wp2_with fail
    refine (H1.out _).mono ?_
    rintro e w1 ⟨rfl, f1⟩
    have HF1 := hid (((Fr.refl (fun _ => False) w).alloc _).trans f1)
    clear f1
    go_wp2_with fail
    refine (awake_f _).mono ?_
    rintro e w2 ⟨rfl, f2⟩
    have HF2 := hid (HF1.out.trans f2)
    clear f2
    go_wp2
    go_ret
    exact ⟨by simp, HF2.out⟩
end Go.Proofs.Ytaljdfncdpbjfaa
