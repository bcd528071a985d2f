/-
  The document's own examples stand, so the laws are awake.
-/
import Derived.Test.YtaljdfncdpbjfaaHaCalls
namespace Go.Proofs.Ytaljdfncdpbjfaa
open Go.RowKit

set_option maxRecDepth 20000 in
set_option maxHeartbeats 1000000 in
theorem awake_f (w : World) : Calls Try.prog 10 #[] w fun e w' => e = .returned (.bool true) ∧ Fr (fun _ => False) w w' := by
  have H1 : Hid (∀ w, Calls Try.prog 8 #[.agg #[.int .i64 2, .int .i64 1, .int .i64 7, .int .i64 1]] w fun e w' => e = .returned (.tuple #[.int .u64 1048818, .int .i64 0]) ∧ Fr (fun _ => False) w w') := fun w => h_pack 2 1 7 1 w
  have H2 : Hid (∀ w, Calls Try.prog 12 #[.int .u64 1048818] w fun e w' => e = .returned (.tuple #[.agg #[.int .i64 2, .int .i64 1, .int .i64 7, .int .i64 1], .int .i64 0]) ∧ Fr (fun _ => False) w w') := fun w => h_unpack (h := 1048818) (by decide) (by decide) w
  have H3 : Hid (∀ w, Calls Try.prog 12 #[.int .u64 0] w fun e w' => e = .returned (.tuple #[.agg #[.int .i64 0, .int .i64 0, .int .i64 0, .int .i64 0], .int .i64 5]) ∧ Fr (fun _ => False) w w') := fun w => h_unpack (h := 0) (by decide) (by decide) w
  go_enter Try.func10, Try.ntmps10
  go_wp2_with fail
  refine (H1.out _).mono ?_
  rintro e w1 ⟨rfl, f1⟩
  have HF1 := hid f1
  clear f1
  go_wp2_with fail
  refine (H2.out _).mono ?_
  rintro e w2 ⟨rfl, f2⟩
  have HK2 := hid (Kb.new w2 2 1 7 1)
  have HF2 := hid ((HF1.out.trans f2).alloc (.cells #[.int .i64 2, .int .i64 1, .int .i64 7, .int .i64 1] 23))
  clear f2 HF1
  go_wp2_with fail
  refine (H3.out _).mono ?_
  rintro e w3 ⟨rfl, f3⟩
  have HK3 := hid ((HK2.out.kept f3).alloc (.cells #[.int .i64 0, .int .i64 0, .int .i64 0, .int .i64 0] 23))
  have HF3 := hid ((HF2.out.trans f3).alloc (.cells #[.int .i64 0, .int .i64 0, .int .i64 0, .int .i64 0] 23))
  clear f3 HF2 HK2
  have c0 := HK3.out.c0
  have c1 := HK3.out.c1
  go_wp2
  go_ret
  exact ⟨by simp, HF3.out⟩
end Go.Proofs.Ytaljdfncdpbjfaa
