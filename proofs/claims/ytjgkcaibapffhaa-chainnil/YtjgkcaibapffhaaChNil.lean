/-
  The walk of the law ChainNil.
-/
import Derived.Test.YtjgkcaibapffhaaChAwake
namespace Go.Proofs.Ytjgkcaibapffhaa
open Go.RowKit
open An

set_option maxRecDepth 20000 in
set_option maxHeartbeats 1000000 in
theorem nil_walk (x : Int) (w : World) : Calls Try.prog 6 #[.int .i64 x] w fun e w' => e = .returned (.bool true) ∧ Fr (fun _ => False) w w' := by
  have F0 : Hid (Nw w w) := Nw.start w
  have H1 := hid fun w => p_pop_nil w
  have H2 := hid fun w => p_all_nil w
  have H3 := hid fun w => p_new_nil 0 16 1 w
  have H4 : Hid (∀ w0, Nw w w0 → Calls Try.prog 9 #[] w0 fun e w' => e = .returned (.bool true) ∧ Nw w w') := fun w0 h => awake_any h
  have H5 := hid fun w => p_push_nil x w
  have H6 := hid fun w => p_take_nil w
  have H7 := hid fun w => p_move_nil x w
  have H8 := hid fun w => p_empty_nil w
  have H9 := hid fun w => p_copy_nil w
  go_enter Try.func6, Try.ntmps6
  go_wp2_with fail
  refine (H1.out _).mono ?_
  rintro e w1 ⟨rfl, f1⟩
  have F1 := hid (F0.out.kept f1)
  clear f1 F0 H1
  go_wp2_with fail
  refine (H2.out _).mono ?_
  rintro e w2 ⟨⟨ad, cap, rfl⟩, f1⟩
  have F2 := hid (F1.out.kept f1)
  clear f1 F1 H2
  go_wp2_with fail
  refine (H3.out _).mono ?_
  rintro e w3 ⟨rfl, f1⟩
  have F3 := hid (F2.out.kept f1)
  clear f1 F2 H3
  go_wp2_with fail
  refine (H4.out _ F3.out).mono ?_
  rintro e w4 ⟨rfl, f1⟩
  have F4 := hid (f1)
  clear f1 F3 H4
  go_wp2_with fail
  refine (H5.out _).mono ?_
  rintro e w5 ⟨rfl, f1⟩
  have F5 := hid (F4.out.kept f1)
  clear f1 F4 H5
  go_wp2_with fail
  refine (H6.out _).mono ?_
  rintro e w6 ⟨rfl, f1⟩
  have F6 := hid (F5.out.kept f1)
  clear f1 F5 H6
  go_wp2_with fail
  refine (H7.out _).mono ?_
  rintro e w7 ⟨rfl, f1⟩
  have F7 := hid (F6.out.kept f1)
  clear f1 F6 H7
  go_wp2_with fail
  refine (H8.out _).mono ?_
  rintro e w8 ⟨rfl, f1⟩
  have F8 := hid (F7.out.kept f1)
  clear f1 F7 H8
  go_wp2_with fail
  refine (H9.out _).mono ?_
  rintro e w9 ⟨rfl, f1⟩
  have F9 := hid (F8.out.kept f1)
  clear f1 F8 H9
  go_wp2
  go_ret
  exact ⟨by simp, F9.out.fr⟩
end Go.Proofs.Ytjgkcaibapffhaa
