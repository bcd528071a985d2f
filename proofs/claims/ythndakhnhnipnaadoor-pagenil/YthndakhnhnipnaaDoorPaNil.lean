/-
  The walk of the law PageNil.
-/
import Derived.Test.YthndakhnhnipnaaDoorPaAwake
namespace Go.Proofs.YthndakhnhnipnaaDoor
open Go.RowKit
open An

set_option maxRecDepth 20000 in
set_option maxHeartbeats 1000000 in
theorem nil_walk (x : Int) (w : World) (gr : Gr w) : Calls Tryd.prog 6 #[.int .i64 x] w fun e w' => e = .returned (.bool true) ∧ Fr (fun _ => False) w w' := by
  have F0 : Hid (Nw w w) := Nw.start w
  have H0 := hid fun w => x_alloc_nil w
  have H1 := hid fun w => x_new_nil 0 0 w
  have H2 : Hid (∀ w0, Nw w w0 → Calls Tryd.prog 11 #[] w0 fun e w' => e = .returned (.bool true) ∧ Nw w w') := fun w0 h => awake_any h gr
  have H3 := hid fun w => x_free_nil x w
  have H4 := hid fun w => x_move_nil x w
  have H5 := hid fun w => x_has_nil x w
  have H6 := hid fun w => x_used_nil w
  have H7 := hid fun w => x_full_nil w
  have H8 := hid fun w => x_base_nil w
  have H9 := hid fun w => x_kind_nil w
  have H10 := hid fun w => x_copy_nil w
  clear gr
  go_enter Tryd.func6, Tryd.ntmps6
  go_wp2_with fail
  refine (H0.out _).mono ?_
  rintro e w1 ⟨rfl, f1⟩
  have F1 := hid (F0.out.kept f1)
  clear f1 F0 H0
  go_wp2_with fail
  refine (H1.out _).mono ?_
  rintro e w2 ⟨rfl, f1⟩
  have F2 := hid (F1.out.kept f1)
  clear f1 F1 H1
  go_wp2_with fail
  refine (H2.out _ F2.out).mono ?_
  rintro e w3 ⟨rfl, f1⟩
  have F3 := hid (f1)
  clear f1 F2 H2
  go_wp2_with fail
  refine (H3.out _).mono ?_
  rintro e w4 ⟨rfl, f1⟩
  have F4 := hid (F3.out.kept f1)
  clear f1 F3 H3
  go_wp2_with fail
  refine (H4.out _).mono ?_
  rintro e w5 ⟨rfl, f1⟩
  have F5 := hid (F4.out.kept f1)
  clear f1 F4 H4
  go_wp2_with fail
  refine (H5.out _).mono ?_
  rintro e w6 ⟨rfl, f1⟩
  have F6 := hid (F5.out.kept f1)
  clear f1 F5 H5
  go_wp2_with fail
  refine (H6.out _).mono ?_
  rintro e w7 ⟨rfl, f1⟩
  have F7 := hid (F6.out.kept f1)
  clear f1 F6 H6
  go_wp2_with fail
  refine (H7.out _).mono ?_
  rintro e w8 ⟨rfl, f1⟩
  have F8 := hid (F7.out.kept f1)
  clear f1 F7 H7
  go_wp2_with fail
  refine (H8.out _).mono ?_
  rintro e w9 ⟨rfl, f1⟩
  have F9 := hid (F8.out.kept f1)
  clear f1 F8 H8
  go_wp2_with fail
  refine (H9.out _).mono ?_
  rintro e w10 ⟨rfl, f1⟩
  have F10 := hid (F9.out.kept f1)
  clear f1 F9 H9
  go_wp2_with fail
  refine (H10.out _).mono ?_
  rintro e w11 ⟨rfl, f1⟩
  have F11 := hid (F10.out.kept f1)
  clear f1 F10 H10
  go_wp2
  go_ret
  exact ⟨by simp, F11.out.fr⟩
end Go.Proofs.YthndakhnhnipnaaDoor
