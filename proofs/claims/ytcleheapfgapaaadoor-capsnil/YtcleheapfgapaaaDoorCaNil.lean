/-
  The walk of the law CapsNil.
-/
import Derived.Test.YtcleheapfgapaaaDoorCaState
namespace Go.Proofs.YtcleheapfgapaaaDoor
open Go.RowKit

set_option maxRecDepth 20000 in
set_option maxHeartbeats 1000000 in
theorem nil_walk (x q b : Int) (w : World) (g : Gr w) : Calls Tryd.prog 7 #[.int .i64 x, .int .i64 q, .int .u64 b] w fun e w' => e = .returned (.bool true) ∧ Fr (fun _ => False) w w' := by
  have H1 := hid fun w => q_grant_nil x w
  have H2 := hid fun w => q_find_nil b q w
  have H3 := hid fun w => q_restrict_nil b q w
  have H4 := hid fun w => q_revoke_nil x w
  have H5 := hid fun w => q_serial_nil w
  have H6 := hid fun w => q_count_nil w
  have H7 := hid fun w => q_copy_nil w
  have HA := hid fun w0 (f : Fr (fun _ => False) w w0) => awake_f w0 (g.fr f)
  clear g
  go_enter Tryd.func7, Tryd.ntmps7
  go_wp2_with fail
  refine (H1.out _).mono ?_
  rintro e w1 ⟨rfl, f1⟩
  have F1 := hid f1
  clear f1 H1
  go_wp2_with fail
  refine (H2.out _).mono ?_
  rintro e w2 ⟨rfl, f2⟩
  have F2 := hid (F1.out.trans f2)
  clear f2 F1 H2
  go_wp2_with fail
  refine (H3.out _).mono ?_
  rintro e w3 ⟨rfl, f3⟩
  have F3 := hid (F2.out.trans f3)
  clear f3 F2 H3
  go_wp2_with fail
  refine (HA.out _ F3.out).mono ?_
  rintro e w4 ⟨rfl, f4⟩
  have F4 := hid (F3.out.trans f4)
  clear f4 F3 HA
  go_wp2_with fail
  refine (H4.out _).mono ?_
  rintro e w5 ⟨rfl, f5⟩
  have F5 := hid (F4.out.trans f5)
  clear f5 F4 H4
  go_wp2_with fail
  refine (H5.out _).mono ?_
  rintro e w6 ⟨rfl, f6⟩
  have F6 := hid (F5.out.trans f6)
  clear f6 F5 H5
  go_wp2_with fail
  refine (H6.out _).mono ?_
  rintro e w7 ⟨rfl, f7⟩
  have F7 := hid (F6.out.trans f7)
  clear f7 F6 H6
  go_wp2_with fail
  refine (H7.out _).mono ?_
  rintro e w8 ⟨rfl, f8⟩
  have F8 := hid (F7.out.trans f8)
  clear f8 F7 H7
  go_wp2
  go_ret
  exact ⟨by simp, F8.out⟩
end Go.Proofs.YtcleheapfgapaaaDoor
