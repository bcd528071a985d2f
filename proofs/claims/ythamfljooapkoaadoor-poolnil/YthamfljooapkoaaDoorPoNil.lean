/-
  A pool that is none has no colours: the walk of the law PoolNil.
-/
import Derived.Test.YthamfljooapkoaaDoorPoState
namespace Go.Proofs.YthamfljooapkoaaDoor
open Go.RowKit

set_option maxRecDepth 20000 in
set_option maxHeartbeats 1000000 in
theorem nil_walk (o k : Int) (w : World) (g : Gr w) : Calls Tryd.prog 5 #[.int .i64 o, .int .i64 k] w fun e w' => e = .returned (.bool true) ∧ Fr (fun _ => False) w w' := by
  have H1 := hid fun w => p_grant_nil o k w
  have H2 := hid fun w => p_shrink_nil o k w
  have H3 := hid fun w => p_drop_nil o w
  have HA := hid fun w0 (f : Fr (fun _ => False) w w0) => awake_f w0 (g.fr f)
  have H4 := hid fun w => p_window_nil o w
  have H5 := hid fun w => p_owner_nil k w
  have H6 := hid fun w => p_free_nil w
  have H7 := hid fun w => p_copy_nil w
  clear g
  go_enter Tryd.func5, Tryd.ntmps5
  go_wp2_with fail
  refine (H1.out _).mono ?_
  rintro e w1 ⟨⟨ad1, c1, rfl, _, _⟩, f⟩
  have HF1 := hid (Fr.trans (Fr.refl (fun _ => False) w) f)
  clear f
  go_wp2_with fail
  refine (H2.out _).mono ?_
  rintro e w2 ⟨⟨ad2, c2, rfl, _, _⟩, f⟩
  have HF2 := hid (Fr.trans HF1.out f)
  clear f HF1
  go_wp2_with fail
  refine (H3.out _).mono ?_
  rintro e w3 ⟨⟨ad3, c3, rfl, _, _⟩, f⟩
  have HF3 := hid (Fr.trans HF2.out f)
  clear f HF2
  go_wp2_with fail
  refine (HA.out _ HF3.out).mono ?_
  rintro e w4 ⟨rfl, f⟩
  have HF4 := hid (Fr.trans HF3.out f)
  clear f HF3
  go_wp2_with fail
  refine (H4.out _).mono ?_
  rintro e w5 ⟨⟨ad4, c4, rfl, _, _⟩, f⟩
  have HF5 := hid (Fr.trans HF4.out f)
  clear f HF4
  go_wp2_with fail
  refine (H5.out _).mono ?_
  rintro e w6 ⟨rfl, f⟩
  have HF6 := hid (Fr.trans HF5.out f)
  clear f HF5
  go_wp2_with fail
  refine (H6.out _).mono ?_
  rintro e w7 ⟨rfl, f⟩
  have HF7 := hid (Fr.trans HF6.out f)
  clear f HF6
  go_wp2_with fail
  refine (H7.out _).mono ?_
  rintro e w8 ⟨rfl, f⟩
  have HF8 := hid (Fr.trans HF7.out f)
  clear f HF7
  go_wp2
  go_ret
  exact ⟨by simp, HF8.out⟩
end Go.Proofs.YthamfljooapkoaaDoor
