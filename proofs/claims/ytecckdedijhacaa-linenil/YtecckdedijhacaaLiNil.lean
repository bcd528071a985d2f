/-
  A line that is none has no numbers: the walk of the law LineNil.
-/
import Derived.Test.YtecckdedijhacaaLiAwake
namespace Go.Proofs.Ytecckdedijhacaa
open Go.RowKit

set_option maxRecDepth 20000 in
set_option maxHeartbeats 1000000 in
theorem nil_walk (x : Int) (w : World) : Calls Try.prog 5 #[.int .i64 x] w fun e w' => e = .returned (.bool true) ∧ Fr (fun _ => False) w w' := by
  have HA := hid fun w0 (h : Nw w w0) => awake_any h
  have H1 := hid (n_push_nil x)
  have H2 := hid (n_remove_nil x)
  have H3 := hid n_front_nil
  have H4 := hid (n_has_nil x)
  have H5 := hid n_all_nil
  have H6 := hid n_len_nil
  have H7 := hid n_copy_nil
  have T0 := hid (Nw.start w)
  go_enter Try.func5, Try.ntmps5
  go_wp2_with fail
  refine (HA.out _ T0.out).mono ?_
  rintro e w1 ⟨rfl, h1⟩
  have T1 := hid h1
  clear h1 T0 HA
  go_wp2_with fail
  refine (H1.out _).mono ?_
  rintro e w2 ⟨rfl, f⟩
  have T2 := hid (T1.out.kept f)
  clear f T1 H1
  go_wp2_with fail
  refine (H2.out _).mono ?_
  rintro e w3 ⟨rfl, f⟩
  have T3 := hid (T2.out.kept f)
  clear f T2 H2
  go_wp2_with fail
  refine (H3.out _).mono ?_
  rintro e w4 ⟨rfl, f⟩
  have T4 := hid (T3.out.kept f)
  clear f T3 H3
  go_wp2_with fail
  refine (H4.out _).mono ?_
  rintro e w5 ⟨rfl, f⟩
  have T5 := hid (T4.out.kept f)
  clear f T4 H4
  go_wp2_with fail
  refine (H5.out _).mono ?_
  rintro e w6 ⟨ad, cap, rfl, f⟩
  have T6 := hid (T5.out.kept f)
  clear f T5 H5
  go_wp2_with fail
  refine (H6.out _).mono ?_
  rintro e w7 ⟨rfl, f⟩
  have T7 := hid (T6.out.kept f)
  clear f T6 H6
  go_wp2_with fail
  refine (H7.out _).mono ?_
  rintro e w8 ⟨rfl, f⟩
  have T8 := hid (T7.out.kept f)
  clear f T7 H7
  go_wp2
  go_ret
  exact ⟨by simp, T8.out.fr⟩
end Go.Proofs.Ytecckdedijhacaa
