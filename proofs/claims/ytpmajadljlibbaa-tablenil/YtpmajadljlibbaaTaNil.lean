/-
  A table that is none has no pages: the walk of the law TableNil.
-/
import Derived.Test.YtpmajadljlibbaaTaAwake
import Derived.Test.YtpmajadljlibbaaLists2
import Derived.LoopTactic
import Derived.Deep.RegionHeld3
import Derived.Deep.QuietTactic
import Derived.BigQuiet
import Derived.BigRegion
namespace Go.Proofs.Ytpmajadljlibbaa
open Go.RowKit

set_option maxRecDepth 20000 in
set_option maxHeartbeats 1000000 in
theorem nil_walk (v p : Int) (w : World) : Calls Try.prog 5 #[.int .i64 v, .int .i64 p] w fun e w' => e = .returned (.bool true) ∧ Fr (fun _ => False) w w' := by
  have HA := hid fun w0 (h : Nw w w0) => awake_any h
  have H1 := hid (c_unmap_nil v)
  have H2 := hid (c_swap_nil v p)
  have H3 := hid (c_pieces_nil v p)
  have H4 := hid (c_map_nil v p)
  have H5 := hid (c_find_nil v)
  have H6 := hid (c_holder_nil p)
  have H7 := hid c_all_nil
  have H8 := hid c_len_nil
  have H9 := hid c_copy_nil
  have T0 := hid (Nw.start w)
  go_enter Try.func5, Try.ntmps5
  go_wp2_with fail
  refine (H1.out _).mono ?_
  rintro e w1 ⟨rfl, f⟩
  have T1 := hid (T0.out.kept f)
  clear f T0 H1
  go_wp2_with fail
  refine (H2.out _).mono ?_
  rintro e w2 ⟨rfl, f⟩
  have T2 := hid (T1.out.kept f)
  clear f T1 H2
  go_wp2_with fail
  refine (H3.out _).mono ?_
  rintro e w3 ⟨ad, cap, rfl, f⟩
  have T3 := hid (T2.out.kept f)
  clear f T2 H3
  go_wp2_with fail
  refine (HA.out _ T3.out).mono ?_
  rintro e w4 ⟨rfl, h1⟩
  have T4 := hid h1
  clear h1 T3 HA
  go_wp2_with fail
  refine (H4.out _).mono ?_
  rintro e w5 ⟨rfl, f⟩
  have T5 := hid (T4.out.kept f)
  clear f T4 H4
  go_wp2_with fail
  refine (H5.out _).mono ?_
  rintro e w6 ⟨rfl, f⟩
  have T6 := hid (T5.out.kept f)
  clear f T5 H5
  go_wp2_with fail
  refine (H6.out _).mono ?_
  rintro e w7 ⟨rfl, f⟩
  have T7 := hid (T6.out.kept f)
  clear f T6 H6
  go_wp2_with fail
  refine (H7.out _).mono ?_
  rintro e w8 ⟨ad7, cap7, rfl, f⟩
  have T8 := hid (T7.out.kept f)
  clear f T7 H7
  go_wp2_with fail
  refine (H8.out _).mono ?_
  rintro e w9 ⟨rfl, f⟩
  have T9 := hid (T8.out.kept f)
  clear f T8 H8
  go_wp2_with fail
  refine (H9.out _).mono ?_
  rintro e w10 ⟨rfl, f⟩
  have T10 := hid (T9.out.kept f)
  clear f T9 H9
  go_wp2
  go_ret
  exact ⟨by simp, T10.out.fr⟩
end Go.Proofs.Ytpmajadljlibbaa
