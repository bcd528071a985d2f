/-
  Of no arena, and of no table, nothing is read: the walk of the law ViewNil.
-/
import Derived.Test.YtcajdbklchjkkaaViAwake
namespace Go.Proofs.Ytcajdbklchjkkaa
open Go.RowKit
open An

set_option maxRecDepth 20000 in
set_option maxHeartbeats 1000000 in
theorem nil_walk (x n : Int) (s : ByteArray) (w : World) : Calls Try.prog 6 #[.int .i64 x, .int .i64 n, .string s] w fun e w' => e = .returned (.bool true) ∧ Fr (fun _ => False) w w' := by
  have HA := hid awake_any
  by_cases hl : (4096 : Int) < s.size
  · go_enter Try.func6, Try.ntmps6
    go_wp2_with fail
    refine (HA.out _).mono ?_
    rintro e w1 ⟨rfl, f⟩
    have T1 := hid f
    clear f
    go_wp2
    go_ret
    exact ⟨by simp, T1.out⟩
  have HN : Hid (∀ w1, Calls Try.prog 9 #[.int .i64 512] w1 fun e w' => ∃ a Z, e = .returned (.tuple #[.pointer (some ⟨a, 0, none⟩), .int .i64 0]) ∧ Am 77 a (List.replicate 512 0) [] w' Z ∧ (∀ i, Z i → w1.heap.size ≤ i) ∧ Fr (fun _ => False) w1 w') := fun w1 => am_new 512 w1 (by decide)
  have HT := hid c_new
  have H1 := hid fun q => v_read_a q x n
  have H2 := hid fun q => v_read_t q x n
  have H3 := hid (v_write_a none x s)
  have H4 := hid fun q => v_zero_t q x n
  have H5 := hid fun q => v_copy_a q x n n
  have T0 : Hid (Fr (fun _ => False) w w) := Fr.refl _ _
  go_enter Try.func6, Try.ntmps6
  go_wp2_with fail
  refine (HN.out _).mono ?_
  rintro e w1 ⟨a, Z, rfl, _, _, f⟩
  have T1 := hid (T0.out.trans f)
  clear f T0
  go_wp2_with fail
  refine (HT.out _).mono ?_
  rintro e w2 ⟨t, Z2, rfl, _, f, _⟩
  have T2 := hid (T1.out.trans f)
  clear f T1
  go_wp2_with fail
  refine (H1.out _ _).mono ?_
  rintro e w3 ⟨rfl, f⟩
  have T3 := hid (T2.out.trans f)
  clear f T2
  go_wp2_with fail
  refine (H2.out _ _).mono ?_
  rintro e w4 ⟨rfl, f⟩
  have T4 := hid (T3.out.trans f)
  clear f T3
  go_wp2_with fail
  refine (HA.out _).mono ?_
  rintro e w5 ⟨rfl, f⟩
  have T5 := hid (T4.out.trans f)
  clear f T4
  go_wp2_with fail
  refine (H3.out _).mono ?_
  rintro e w6 ⟨rfl, f⟩
  have T6 := hid (T5.out.trans f)
  clear f T5
  go_wp2_with fail
  refine (H4.out _ _).mono ?_
  rintro e w7 ⟨rfl, f⟩
  have T7 := hid (T6.out.trans f)
  clear f T6
  go_wp2_with fail
  refine (HT.out _).mono ?_
  rintro e w8 ⟨t2, Z3, rfl, _, f, _⟩
  have T8 := hid (T7.out.trans f)
  clear f T7
  go_wp2_with fail
  refine (H5.out _ _).mono ?_
  rintro e w9 ⟨rfl, f⟩
  have T9 := hid (T8.out.trans f)
  clear f T8
  go_wp2
  go_ret
  exact ⟨by simp, T9.out⟩
end Go.Proofs.Ytcajdbklchjkkaa
