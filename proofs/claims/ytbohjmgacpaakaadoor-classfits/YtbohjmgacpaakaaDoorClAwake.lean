/-
  The document's own examples stand, so the law is awake.
-/
import Derived.Test.YtbohjmgacpaakaaDoorClCalls
namespace Go.Proofs.YtbohjmgacpaakaaDoor
open Go.RowKit

theorem awake_any {w0 w : World} (k : K w0 w) : Calls Tryd.prog 9 #[] w fun e w' => e = .returned (.bool true) ∧ K w0 w' := by
  have HK0 := hid k
  clear k
  have H0 : Hid (∀ {w : World}, K w0 w → Calls Tryd.prog 10 #[.int .i64 17] w fun e w' => e = .returned (.int .i64 1) ∧ K w0 w') := fun h => k_of 17 h
  have H1 : Hid (∀ {w : World}, K w0 w → Calls Tryd.prog 10 #[.int .i64 257] w fun e w' => e = .returned (.int .i64 8) ∧ K w0 w') := fun h => k_of 257 h
  have H2 : Hid (∀ {w : World}, K w0 w → Calls Tryd.prog 10 #[.int .i64 8193] w fun e w' => e = .returned (.int .i64 (-1)) ∧ K w0 w') := fun h => k_of 8193 h
  have H3 : Hid (∀ {w : World}, K w0 w → Calls Tryd.prog 12 #[.int .i64 40] w fun e w' => e = .returned (.int .i64 48) ∧ K w0 w') := fun h => k_charge 40 h
  have H4 : Hid (∀ {w : World}, K w0 w → Calls Tryd.prog 12 #[.int .i64 600] w fun e w' => e = .returned (.int .i64 1024) ∧ K w0 w') := fun h => k_charge 600 h
  have H5 : Hid (∀ {w : World}, K w0 w → Calls Tryd.prog 20 #[.int .i64 4] w fun e w' => e = .returned (.int .i64 32) ∧ K w0 w') := fun h => k_align 4 h
  have H6 : Hid (∀ {w : World}, K w0 w → Calls Tryd.prog 16 #[.int .i64 2] w fun e w' => e = .returned (.int .i64 10) ∧ K w0 w') := fun h => k_per 2 h
  go_enter Tryd.func9, Tryd.ntmps9
  go_wp2_with fail
  refine (H0.out HK0.out).mono ?_
  rintro e w1 ⟨rfl, hk⟩
  have HK1 := hid hk
  clear hk HK0
  go_wp2_with fail
  refine (H1.out HK1.out).mono ?_
  rintro e w2 ⟨rfl, hk⟩
  have HK2 := hid hk
  clear hk HK1
  go_wp2_with fail
  refine (H2.out HK2.out).mono ?_
  rintro e w3 ⟨rfl, hk⟩
  have HK3 := hid hk
  clear hk HK2
  go_wp2_with fail
  refine (H3.out HK3.out).mono ?_
  rintro e w4 ⟨rfl, hk⟩
  have HK4 := hid hk
  clear hk HK3
  go_wp2_with fail
  refine (H4.out HK4.out).mono ?_
  rintro e w5 ⟨rfl, hk⟩
  have HK5 := hid hk
  clear hk HK4
  go_wp2_with fail
  refine (H5.out HK5.out).mono ?_
  rintro e w6 ⟨rfl, hk⟩
  have HK6 := hid hk
  clear hk HK5
  go_wp2_with fail
  refine (H6.out HK6.out).mono ?_
  rintro e w7 ⟨rfl, hk⟩
  have HK7 := hid hk
  clear hk HK6
  go_wp2
  go_ret
  exact ⟨by simp, HK7.out⟩

theorem modu (x : Int) (m : Nat) (M : Int) (hM : M = (m : Int)) (h0 : 0 < m) (h1 : m ≤ 65536) : ∃ n : Nat, wrap64 ((IntKind.u64.wrap x).tmod M) = (n : Int) ∧ n < m := by
  subst hM
  have hu : 0 ≤ IntKind.u64.wrap x := by rw [IntKind.wrap_u64]; omega
  have he : (IntKind.u64.wrap x).tmod (m : Int) = (IntKind.u64.wrap x) % (m : Int) := Int.tmod_eq_emod_of_nonneg hu
  have h2 := Int.emod_nonneg (IntKind.u64.wrap x) (b := (m : Int)) (by omega)
  have h3 := Int.emod_lt_of_pos (IntKind.u64.wrap x) (b := (m : Int)) (by omega)
  refine ⟨((IntKind.u64.wrap x) % (m : Int)).toNat, ?_, by omega⟩
  rw [he]
  generalize (IntKind.u64.wrap x) % (m : Int) = z at *
  unfold wrap64
  omega
end Go.Proofs.YtbohjmgacpaakaaDoor
