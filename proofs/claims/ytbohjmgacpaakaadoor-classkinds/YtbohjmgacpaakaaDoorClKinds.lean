/-
  Each number of bytes is of the kind that the document says, and costs what it says.
-/
import Derived.Test.YtbohjmgacpaakaaDoorClAwake
import Derived.Test.YtbohjmgacpaakaaDoorClRef
namespace Go.Proofs.YtbohjmgacpaakaaDoor
open Go.RowKit

theorem kinds_walk (n : Int) (w0 : World) (hT : Tab w0) : Calls Tryd.prog 3 #[.int .i64 n] w0 fun e w' => e = .returned (.bool true) ∧ Fr (fun _ => False) w0 w' := by
  have HK0 := hid (K.start hT)
  clear hT
  have HA : Hid (∀ {w : World}, K w0 w → Calls Tryd.prog 9 #[] w fun e w' => e = .returned (.bool true) ∧ K w0 w') := fun h => awake_any h
  have H1 : Hid (∀ {w : World}, K w0 w → Calls Tryd.prog 10 #[.int .i64 n] w fun e w' => e = .returned (.int .i64 (ofI n)) ∧ K w0 w') := fun h => k_of n h
  have H2 : Hid (∀ {w : World}, K w0 w → Calls Tryd.prog 11 #[.int .i64 n] w fun e w' => e = .returned (.int .i64 (ofI n)) ∧ K w0 w') := fun h => r_of n h
  have H3 : Hid (∀ {w : World}, K w0 w → Calls Tryd.prog 12 #[.int .i64 n] w fun e w' => e = .returned (.int .i64 (chargeI n)) ∧ K w0 w') := fun h => k_charge n h
  have H4 : Hid (∀ {w : World}, K w0 w → Calls Tryd.prog 13 #[.int .i64 n] w fun e w' => e = .returned (.int .i64 (chargeI n)) ∧ K w0 w') := fun h => r_charge n h
  generalize ofI n = o at *
  generalize chargeI n = x at *
  go_enter Tryd.func3, Tryd.ntmps3
  go_wp2_with fail
  refine (HA.out HK0.out).mono ?_
  rintro e w1 ⟨rfl, hk⟩
  have HK1 := hid hk
  clear hk HK0
  go_wp2_with fail
  refine (H1.out HK1.out).mono ?_
  rintro e w2 ⟨rfl, hk⟩
  have HK2 := hid hk
  clear hk HK1
  go_wp2_with fail
  refine (H2.out HK2.out).mono ?_
  rintro e w3 ⟨rfl, hk⟩
  have HK3 := hid hk
  clear hk HK2
  go_wp2_with fail
  refine (H3.out HK3.out).mono ?_
  rintro e w4 ⟨rfl, hk⟩
  have HK4 := hid hk
  clear hk HK3
  go_wp2_with fail
  refine (H4.out HK4.out).mono ?_
  rintro e w5 ⟨rfl, hk⟩
  have HK5 := hid hk
  clear hk HK4
  go_wp2
  go_ret
  exact ⟨by simp, HK5.out.fr⟩
end Go.Proofs.YtbohjmgacpaakaaDoor
