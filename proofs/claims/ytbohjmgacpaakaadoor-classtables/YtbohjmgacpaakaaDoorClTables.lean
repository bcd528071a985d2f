/-
  Each kind has the bytes, blocks, pages and alignment that the document says.
-/
import Derived.Test.YtbohjmgacpaakaaDoorClAwake
import Derived.Test.YtbohjmgacpaakaaDoorClRef
namespace Go.Proofs.YtbohjmgacpaakaaDoor
open Go.RowKit

theorem tables_walk (c : Int) (w0 : World) (hT : Tab w0) : Calls Tryd.prog 4 #[.int .i64 c] w0 fun e w' => e = .returned (.bool true) ∧ Fr (fun _ => False) w0 w' := by
  have HK0 := hid (K.start hT)
  clear hT
  have HA : Hid (∀ {w : World}, K w0 w → Calls Tryd.prog 9 #[] w fun e w' => e = .returned (.bool true) ∧ K w0 w') := fun h => awake_any h
  have H1 : Hid (∀ {w : World}, K w0 w → Calls Tryd.prog 14 #[.int .i64 c] w fun e w' => e = .returned (.int .i64 (unitI c)) ∧ K w0 w') := fun h => k_unit c h
  have H2 : Hid (∀ {w : World}, K w0 w → Calls Tryd.prog 15 #[.int .i64 c] w fun e w' => e = .returned (.int .i64 (unitI c)) ∧ K w0 w') := fun h => r_unit c h
  have H3 : Hid (∀ {w : World}, K w0 w → Calls Tryd.prog 16 #[.int .i64 c] w fun e w' => e = .returned (.int .i64 (perI c)) ∧ K w0 w') := fun h => k_per c h
  have H4 : Hid (∀ {w : World}, K w0 w → Calls Tryd.prog 17 #[.int .i64 c] w fun e w' => e = .returned (.int .i64 (perI c)) ∧ K w0 w') := fun h => r_per c h
  have H5 : Hid (∀ {w : World}, K w0 w → Calls Tryd.prog 18 #[.int .i64 c] w fun e w' => e = .returned (.int .i64 (pagesI c)) ∧ K w0 w') := fun h => k_pages c h
  have H6 : Hid (∀ {w : World}, K w0 w → Calls Tryd.prog 19 #[.int .i64 c] w fun e w' => e = .returned (.int .i64 (pagesI c)) ∧ K w0 w') := fun h => r_pages c h
  have H7 : Hid (∀ {w : World}, K w0 w → Calls Tryd.prog 20 #[.int .i64 c] w fun e w' => e = .returned (.int .i64 (alignI c)) ∧ K w0 w') := fun h => k_align c h
  have H8 : Hid (∀ {w : World}, K w0 w → Calls Tryd.prog 21 #[.int .i64 c] w fun e w' => e = .returned (.int .i64 (alignI c)) ∧ K w0 w') := fun h => r_align c h
  generalize unitI c = u at *
  generalize perI c = p at *
  generalize pagesI c = q at *
  generalize alignI c = a at *
  go_enter Tryd.func4, Tryd.ntmps4
  go_wp2_with fail
  refine (HA.out HK0.out).mono ?_
  rintro e w1 ⟨rfl, hk⟩
  have HK1 := hid hk
  clear hk HK0
  go_wp2_with fail
  refine (H1.out HK1.out).mono ?_
  rintro e w2 ⟨rfl, hk⟩
  have HK2 := hid hk
  clear hk HK1
  go_wp2_with fail
  refine (H2.out HK2.out).mono ?_
  rintro e w3 ⟨rfl, hk⟩
  have HK3 := hid hk
  clear hk HK2
  go_wp2_with fail
  refine (H3.out HK3.out).mono ?_
  rintro e w4 ⟨rfl, hk⟩
  have HK4 := hid hk
  clear hk HK3
  go_wp2_with fail
  refine (H4.out HK4.out).mono ?_
  rintro e w5 ⟨rfl, hk⟩
  have HK5 := hid hk
  clear hk HK4
  go_wp2_with fail
  refine (H5.out HK5.out).mono ?_
  rintro e w6 ⟨rfl, hk⟩
  have HK6 := hid hk
  clear hk HK5
  go_wp2_with fail
  refine (H6.out HK6.out).mono ?_
  rintro e w7 ⟨rfl, hk⟩
  have HK7 := hid hk
  clear hk HK6
  go_wp2_with fail
  refine (H7.out HK7.out).mono ?_
  rintro e w8 ⟨rfl, hk⟩
  have HK8 := hid hk
  clear hk HK7
  go_wp2_with fail
  refine (H8.out HK8.out).mono ?_
  rintro e w9 ⟨rfl, hk⟩
  have HK9 := hid hk
  clear hk HK8
  go_wp2
  go_ret
  exact ⟨by simp, HK9.out.fr⟩
end Go.Proofs.YtbohjmgacpaakaaDoor
