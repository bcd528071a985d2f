/-
  More than 256 bytes are a run of as few pages as they take.
-/
import Derived.Test.YtbohjmgacpaakaaDoorClAwake
namespace Go.Proofs.YtbohjmgacpaakaaDoor
open Go.RowKit

set_option maxRecDepth 20000 in
theorem runs_walk (n : Int) (w0 : World) (hT : Tab w0) : Calls Tryd.prog 8 #[.int .i64 n] w0 fun e w' => e = .returned (.bool true) ∧ Fr (fun _ => False) w0 w' := by
  have HK0 := hid (K.start hT)
  clear hT
  have HA : Hid (∀ {w : World}, K w0 w → Calls Tryd.prog 9 #[] w fun e w' => e = .returned (.bool true) ∧ K w0 w') := fun h => awake_any h
  by_cases h1 : n ≤ 256
  · go_enter Tryd.func8, Tryd.ntmps8
    go_wp2_with fail
    refine (HA.out HK0.out).mono ?_
    rintro e w1 ⟨rfl, hk⟩
    have HK1 := hid hk
    clear hk HK0
    go_wp2
    go_ret
    exact ⟨by simp, HK1.out.fr⟩
  · by_cases h2 : 8192 < n
    · go_enter Tryd.func8, Tryd.ntmps8
      go_wp2_with fail
      refine (HA.out HK0.out).mono ?_
      rintro e w1 ⟨rfl, hk⟩
      have HK1 := hid hk
      clear hk HK0
      go_wp2
      go_ret
      exact ⟨by simp, HK1.out.fr⟩
    · obtain ⟨e1, e2, e3, e4, e5, e6⟩ := kind_run n (by omega) (by omega)
      have H1 : Hid (∀ {w : World}, K w0 w → Calls Tryd.prog 10 #[.int .i64 n] w fun e w' => e = .returned (.int .i64 (ofI n)) ∧ K w0 w') := fun h => k_of n h
      have H2 : Hid (∀ {w : World}, K w0 w → Calls Tryd.prog 18 #[.int .i64 (ofI n)] w fun e w' => e = .returned (.int .i64 (pagesI (ofI n))) ∧ K w0 w') := fun h => k_pages (ofI n) h
      have H3 : Hid (∀ {w : World}, K w0 w → Calls Tryd.prog 16 #[.int .i64 (ofI n)] w fun e w' => e = .returned (.int .i64 0) ∧ K w0 w') := e4 ▸ fun h => k_per (ofI n) h
      have H4 : Hid (∀ {w : World}, K w0 w → Calls Tryd.prog 12 #[.int .i64 n] w fun e w' => e = .returned (.int .i64 (pagesI (ofI n) * 512)) ∧ K w0 w') := e5 ▸ fun h => k_charge n h
      have H5 : Hid (∀ {w : World}, K w0 w → Calls Tryd.prog 20 #[.int .i64 (ofI n)] w fun e w' => e = .returned (.int .i64 512) ∧ K w0 w') := e6 ▸ fun h => k_align (ofI n) h
      clear e4 e5 e6
      have r := (ofI_range n (by omega) (by omega)).2
      generalize pagesI (ofI n) = m at *
      generalize ofI n = o at *
      subst e1
      go_enter Tryd.func8, Tryd.ntmps8
      go_wp2_with fail
      refine (H1.out HK0.out).mono ?_
      rintro e w1 ⟨rfl, hk⟩
      have HK1 := hid hk
      clear hk HK0
      go_wp2_with fail
      refine (H2.out HK1.out).mono ?_
      rintro e w2 ⟨rfl, hk⟩
      have HK2 := hid hk
      clear hk HK1
      go_wp2_with fail
      refine (HA.out HK2.out).mono ?_
      rintro e w3 ⟨rfl, hk⟩
      have HK3 := hid hk
      clear hk HK2
      go_wp2_with fail
      refine (H3.out HK3.out).mono ?_
      rintro e w4 ⟨rfl, hk⟩
      have HK4 := hid hk
      clear hk HK3
      go_wp2_with fail
      refine (H4.out HK4.out).mono ?_
      rintro e w5 ⟨rfl, hk⟩
      have HK5 := hid hk
      clear hk HK4
      go_wp2_with fail
      refine (H5.out HK5.out).mono ?_
      rintro e w6 ⟨rfl, hk⟩
      have HK6 := hid hk
      clear hk HK5
      go_wp2
      go_ret
      exact ⟨by simp, HK6.out.fr⟩
end Go.Proofs.YtbohjmgacpaakaaDoor
