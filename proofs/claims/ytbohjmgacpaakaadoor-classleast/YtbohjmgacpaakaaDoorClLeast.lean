/-
  The kind for some bytes is the least one that has room for them.
-/
import Derived.Test.YtbohjmgacpaakaaDoorClAwake
namespace Go.Proofs.YtbohjmgacpaakaaDoor
open Go.RowKit

theorem least_walk (n c : Int) (w0 : World) (hT : Tab w0) : Calls Tryd.prog 7 #[.int .i64 n, .int .i64 c] w0 fun e w' => e = .returned (.bool true) ∧ Fr (fun _ => False) w0 w' := by
  have HK0 := hid (K.start hT)
  clear hT
  have HA : Hid (∀ {w : World}, K w0 w → Calls Tryd.prog 9 #[] w fun e w' => e = .returned (.bool true) ∧ K w0 w') := fun h => awake_any h
  have H1 : Hid (∀ {w : World}, K w0 w → Calls Tryd.prog 10 #[.int .i64 n] w fun e w' => e = .returned (.int .i64 (ofI n)) ∧ K w0 w') := fun h => k_of n h
  by_cases hn : n < 1 ∨ 8192 < n
  · rw [(ofI_none n).2 hn] at H1
    by_cases h1 : n < 1
    · clear hn
      go_enter Tryd.func7, Tryd.ntmps7
      go_wp2_with fail
      refine (H1.out HK0.out).mono ?_
      rintro e w1 ⟨rfl, hk⟩
      have HK1 := hid hk
      clear hk HK0
      go_wp2_with fail
      refine (HA.out HK1.out).mono ?_
      rintro e w2 ⟨rfl, hk⟩
      have HK2 := hid hk
      clear hk HK1
      go_wp2
      go_ret
      exact ⟨by simp, HK2.out.fr⟩
    · have h2 : 8192 < n := by omega
      clear hn
      go_enter Tryd.func7, Tryd.ntmps7
      go_wp2_with fail
      refine (H1.out HK0.out).mono ?_
      rintro e w1 ⟨rfl, hk⟩
      have HK1 := hid hk
      clear hk HK0
      go_wp2_with fail
      refine (HA.out HK1.out).mono ?_
      rintro e w2 ⟨rfl, hk⟩
      have HK2 := hid hk
      clear hk HK1
      go_wp2
      go_ret
      exact ⟨by simp, HK2.out.fr⟩
  · obtain ⟨j, hj, hjl⟩ := modu c 24 24 rfl (by decide) (by decide)
    obtain ⟨r1, r2⟩ := ofI_range n (by omega) (by omega)
    have hf := ofI_fits n (by omega) (by omega)
    have hl := ofI_least n j (by omega)
    have H2 : Hid (∀ {w : World}, K w0 w → Calls Tryd.prog 14 #[.int .i64 (ofI n)] w fun e w' => e = .returned (.int .i64 (unitI (ofI n))) ∧ K w0 w') := fun h => k_unit (ofI n) h
    have H3 : Hid (∀ {w : World}, K w0 w → Calls Tryd.prog 14 #[.int .i64 j] w fun e w' => e = .returned (.int .i64 (unitI j)) ∧ K w0 w') := fun h => k_unit j h
    generalize unitI (ofI n) = u at *
    generalize unitI j = v at *
    generalize ofI n = o at *
    clear hn
    by_cases hjo : o ≤ j
    · clear hl H3
      go_enter Tryd.func7, Tryd.ntmps7
      go_wp2_with fail
      refine (H1.out HK0.out).mono ?_
      rintro e w1 ⟨rfl, hk⟩
      have HK1 := hid hk
      clear hk HK0
      go_wp2_with fail
      refine (HA.out HK1.out).mono ?_
      rintro e w2 ⟨rfl, hk⟩
      have HK2 := hid hk
      clear hk HK1
      go_wp2_with fail
      refine (H2.out HK2.out).mono ?_
      rintro e w3 ⟨rfl, hk⟩
      have HK3 := hid hk
      clear hk HK2
      go_wp2
      go_ret
      exact ⟨by simp, HK3.out.fr⟩
    · have hv := hl (by omega)
      clear hl
      go_enter Tryd.func7, Tryd.ntmps7
      go_wp2_with fail
      refine (H1.out HK0.out).mono ?_
      rintro e w1 ⟨rfl, hk⟩
      have HK1 := hid hk
      clear hk HK0
      go_wp2_with fail
      refine (HA.out HK1.out).mono ?_
      rintro e w2 ⟨rfl, hk⟩
      have HK2 := hid hk
      clear hk HK1
      go_wp2_with fail
      refine (H2.out HK2.out).mono ?_
      rintro e w3 ⟨rfl, hk⟩
      have HK3 := hid hk
      clear hk HK2
      go_wp2_with fail
      refine (H3.out HK3.out).mono ?_
      rintro e w4 ⟨rfl, hk⟩
      have HK4 := hid hk
      clear hk HK3
      go_wp2
      go_ret
      exact ⟨by simp, HK4.out.fr⟩
end Go.Proofs.YtbohjmgacpaakaaDoor
