/-
  More bytes are never of a lesser kind, and never cost less.
-/
import Derived.Test.YtbohjmgacpaakaaDoorClAwake
namespace Go.Proofs.YtbohjmgacpaakaaDoor
open Go.RowKit

theorem rises_lt (a b : Int) (w0 : World) (hT : Tab w0) (hle : a < b) : Calls Tryd.prog 5 #[.int .i64 a, .int .i64 b] w0 fun e w' => e = .returned (.bool true) ∧ Fr (fun _ => False) w0 w' := by
  have HK0 := hid (K.start hT)
  clear hT
  have HA : Hid (∀ {w : World}, K w0 w → Calls Tryd.prog 9 #[] w fun e w' => e = .returned (.bool true) ∧ K w0 w') := fun h => awake_any h
  have H1 : Hid (∀ {w : World}, K w0 w → Calls Tryd.prog 10 #[.int .i64 a] w fun e w' => e = .returned (.int .i64 (ofI a)) ∧ K w0 w') := fun h => k_of a h
  have H2 : Hid (∀ {w : World}, K w0 w → Calls Tryd.prog 10 #[.int .i64 b] w fun e w' => e = .returned (.int .i64 (ofI b)) ∧ K w0 w') := fun h => k_of b h
  have H3 : Hid (∀ {w : World}, K w0 w → Calls Tryd.prog 12 #[.int .i64 a] w fun e w' => e = .returned (.int .i64 (chargeI a)) ∧ K w0 w') := fun h => k_charge a h
  have H4 : Hid (∀ {w : World}, K w0 w → Calls Tryd.prog 12 #[.int .i64 b] w fun e w' => e = .returned (.int .i64 (chargeI b)) ∧ K w0 w') := fun h => k_charge b h
  by_cases h1 : a < 1
  · clear H1 H2 H3 H4
    go_enter Tryd.func5, Tryd.ntmps5
    go_wp2_with fail
    refine (HA.out HK0.out).mono ?_
    rintro e w1 ⟨rfl, hk⟩
    have HK1 := hid hk
    clear hk HK0
    go_wp2
    go_ret
    exact ⟨by simp, HK1.out.fr⟩
  · by_cases h2 : 8192 < b
    · clear H1 H2 H3 H4
      go_enter Tryd.func5, Tryd.ntmps5
      go_wp2_with fail
      refine (HA.out HK0.out).mono ?_
      rintro e w1 ⟨rfl, hk⟩
      have HK1 := hid hk
      clear hk HK0
      go_wp2
      go_ret
      exact ⟨by simp, HK1.out.fr⟩
    · have e1 := ofI_rises a b (by omega) (by omega) (by omega)
      have e2 := chargeI_rises a b (by omega) (by omega) (by omega)
      generalize ofI a = o1 at *
      generalize ofI b = o2 at *
      generalize chargeI a = x1 at *
      generalize chargeI b = x2 at *
      go_enter Tryd.func5, Tryd.ntmps5
      go_wp2_with fail
      refine (HA.out HK0.out).mono ?_
      rintro e w1 ⟨rfl, hk⟩
      have HK1 := hid hk
      clear hk HK0
      go_wp2_with fail
      refine (H1.out HK1.out).mono ?_
      rintro e w2 ⟨rfl, hk⟩
      have HK2 := hid hk
      clear hk HK1
      go_wp2_with fail
      refine (H2.out HK2.out).mono ?_
      rintro e w3 ⟨rfl, hk⟩
      have HK3 := hid hk
      clear hk HK2
      go_wp2_with fail
      refine (H3.out HK3.out).mono ?_
      rintro e w4 ⟨rfl, hk⟩
      have HK4 := hid hk
      clear hk HK3
      go_wp2_with fail
      refine (H4.out HK4.out).mono ?_
      rintro e w5 ⟨rfl, hk⟩
      have HK5 := hid hk
      clear hk HK4
      go_wp2
      go_ret
      exact ⟨by simp, HK5.out.fr⟩
theorem rises_gt (a b : Int) (w0 : World) (hT : Tab w0) (hle : b < a) : Calls Tryd.prog 5 #[.int .i64 a, .int .i64 b] w0 fun e w' => e = .returned (.bool true) ∧ Fr (fun _ => False) w0 w' := by
  have HK0 := hid (K.start hT)
  clear hT
  have HA : Hid (∀ {w : World}, K w0 w → Calls Tryd.prog 9 #[] w fun e w' => e = .returned (.bool true) ∧ K w0 w') := fun h => awake_any h
  have H1 : Hid (∀ {w : World}, K w0 w → Calls Tryd.prog 10 #[.int .i64 b] w fun e w' => e = .returned (.int .i64 (ofI b)) ∧ K w0 w') := fun h => k_of b h
  have H2 : Hid (∀ {w : World}, K w0 w → Calls Tryd.prog 10 #[.int .i64 a] w fun e w' => e = .returned (.int .i64 (ofI a)) ∧ K w0 w') := fun h => k_of a h
  have H3 : Hid (∀ {w : World}, K w0 w → Calls Tryd.prog 12 #[.int .i64 b] w fun e w' => e = .returned (.int .i64 (chargeI b)) ∧ K w0 w') := fun h => k_charge b h
  have H4 : Hid (∀ {w : World}, K w0 w → Calls Tryd.prog 12 #[.int .i64 a] w fun e w' => e = .returned (.int .i64 (chargeI a)) ∧ K w0 w') := fun h => k_charge a h
  by_cases h1 : b < 1
  · clear H1 H2 H3 H4
    go_enter Tryd.func5, Tryd.ntmps5
    go_wp2_with fail
    refine (HA.out HK0.out).mono ?_
    rintro e w1 ⟨rfl, hk⟩
    have HK1 := hid hk
    clear hk HK0
    go_wp2
    go_ret
    exact ⟨by simp, HK1.out.fr⟩
  · by_cases h2 : 8192 < a
    · clear H1 H2 H3 H4
      go_enter Tryd.func5, Tryd.ntmps5
      go_wp2_with fail
      refine (HA.out HK0.out).mono ?_
      rintro e w1 ⟨rfl, hk⟩
      have HK1 := hid hk
      clear hk HK0
      go_wp2
      go_ret
      exact ⟨by simp, HK1.out.fr⟩
    · have e1 := ofI_rises b a (by omega) (by omega) (by omega)
      have e2 := chargeI_rises b a (by omega) (by omega) (by omega)
      generalize ofI b = o1 at *
      generalize ofI a = o2 at *
      generalize chargeI b = x1 at *
      generalize chargeI a = x2 at *
      go_enter Tryd.func5, Tryd.ntmps5
      go_wp2_with fail
      refine (HA.out HK0.out).mono ?_
      rintro e w1 ⟨rfl, hk⟩
      have HK1 := hid hk
      clear hk HK0
      go_wp2_with fail
      refine (H1.out HK1.out).mono ?_
      rintro e w2 ⟨rfl, hk⟩
      have HK2 := hid hk
      clear hk HK1
      go_wp2_with fail
      refine (H2.out HK2.out).mono ?_
      rintro e w3 ⟨rfl, hk⟩
      have HK3 := hid hk
      clear hk HK2
      go_wp2_with fail
      refine (H3.out HK3.out).mono ?_
      rintro e w4 ⟨rfl, hk⟩
      have HK4 := hid hk
      clear hk HK3
      go_wp2_with fail
      refine (H4.out HK4.out).mono ?_
      rintro e w5 ⟨rfl, hk⟩
      have HK5 := hid hk
      clear hk HK4
      go_wp2
      go_ret
      exact ⟨by simp, HK5.out.fr⟩
theorem rises_eq (a : Int) (w0 : World) (hT : Tab w0) : Calls Tryd.prog 5 #[.int .i64 a, .int .i64 a] w0 fun e w' => e = .returned (.bool true) ∧ Fr (fun _ => False) w0 w' := by
  have HK0 := hid (K.start hT)
  clear hT
  have HA : Hid (∀ {w : World}, K w0 w → Calls Tryd.prog 9 #[] w fun e w' => e = .returned (.bool true) ∧ K w0 w') := fun h => awake_any h
  have H1 : Hid (∀ {w : World}, K w0 w → Calls Tryd.prog 10 #[.int .i64 a] w fun e w' => e = .returned (.int .i64 (ofI a)) ∧ K w0 w') := fun h => k_of a h
  have H2 : Hid (∀ {w : World}, K w0 w → Calls Tryd.prog 10 #[.int .i64 a] w fun e w' => e = .returned (.int .i64 (ofI a)) ∧ K w0 w') := fun h => k_of a h
  have H3 : Hid (∀ {w : World}, K w0 w → Calls Tryd.prog 12 #[.int .i64 a] w fun e w' => e = .returned (.int .i64 (chargeI a)) ∧ K w0 w') := fun h => k_charge a h
  have H4 : Hid (∀ {w : World}, K w0 w → Calls Tryd.prog 12 #[.int .i64 a] w fun e w' => e = .returned (.int .i64 (chargeI a)) ∧ K w0 w') := fun h => k_charge a h
  by_cases h1 : a < 1
  · clear H1 H2 H3 H4
    go_enter Tryd.func5, Tryd.ntmps5
    go_wp2_with fail
    refine (HA.out HK0.out).mono ?_
    rintro e w1 ⟨rfl, hk⟩
    have HK1 := hid hk
    clear hk HK0
    go_wp2
    go_ret
    exact ⟨by simp, HK1.out.fr⟩
  · by_cases h2 : 8192 < a
    · clear H1 H2 H3 H4
      go_enter Tryd.func5, Tryd.ntmps5
      go_wp2_with fail
      refine (HA.out HK0.out).mono ?_
      rintro e w1 ⟨rfl, hk⟩
      have HK1 := hid hk
      clear hk HK0
      go_wp2
      go_ret
      exact ⟨by simp, HK1.out.fr⟩
    · have e1 := ofI_rises a a (by omega) (Int.le_refl a) (by omega)
      have e2 := chargeI_rises a a (by omega) (Int.le_refl a) (by omega)
      generalize ofI a = o1 at *
      generalize chargeI a = x1 at *
      go_enter Tryd.func5, Tryd.ntmps5
      go_wp2_with fail
      refine (HA.out HK0.out).mono ?_
      rintro e w1 ⟨rfl, hk⟩
      have HK1 := hid hk
      clear hk HK0
      go_wp2_with fail
      refine (H1.out HK1.out).mono ?_
      rintro e w2 ⟨rfl, hk⟩
      have HK2 := hid hk
      clear hk HK1
      go_wp2_with fail
      refine (H2.out HK2.out).mono ?_
      rintro e w3 ⟨rfl, hk⟩
      have HK3 := hid hk
      clear hk HK2
      go_wp2_with fail
      refine (H3.out HK3.out).mono ?_
      rintro e w4 ⟨rfl, hk⟩
      have HK4 := hid hk
      clear hk HK3
      go_wp2_with fail
      refine (H4.out HK4.out).mono ?_
      rintro e w5 ⟨rfl, hk⟩
      have HK5 := hid hk
      clear hk HK4
      go_wp2
      go_ret
      exact ⟨by simp, HK5.out.fr⟩
theorem rises_walk (a b : Int) (w0 : World) (hT : Tab w0) : Calls Tryd.prog 5 #[.int .i64 a, .int .i64 b] w0 fun e w' => e = .returned (.bool true) ∧ Fr (fun _ => False) w0 w' := by
  rcases Int.lt_trichotomy a b with h | rfl | h
  · exact rises_lt a b w0 hT h
  · exact rises_eq a w0 hT
  · exact rises_gt a b w0 hT h
end Go.Proofs.YtbohjmgacpaakaaDoor
