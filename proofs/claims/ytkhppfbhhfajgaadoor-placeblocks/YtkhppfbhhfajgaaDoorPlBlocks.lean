/-
  The law PlaceBlocks, walked.
-/
import Derived.Test.YtkhppfbhhfajgaaDoorPlRef
import Derived.Deep.QuietTactic
import Derived.BigQuiet
import Derived.Deep.RegionHeld3
import Derived.BigRegion
namespace Go.Proofs.YtkhppfbhhfajgaaDoor
open Go.RowKit

set_option maxRecDepth 20000 in
set_option maxHeartbeats 4000000 in
theorem blocks_walk (c s n a : Int) (hc : I64 c) (hs : I64 s) (hn : I64 n) (ha : I64 a) (w0 : World) (hT : Tab w0) : Calls Tryd.prog 3 #[.int .i64 c, .int .i64 s, .int .i64 n, .int .i64 a] w0 fun e w' => e = .returned (.bool true) ∧ Fr (fun _ => False) w0 w' := by
  have HK0 := hid (K.start hT)
  have HA : Hid _ := fun w (k : K w0 w) => awake_any k
  have H1 : Hid _ := fun w (k : K w0 w) => l_of c s n hc hs hn k
  have H2 : Hid _ := fun w (k : K w0 w) => e_there c s n k
  have H4 : Hid _ := fun w (k : K w0 w) => l_slots c hc k
  have H5 : Hid _ := fun w (k : K w0 w) => e_slots c k
  obtain ⟨x, y, z, E, hr⟩ := findR_some a
  have H6 : Hid _ := fun w (k : K w0 w) => l_find hr ha k
  have H7 : Hid _ := fun w (k : K w0 w) => e_find hr ha k
  have hE := hr.err
  clear hr ha hc hs hn hT
  unfold ofA ofE at H1
  by_cases h : PlT c s n
  · rw [if_pos h, if_pos h] at H1
    rw [decide_eq_true h] at H2
    have H3 : Hid _ := fun w (k : K w0 w) => e_of h k
    clear h
    generalize adI c s n = ad at *
    generalize slI c = sl at *
    rcases hE with rfl | rfl
    · rw [decide_eq_true (rfl : (0 : Int) = 0)] at H7
      go_enter Tryd.func3, Tryd.ntmps3
      go_wp2_with fail
      refine (H1.out _ HK0.out).mono ?_
      rintro e w1 ⟨rfl, hk⟩
      have HK1 := hid hk
      clear hk HK0
      go_wp2_with fail
      refine (H2.out _ HK1.out).mono ?_
      rintro e w2 ⟨rfl, hk⟩
      have HK2 := hid hk
      clear hk HK1
      go_wp2_with fail
      refine (HA.out _ HK2.out).mono ?_
      rintro e w3 ⟨rfl, hk⟩
      have HK3 := hid hk
      clear hk HK2
      go_wp2_with fail
      refine (H3.out _ HK3.out).mono ?_
      rintro e w4 ⟨rfl, hk⟩
      have HK4 := hid hk
      clear hk HK3
      go_wp2_with fail
      refine (H4.out _ HK4.out).mono ?_
      rintro e w5 ⟨rfl, hk⟩
      have HK5 := hid hk
      clear hk HK4
      go_wp2_with fail
      refine (H5.out _ HK5.out).mono ?_
      rintro e w6 ⟨rfl, hk⟩
      have HK6 := hid hk
      clear hk HK5
      go_wp2_with fail
      refine (H6.out _ HK6.out).mono ?_
      rintro e w7 ⟨rfl, hk⟩
      have HK7 := hid hk
      clear hk HK6
      go_wp2_with fail
      refine (H7.out _ HK7.out).mono ?_
      rintro e w8 ⟨rfl, hk⟩
      have HK8 := hid hk
      clear hk HK7
      go_wp2
      go_ret
      exact ⟨by simp, HK8.out.fr⟩
    · rw [decide_eq_false (show ¬ (4 : Int) = 0 by decide)] at H7
      go_enter Tryd.func3, Tryd.ntmps3
      go_wp2_with fail
      refine (H1.out _ HK0.out).mono ?_
      rintro e w1 ⟨rfl, hk⟩
      have HK1 := hid hk
      clear hk HK0
      go_wp2_with fail
      refine (H2.out _ HK1.out).mono ?_
      rintro e w2 ⟨rfl, hk⟩
      have HK2 := hid hk
      clear hk HK1
      go_wp2_with fail
      refine (HA.out _ HK2.out).mono ?_
      rintro e w3 ⟨rfl, hk⟩
      have HK3 := hid hk
      clear hk HK2
      go_wp2_with fail
      refine (H3.out _ HK3.out).mono ?_
      rintro e w4 ⟨rfl, hk⟩
      have HK4 := hid hk
      clear hk HK3
      go_wp2_with fail
      refine (H4.out _ HK4.out).mono ?_
      rintro e w5 ⟨rfl, hk⟩
      have HK5 := hid hk
      clear hk HK4
      go_wp2_with fail
      refine (H5.out _ HK5.out).mono ?_
      rintro e w6 ⟨rfl, hk⟩
      have HK6 := hid hk
      clear hk HK5
      go_wp2_with fail
      refine (H6.out _ HK6.out).mono ?_
      rintro e w7 ⟨rfl, hk⟩
      have HK7 := hid hk
      clear hk HK6
      go_wp2_with fail
      refine (H7.out _ HK7.out).mono ?_
      rintro e w8 ⟨rfl, hk⟩
      have HK8 := hid hk
      clear hk HK7
      go_wp2
      go_ret
      exact ⟨by simp, HK8.out.fr⟩
  · rw [if_neg h, if_neg h] at H1
    rw [decide_eq_false h] at H2
    clear h
    generalize slI c = sl at *
    rcases hE with rfl | rfl
    · rw [decide_eq_true (rfl : (0 : Int) = 0)] at H7
      go_enter Tryd.func3, Tryd.ntmps3
      go_wp2_with fail
      refine (H1.out _ HK0.out).mono ?_
      rintro e w1 ⟨rfl, hk⟩
      have HK1 := hid hk
      clear hk HK0
      go_wp2_with fail
      refine (H2.out _ HK1.out).mono ?_
      rintro e w2 ⟨rfl, hk⟩
      have HK2 := hid hk
      clear hk HK1
      go_wp2_with fail
      refine (HA.out _ HK2.out).mono ?_
      rintro e w3 ⟨rfl, hk⟩
      have HK3 := hid hk
      clear hk HK2
      go_wp2_with fail
      refine (H4.out _ HK3.out).mono ?_
      rintro e w4 ⟨rfl, hk⟩
      have HK4 := hid hk
      clear hk HK3
      go_wp2_with fail
      refine (H5.out _ HK4.out).mono ?_
      rintro e w5 ⟨rfl, hk⟩
      have HK5 := hid hk
      clear hk HK4
      go_wp2_with fail
      refine (H6.out _ HK5.out).mono ?_
      rintro e w6 ⟨rfl, hk⟩
      have HK6 := hid hk
      clear hk HK5
      go_wp2_with fail
      refine (H7.out _ HK6.out).mono ?_
      rintro e w7 ⟨rfl, hk⟩
      have HK7 := hid hk
      clear hk HK6
      go_wp2
      go_ret
      exact ⟨by simp, HK7.out.fr⟩
    · rw [decide_eq_false (show ¬ (4 : Int) = 0 by decide)] at H7
      go_enter Tryd.func3, Tryd.ntmps3
      go_wp2_with fail
      refine (H1.out _ HK0.out).mono ?_
      rintro e w1 ⟨rfl, hk⟩
      have HK1 := hid hk
      clear hk HK0
      go_wp2_with fail
      refine (H2.out _ HK1.out).mono ?_
      rintro e w2 ⟨rfl, hk⟩
      have HK2 := hid hk
      clear hk HK1
      go_wp2_with fail
      refine (HA.out _ HK2.out).mono ?_
      rintro e w3 ⟨rfl, hk⟩
      have HK3 := hid hk
      clear hk HK2
      go_wp2_with fail
      refine (H4.out _ HK3.out).mono ?_
      rintro e w4 ⟨rfl, hk⟩
      have HK4 := hid hk
      clear hk HK3
      go_wp2_with fail
      refine (H5.out _ HK4.out).mono ?_
      rintro e w5 ⟨rfl, hk⟩
      have HK5 := hid hk
      clear hk HK4
      go_wp2_with fail
      refine (H6.out _ HK5.out).mono ?_
      rintro e w6 ⟨rfl, hk⟩
      have HK6 := hid hk
      clear hk HK5
      go_wp2_with fail
      refine (H7.out _ HK6.out).mono ?_
      rintro e w7 ⟨rfl, hk⟩
      have HK7 := hid hk
      clear hk HK6
      go_wp2
      go_ret
      exact ⟨by simp, HK7.out.fr⟩
end Go.Proofs.YtkhppfbhhfajgaaDoor
