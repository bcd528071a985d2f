/-
  The law PlaceBack, walked.
-/
import Derived.Test.YtkhppfbhhfajgaaDoorPlAwake
import Derived.Deep.QuietTactic
import Derived.BigQuiet
import Derived.Deep.RegionHeld3
import Derived.BigRegion
namespace Go.Proofs.YtkhppfbhhfajgaaDoor
open Go.RowKit

set_option maxRecDepth 20000 in
theorem back_walk (c s n : Int) (hc : I64 c) (hs : I64 s) (hn : I64 n) (w0 : World) (hT : Tab w0) : Calls Tryd.prog 4 #[.int .i64 c, .int .i64 s, .int .i64 n] w0 fun e w' => e = .returned (.bool true) ∧ Fr (fun _ => False) w0 w' := by
  have HK0 := hid (K.start hT)
  have HA : Hid _ := fun w (k : K w0 w) => awake_any k
  have H1 : Hid _ := fun w (k : K w0 w) => l_of c s n hc hs hn k
  clear hT
  unfold ofA ofE at H1
  by_cases h : PlT c s n
  · rw [if_pos h, if_pos h] at H1
    have hi := h.win
    have H2 : Hid _ := fun w (k : K w0 w) => l_find (findR_of h) (by omega) k
    clear h hc hs hn hi
    generalize adI c s n = x at *
    go_enter Tryd.func4, Tryd.ntmps4
    go_wp2_with fail
    refine (H1.out _ HK0.out).mono ?_
    rintro e w1 ⟨rfl, hk⟩
    have HK1 := hid hk
    clear hk HK0
    go_wp2_with fail
    refine (HA.out _ HK1.out).mono ?_
    rintro e w2 ⟨rfl, hk⟩
    have HK2 := hid hk
    clear hk HK1
    go_wp2_with fail
    refine (H2.out _ HK2.out).mono ?_
    rintro e w3 ⟨rfl, hk⟩
    have HK3 := hid hk
    clear hk HK2
    go_wp2
    go_ret
    exact ⟨by simp, HK3.out.fr⟩
  · rw [if_neg h, if_neg h] at H1
    clear h hc hs hn
    go_enter Tryd.func4, Tryd.ntmps4
    go_wp2_with fail
    refine (H1.out _ HK0.out).mono ?_
    rintro e w1 ⟨rfl, hk⟩
    have HK1 := hid hk
    clear hk HK0
    go_wp2_with fail
    refine (HA.out _ HK1.out).mono ?_
    rintro e w2 ⟨rfl, hk⟩
    have HK2 := hid hk
    clear hk HK1
    go_wp2_with fail
    refine (HA.out _ HK2.out).mono ?_
    rintro e w3 ⟨rfl, hk⟩
    have HK3 := hid hk
    clear hk HK2
    go_wp2
    go_ret
    exact ⟨by simp, HK3.out.fr⟩
end Go.Proofs.YtkhppfbhhfajgaaDoor
