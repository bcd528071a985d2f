/-
  The document's own examples stand, so the law is awake.
-/
import Derived.Test.YtkhppfbhhfajgaaDoorPlCalls
import Derived.Deep.QuietTactic
import Derived.BigQuiet
import Derived.Deep.RegionHeld3
import Derived.BigRegion
namespace Go.Proofs.YtkhppfbhhfajgaaDoor
open Go.RowKit

set_option maxRecDepth 20000 in
theorem awake_any {w0 w : World} (k : K w0 w) : Calls Tryd.prog 10 #[] w fun e w' => e = .returned (.bool true) ∧ K w0 w' := by
  have HK0 := hid k
  clear k
  have H0 : Hid (∀ w, K w0 w → Calls Tryd.prog 8 #[.int .i64 0, .int .i64 1, .int .i64 2] w fun e w' => e = .returned (.tuple #[.int .i64 131616, .int .i64 0]) ∧ K w0 w') := fun w h => l_of 0 1 2 (by decide) (by decide) (by decide) h
  have H1 : Hid (∀ w, K w0 w → Calls Tryd.prog 14 #[.int .i64 131088] w fun e w' => e = .returned (.tuple #[.int .i64 0, .int .i64 0, .int .i64 1, .int .i64 0]) ∧ K w0 w') := fun w h => l_find (findR_of (c := 0) (s := 0) (k := 1) (by decide)) (by decide) h
  have H2 : Hid (∀ w, K w0 w → Calls Tryd.prog 14 #[.int .i64 131089] w fun e w' => e = .returned (.tuple #[.int .i64 0, .int .i64 0, .int .i64 0, .int .i64 4]) ∧ K w0 w') := fun w h => l_find (.inr ⟨rfl, ⟨rfl, rfl, rfl⟩, fun x y z h1 h2 => by
    obtain ⟨e, _⟩ := h1.of_addr h2
    obtain rfl : x = 0 := by omega
    have := h1.align
    rw [h2] at this
    exact absurd this (by decide)⟩) (by decide) h
  have H3 : Hid (∀ w, K w0 w → Calls Tryd.prog 19 #[.int .i64 131616] w fun e w' => e = .returned (.tuple #[.complex .f64 4643228808005025792 4629700416936869888, .int .i64 0]) ∧ K w0 w') := fun w h => by
    have := l_at (a := 131616) (by decide) h
    rw [show fb (131616 / 512) = 4643228808005025792 by decide +kernel, show fb (131616 % 512) = 4629700416936869888 by decide +kernel] at this
    exact this
  have H4 : Hid (∀ w, K w0 w → Calls Tryd.prog 12 #[.int .i64 9] w fun e w' => e = .returned (.int .i64 128) ∧ K w0 w') := fun w h => l_slots 9 (by decide) h
  have o1 : FloatKind.f64.format.order 4643228808005025792 4643228808005025792 = some .eq := by decide +kernel
  have o2 : FloatKind.f64.format.order 4629700416936869888 4629700416936869888 = some .eq := by decide +kernel
  go_enter Tryd.func10, Tryd.ntmps10
  go_wp2_with fail
  refine (H0.out _ HK0.out).mono ?_
  rintro e w1 ⟨rfl, hk⟩
  have HK1 := hid hk
  clear hk HK0
  go_wp2_with fail
  refine (H1.out _ HK1.out).mono ?_
  rintro e w2 ⟨rfl, hk⟩
  have HK2 := hid hk
  clear hk HK1
  go_wp2_with fail
  refine (H2.out _ HK2.out).mono ?_
  rintro e w3 ⟨rfl, hk⟩
  have HK3 := hid hk
  clear hk HK2
  go_wp2_with fail
  refine (H3.out _ HK3.out).mono ?_
  rintro e w4 ⟨rfl, hk⟩
  have HK4 := hid hk
  clear hk HK3
  go_wp2_with fail
  refine (H4.out _ HK4.out).mono ?_
  rintro e w5 ⟨rfl, hk⟩
  have HK5 := hid hk
  clear hk HK4
  go_wp2
  go_ret
  exact ⟨by simp, HK5.out⟩
end Go.Proofs.YtkhppfbhhfajgaaDoor
