/-
  What the document's own places answer: Slots, There, Of, Within.
-/
import Derived.Test.YtkhppfbhhfajgaaDoorPlAwake
import Derived.Deep.QuietTactic
import Derived.BigQuiet
import Derived.Deep.RegionHeld3
import Derived.BigRegion
namespace Go.Proofs.YtkhppfbhhfajgaaDoor
open Go.RowKit

section
variable {w0 w : World}
theorem wI {x : Int} (h : -9223372036854775808 ≤ x ∧ x ≤ 9223372036854775807) : IntKind.i64.wrap x = x := by rw [IntKind.wrap_i64]; omega
set_option maxRecDepth 20000 in
theorem e_slots (c : Int) (k : K w0 w) : Calls Tryd.prog 13 #[.int .i64 c] w fun e w' => e = .returned (.int .i64 (slI c)) ∧ K w0 w' := by
  have HK0 := hid k
  have H1 : Hid _ := fun w (q : K w0 w) => r_pages c q
  clear k
  by_cases h0 : c < 0
  · rw [slI_none (.inl h0)]
    go_enter Tryd.func13, Tryd.ntmps13
    go_wp2
    go_ret
    exact ⟨by simp, HK0.out⟩
  by_cases h1 : 23 < c
  · rw [slI_none (.inr h1)]
    go_enter Tryd.func13, Tryd.ntmps13
    go_wp2
    go_ret
    exact ⟨by simp, HK0.out⟩
  have hk := (pl_facts (c := c) (by omega) (by omega)).2.2.2.2.2
  have hs := (pl_facts (c := c) (by omega) (by omega)).2.1
  have e1 : slI c = 256 / pagesI c := if_pos (by omega)
  have t1 : Int.tdiv 256 (pagesI c) = slI c := by rw [e1, Int.tdiv_eq_ediv_of_nonneg (by omega)]
  have t2 : IntKind.i64.wrap (slI c) = slI c := wI (by omega)
  have t3 : pagesI c ≠ 0 := by omega
  clear hk hs e1
  generalize slI c = s at *
  generalize pagesI c = p at *
  go_enter Tryd.func13, Tryd.ntmps13
  go_wp2_with fail
  refine (H1.out _ HK0.out).mono ?_
  rintro e w1 ⟨rfl, hk⟩
  have HK1 := hid hk
  clear hk HK0
  go_wp2
  go_ret
  exact ⟨by simp, HK1.out⟩
set_option maxRecDepth 20000 in
theorem e_there (c s n : Int) (k : K w0 w) : Calls Tryd.prog 9 #[.int .i64 c, .int .i64 s, .int .i64 n] w fun e w' => e = .returned (.bool (decide (PlT c s n))) ∧ K w0 w' := by
  have HK0 := hid k
  have H1 : Hid _ := fun w (q : K w0 w) => e_slots c q
  have H2 : Hid _ := fun w (q : K w0 w) => r_per c q
  clear k
  by_cases h0 : s < 0
  · rw [decide_eq_false (show ¬ PlT c s n by omega)]
    clear H1 H2
    go_enter Tryd.func9, Tryd.ntmps9
    go_wp2
    go_ret
    exact ⟨by simp, HK0.out⟩
  by_cases h1 : slI c ≤ s
  · rw [decide_eq_false (show ¬ PlT c s n by omega)]
    generalize slI c = sl at *
    go_enter Tryd.func9, Tryd.ntmps9
    go_wp2_with fail
    refine (H1.out _ HK0.out).mono ?_
    rintro e w1 ⟨rfl, hk⟩
    have HK1 := hid hk
    clear hk HK0
    go_wp2
    go_ret
    exact ⟨by simp, HK1.out⟩
  by_cases h2 : n < 0
  · rw [decide_eq_false (show ¬ PlT c s n by omega)]
    generalize slI c = sl at *
    go_enter Tryd.func9, Tryd.ntmps9
    go_wp2_with fail
    refine (H1.out _ HK0.out).mono ?_
    rintro e w1 ⟨rfl, hk⟩
    have HK1 := hid hk
    clear hk HK0
    go_wp2
    go_ret
    exact ⟨by simp, HK1.out⟩
  have e1 : decide (PlT c s n) = decide (n < nuI c) := decide_eq_decide.2 (by omega)
  rw [e1]
  unfold nuI
  clear e1
  generalize slI c = sl at *
  generalize perI c = p at *
  by_cases hp : p < 1
  · rw [if_pos hp]
    go_enter Tryd.func9, Tryd.ntmps9
    go_wp2_with fail
    refine (H1.out _ HK0.out).mono ?_
    rintro e w1 ⟨rfl, hk⟩
    have HK1 := hid hk
    clear hk HK0
    go_wp2_with fail
    refine (H2.out _ HK1.out).mono ?_
    rintro e w2 ⟨rfl, hk⟩
    have HK2 := hid hk
    clear hk HK1
    go_wp2
    go_ret
    exact ⟨by simp, HK2.out⟩
  · rw [if_neg hp]
    go_enter Tryd.func9, Tryd.ntmps9
    go_wp2_with fail
    refine (H1.out _ HK0.out).mono ?_
    rintro e w1 ⟨rfl, hk⟩
    have HK1 := hid hk
    clear hk HK0
    go_wp2_with fail
    refine (H2.out _ HK1.out).mono ?_
    rintro e w2 ⟨rfl, hk⟩
    have HK2 := hid hk
    clear hk HK1
    go_wp2
    go_ret
    exact ⟨by simp, HK2.out⟩
set_option maxRecDepth 20000 in
theorem e_of {c s n : Int} (h : PlT c s n) (k : K w0 w) : Calls Tryd.prog 11 #[.int .i64 c, .int .i64 s, .int .i64 n] w fun e w' => e = .returned (.int .i64 (adI c s n)) ∧ K w0 w' := by
  have HK0 := hid k
  have H1 : Hid _ := fun w (q : K w0 w) => r_pages c q
  have H2 : Hid _ := fun w (q : K w0 w) => r_unit c q
  clear k
  obtain ⟨c0, c1⟩ := h.kind
  have hl := h.lies
  have hw := h.win
  have hs := (pl_facts c0 c1).2.1
  have hb0 := (pl_facts c0 c1).1
  have hu0 := (pl_facts c0 c1).2.2.2.1
  have hsb : s * 512 * pagesI c = s * sbI c := by unfold sbI; rw [Int.mul_assoc, Int.mul_comm 512]
  have t1 := wI (x := c + 1) (by omega)
  have t2 := wI (x := (c + 1) * 131072) (by omega)
  have t3 := wI (x := s * 512) (by omega)
  have t4 : IntKind.i64.wrap (s * 512 * pagesI c) = s * sbI c := by rw [hsb]; exact wI (by omega)
  have t5 := wI (x := (c + 1) * 131072 + s * sbI c) (by omega)
  have t6 := wI (x := n * unitI c) (by omega)
  have t7 : IntKind.i64.wrap ((c + 1) * 131072 + s * sbI c + n * unitI c) = adI c s n := wI (x := adI c s n) (by omega)
  clear h hl hw hs hsb hb0 hu0 c0 c1
  generalize adI c s n = x at *
  generalize s * sbI c = y at *
  generalize pagesI c = p at *
  generalize unitI c = u at *
  go_enter Tryd.func11, Tryd.ntmps11
  go_wp2_with fail
  refine (H1.out _ HK0.out).mono ?_
  rintro e w1 ⟨rfl, hk⟩
  have HK1 := hid hk
  clear hk HK0
  go_wp2_with fail
  refine (H2.out _ HK1.out).mono ?_
  rintro e w2 ⟨rfl, hk⟩
  have HK2 := hid hk
  clear hk HK1
  go_wp2
  go_ret
  exact ⟨by simp, HK2.out⟩
set_option maxRecDepth 20000 in
theorem e_within (a n : Int) (k : K w0 w) : Calls Tryd.prog 20 #[.int .i64 a, .int .i64 n] w fun e w' => e = .returned (.bool (decide (InW a n))) ∧ K w0 w' := by
  have HK0 := hid k
  clear k
  by_cases h0 : n < 0
  · rw [decide_eq_false (show ¬ InW a n by omega)]
    go_enter Tryd.func20, Tryd.ntmps20
    go_wp2
    go_ret
    exact ⟨by simp, HK0.out⟩
  by_cases h1 : a < 131072
  · rw [decide_eq_false (show ¬ InW a n by omega)]
    go_enter Tryd.func20, Tryd.ntmps20
    go_wp2
    go_ret
    exact ⟨by simp, HK0.out⟩
  by_cases h2 : 3276800 < a
  · rw [decide_eq_false (show ¬ InW a n by omega)]
    go_enter Tryd.func20, Tryd.ntmps20
    go_wp2
    go_ret
    exact ⟨by simp, HK0.out⟩
  have t1 := wI (x := 3276800 - a) (by omega)
  have e1 : decide (InW a n) = decide (n ≤ 3276800 - a) := decide_eq_decide.2 (by omega)
  rw [e1]
  clear e1
  go_enter Tryd.func20, Tryd.ntmps20
  go_wp2
  go_ret
  exact ⟨by simp, HK0.out⟩
end
end Go.Proofs.YtkhppfbhhfajgaaDoor
