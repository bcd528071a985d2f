/-
  The law PlaceRegions, walked.
-/
import Derived.Test.YtkhppfbhhfajgaaDoorPlAwake
import Derived.Deep.QuietTactic
import Derived.BigQuiet
import Derived.Deep.RegionHeld3
import Derived.BigRegion
namespace Go.Proofs.YtkhppfbhhfajgaaDoor
open Go.RowKit

set_option maxRecDepth 20000 in
set_option maxHeartbeats 2000000 in
theorem regions_walk (c a b k l : Int) (hc : I64 c) (ha : I64 a) (hb : I64 b) (hk : I64 k) (hl : I64 l) (w0 : World) (hT : Tab w0) : Calls Tryd.prog 7 #[.int .i64 c, .int .i64 a, .int .i64 b, .int .i64 k, .int .i64 l] w0 fun e w' => e = .returned (.bool true) ∧ Fr (fun _ => False) w0 w' := by
  have HK0 := hid (K.start hT)
  have HA : Hid _ := fun w (q : K w0 w) => awake_any q
  have H1 : Hid _ := fun w (q : K w0 w) => l_of c a k hc ha hk q
  have H2 : Hid _ := fun w (q : K w0 w) => l_of c b l hc hb hl q
  have H3 : Hid _ := fun w (q : K w0 w) => r_unit c q
  clear hT
  by_cases h : PlT c a k
  case neg =>
    unfold ofA ofE at H1
    rw [if_neg h, if_neg h] at H1
    clear h hc ha hb hk hl H3
    generalize ofA c b l = x2 at *
    generalize ofE c b l = e2 at *
    go_enter Tryd.func7, Tryd.ntmps7
    go_wp2_with fail
    refine (H1.out _ HK0.out).mono ?_
    rintro e w1 ⟨rfl, hk⟩
    have HK1 := hid hk
    clear hk HK0
    go_wp2_with fail
    refine (H2.out _ HK1.out).mono ?_
    rintro e w2 ⟨rfl, hk⟩
    have HK2 := hid hk
    clear hk HK1
    go_wp2_with fail
    refine (HA.out _ HK2.out).mono ?_
    rintro e w3 ⟨rfl, hk⟩
    have HK3 := hid hk
    clear hk HK2
    go_wp2_with fail
    refine (HA.out _ HK3.out).mono ?_
    rintro e w4 ⟨rfl, hk⟩
    have HK4 := hid hk
    clear hk HK3
    go_wp2
    go_ret
    exact ⟨by simp, HK4.out.fr⟩
  unfold ofA ofE at H1 H2
  by_cases h' : PlT c b l
  case neg =>
    rw [if_pos h, if_pos h] at H1
    rw [if_neg h', if_neg h'] at H2
    clear h h' hc ha hb hk hl H3
    generalize adI c a k = x1 at *
    go_enter Tryd.func7, Tryd.ntmps7
    go_wp2_with fail
    refine (H1.out _ HK0.out).mono ?_
    rintro e w1 ⟨rfl, hk⟩
    have HK1 := hid hk
    clear hk HK0
    go_wp2_with fail
    refine (H2.out _ HK1.out).mono ?_
    rintro e w2 ⟨rfl, hk⟩
    have HK2 := hid hk
    clear hk HK1
    go_wp2_with fail
    refine (HA.out _ HK2.out).mono ?_
    rintro e w3 ⟨rfl, hk⟩
    have HK3 := hid hk
    clear hk HK2
    go_wp2_with fail
    refine (HA.out _ HK3.out).mono ?_
    rintro e w4 ⟨rfl, hk⟩
    have HK4 := hid hk
    clear hk HK3
    go_wp2
    go_ret
    exact ⟨by simp, HK4.out.fr⟩
  rw [if_pos h, if_pos h] at H1
  rw [if_pos h', if_pos h'] at H2
  obtain ⟨c0, c1⟩ := h.kind
  obtain ⟨g1, g2⟩ := h.region
  obtain ⟨g3, g4, g5, g6⟩ := h.inside
  have g7 := (pl_facts c0 c1).2.2.2.1
  have g8 := h'.inside
  have HLT := hid (h.lt_iff h')
  have t1 : Int.tdiv (adI c a k) 131072 = c + 1 := by rw [Int.tdiv_eq_ediv_of_nonneg (by omega)]; exact g1
  have t2 : Int.tdiv (adI c a k + unitI c - 1) 131072 = c + 1 := by rw [Int.tdiv_eq_ediv_of_nonneg (by omega)]; exact g2
  have w1 : IntKind.i64.wrap (c + 1) = c + 1 := by rw [IntKind.wrap_i64]; omega
  have w2 : IntKind.i64.wrap (adI c a k + unitI c) = adI c a k + unitI c := by rw [IntKind.wrap_i64]; omega
  have w3 : IntKind.i64.wrap (adI c a k + unitI c - 1) = adI c a k + unitI c - 1 := by rw [IntKind.wrap_i64]; omega
  clear h h' hc ha hb hk hl g1 g2 g3 g4 g5 g6 g7 g8 c0 c1
  generalize adI c a k = x at *
  generalize adI c b l = y at *
  generalize unitI c = u at *
  go_enter Tryd.func7, Tryd.ntmps7
  go_wp2_with fail
  refine (H1.out _ HK0.out).mono ?_
  rintro e w1 ⟨rfl, hk⟩
  have HK1 := hid hk
  clear hk HK0
  go_wp2_with fail
  refine (H2.out _ HK1.out).mono ?_
  rintro e w2 ⟨rfl, hk⟩
  have HK2 := hid hk
  clear hk HK1
  go_wp2_with fail
  refine (HA.out _ HK2.out).mono ?_
  rintro e w3 ⟨rfl, hk⟩
  have HK3 := hid hk
  clear hk HK2
  go_wp2_with fail
  refine (H3.out _ HK3.out).mono ?_
  rintro e w4 ⟨rfl, hk⟩
  have HK4 := hid hk
  clear hk HK3
  obtain hab | ⟨hab, hkl⟩ | ⟨hab, hkl⟩ | hab : a < b ∨ (a = b ∧ k < l) ∨ (a = b ∧ ¬ k < l) ∨ b < a := by omega
  · have hxy : x < y := by have := HLT.out; omega
    clear HLT
    go_wp2
    go_ret
    exact ⟨by simp, HK4.out.fr⟩
  · have hxy : x < y := by have := HLT.out; omega
    clear HLT
    go_wp2
    go_ret
    exact ⟨by simp, HK4.out.fr⟩
  · have hxy : ¬ x < y := by have := HLT.out; omega
    clear HLT
    go_wp2
    go_ret
    exact ⟨by simp; omega, HK4.out.fr⟩
  · have hxy : ¬ x < y := by have := HLT.out; omega
    clear HLT
    go_wp2
    go_ret
    exact ⟨by simp; omega, HK4.out.fr⟩
end Go.Proofs.YtkhppfbhhfajgaaDoor
