/-
  The law DemandRises, walked.
-/
import Derived.Test.YtcfeeeloceeicaaDoorDmAwake
namespace Go.Proofs.YtcfeeeloceeicaaDoor
open Go.RowKit

set_option maxRecDepth 20000 in
theorem rises_walk (a0 b0 : Int) (w0 : World) (hT : Tab w0) : Calls Tryd.prog 4 #[.int .i64 a0, .int .i64 b0] w0 fun e w' => e = .returned (.bool true) ∧ Fr (fun _ => False) w0 w' := by
  obtain ⟨a, ha⟩ : ∃ a, a = min a0 b0 := ⟨_, rfl⟩
  obtain ⟨b, hb⟩ : ∃ b, b = max a0 b0 := ⟨_, rfl⟩
  have hab : a ≤ b := by omega
  have e1 : ∀ ts t w, (Builtin.min_ ts t #[.int .i64 a0, .int .i64 b0]).run Tryd.prog w = .ok (.int .i64 a) w := by
    intro ts t w
    rw [run_min_int2, show (if b0 < a0 then b0 else a0) = a by rw [ha]; split <;> omega]
  have e2 : ∀ ts t w, (Builtin.max_ ts t #[.int .i64 a0, .int .i64 b0]).run Tryd.prog w = .ok (.int .i64 b) w := by
    intro ts t w
    rw [run_max_int2, hb]
    congr 2
    split <;> omega
  have HK0 := hid (K.start hT)
  have H1 : Hid _ := fun w (k : K w0 w) => d_of a k
  have H2 : Hid _ := fun w (k : K w0 w) => d_of b k
  have H3 : Hid _ := fun w (k : K w0 w) => awake_any k
  have H4 : Hid _ := fun w (k : K w0 w) => b_fits (qu_rt a) (qu_rt b) k
  clear hT ha hb
  by_cases h1 : May a
  · rw [(qu_yes h1).2] at H1
    by_cases h2 : May b
    · rw [(qu_yes h2).2] at H2
      have hf : decide (quA a ≤ quA b ∧ takesI a ≤ takesI b) = true := decide_eq_true ⟨by rw [(qu_yes h1).1, (qu_yes h2).1]; exact hab, takesI_mono a b h1 h2 hab⟩
      rw [hf] at H4
      clear hf h1 h2 hab
      generalize fb (quA a) = x1 at *
      generalize fb (quA b) = x2 at *
      generalize fb (takesI a) = y1 at *
      generalize fb (takesI b) = y2 at *
      go_enter Tryd.func4, Tryd.ntmps4
      go_wp2_with fail
      refine (H1.out _ HK0.out).mono ?_
      rintro e w' ⟨rfl, hk⟩
      have HK1 := hid hk
      clear hk HK0
      go_wp2_with fail
      refine (H2.out _ HK1.out).mono ?_
      rintro e w' ⟨rfl, hk⟩
      have HK2 := hid hk
      clear hk HK1
      go_wp2_with fail
      refine (H3.out _ HK2.out).mono ?_
      rintro e w' ⟨rfl, hk⟩
      have HK3 := hid hk
      clear hk HK2
      go_wp2_with fail
      refine (H4.out _ HK3.out).mono ?_
      rintro e w' ⟨rfl, hk⟩
      have HK4 := hid hk
      clear hk HK3
      go_wp2
      go_ret
      exact ⟨by simp, HK4.out.fr⟩
    · rw [(qu_no h2).2.1] at H2
      clear h1 h2 hab H4
      generalize fb (quA a) = x1 at *
      generalize fb (quA b) = x2 at *
      generalize fb (takesI a) = y1 at *
      generalize fb (takesI b) = y2 at *
      go_enter Tryd.func4, Tryd.ntmps4
      go_wp2_with fail
      refine (H1.out _ HK0.out).mono ?_
      rintro e w' ⟨rfl, hk⟩
      have HK1 := hid hk
      clear hk HK0
      go_wp2_with fail
      refine (H2.out _ HK1.out).mono ?_
      rintro e w' ⟨rfl, hk⟩
      have HK2 := hid hk
      clear hk HK1
      go_wp2_with fail
      refine (H3.out _ HK2.out).mono ?_
      rintro e w' ⟨rfl, hk⟩
      have HK3 := hid hk
      clear hk HK2
      go_wp2
      go_ret
      exact ⟨by simp, HK3.out.fr⟩
  · rw [(qu_no h1).2.1] at H1
    clear h1 hab H4
    generalize fb (quA a) = x1 at *
    generalize fb (quA b) = x2 at *
    generalize fb (takesI a) = y1 at *
    generalize fb (takesI b) = y2 at *
    generalize quE b = z2 at *
    go_enter Tryd.func4, Tryd.ntmps4
    go_wp2_with fail
    refine (H1.out _ HK0.out).mono ?_
    rintro e w' ⟨rfl, hk⟩
    have HK1 := hid hk
    clear hk HK0
    go_wp2_with fail
    refine (H2.out _ HK1.out).mono ?_
    rintro e w' ⟨rfl, hk⟩
    have HK2 := hid hk
    clear hk HK1
    go_wp2_with fail
    refine (H3.out _ HK2.out).mono ?_
    rintro e w' ⟨rfl, hk⟩
    have HK3 := hid hk
    clear hk HK2
    go_wp2
    go_ret
    exact ⟨by simp, HK3.out.fr⟩
end Go.Proofs.YtcfeeeloceeicaaDoor
