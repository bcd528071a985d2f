/-
  Operations: the walks of the laws OpChecks, OpWords, OpAsks.
-/
import Derived.Test.YtdjpkpgajifjiaaDoorOpCalls
import Derived.Test.YtdjpkpgajifjiaaDoorOpRefB
namespace Go.Proofs.YtdjpkpgajifjiaaDoor
open Go.RowKit

theorem wdF_word : ∀ k : Fin 12, 1 ≤ k.val → opK (wdS k.val) = (k.val : Int) := by decide
theorem opK_word (k : Int) (h1 : 1 ≤ k) (h2 : k ≤ 11) : opK (opW k) = k := by
  obtain ⟨n, rfl⟩ := Int.eq_ofNat_of_zero_le (show 0 ≤ k by omega)
  unfold opW
  rw [if_pos ⟨h1, h2⟩]
  exact wdF_word ⟨n, by omega⟩ (by show 1 ≤ n; omega)
theorem wdS_some : ∀ k : Fin 12, 1 ≤ k.val → (wdS k.val).toList.isEmpty = false := by
  intro k hk
  rw [empty_iff]
  revert k
  decide
theorem opW_some (k : Int) (h1 : 1 ≤ k) (h2 : k ≤ 11) : (opW k).toList.isEmpty = false := by
  obtain ⟨n, rfl⟩ := Int.eq_ofNat_of_zero_le (show 0 ≤ k by omega)
  unfold opW
  rw [if_pos ⟨h1, h2⟩]
  exact wdS_some ⟨n, by omega⟩ (by show 1 ≤ n; omega)
theorem i0 : I64 0 := ⟨by decide, by decide⟩
set_option maxRecDepth 20000 in
set_option maxHeartbeats 2000000 in
theorem awake_any {w0 w : World} (kk : Kw w0 w) : Calls Tryd.prog 8 #[] w fun e w' => e = .returned (.bool true) ∧ Kw w0 w' := by
  have H1 : Hid (∀ w1, Kw w0 w1 → Calls Tryd.prog 7 #[opV 4 7 (-5) 0 0 ⟨#[]⟩] w1 fun e w' => e = .returned (.int .i64 0) ∧ Kw w0 w') := fun w1 k1 => (o_check k1 (k := 4) (t := 7) (n := -5) (m := 0) (h := 0) (d := ⟨#[]⟩) ⟨by decide, by decide⟩ ⟨by decide, by decide⟩ ⟨by decide, by decide⟩ i0).mono fun e w' ⟨he, k2⟩ => ⟨he, k2⟩
  have H2 : Hid (∀ w1, Kw w0 w1 → Calls Tryd.prog 7 #[opV 4 0 0 0 0 ⟨#[120]⟩] w1 fun e w' => e = .returned (.int .i64 1) ∧ Kw w0 w') := fun w1 k1 => (o_check k1 (k := 4) (t := 0) (n := 0) (m := 0) (h := 0) (d := ⟨#[120]⟩) ⟨by decide, by decide⟩ i0 i0 i0).mono fun e w' ⟨he, k2⟩ => ⟨he, k2⟩
  have H3 : Hid (∀ w1, Kw w0 w1 → Calls Tryd.prog 12 #[.int .i64 9] w1 fun e w' => e = .returned (.string ⟨#[114, 101, 97, 100]⟩) ∧ Kw w0 w') := fun w1 k1 => o_word k1 ⟨by decide, by decide⟩
  have H4 : Hid (∀ w1, Kw w0 w1 → Calls Tryd.prog 14 #[.string ⟨#[119, 114, 105, 116, 101]⟩] w1 fun e w' => e = .returned (.int .i64 10) ∧ Kw w0 w') := fun w1 k1 => (o_kind k1 ⟨#[119, 114, 105, 116, 101]⟩).mono fun e w' ⟨he, k2⟩ => ⟨he.trans (by rw [show opK ⟨#[119, 114, 105, 116, 101]⟩ = 10 by decide]), k2⟩
  have H5 : Hid (∀ w1, Kw w0 w1 → Calls Tryd.prog 10 #[opV 5 0 3 100 0 ⟨#[]⟩] w1 fun e w' => e = .returned (.int .i64 300) ∧ Kw w0 w') := fun w1 k1 => (o_asks k1 (k := 5) (t := 0) (n := 3) (m := 100) (h := 0) (d := ⟨#[]⟩) ⟨by decide, by decide⟩ i0 ⟨by decide, by decide⟩ ⟨by decide, by decide⟩).mono fun e w' ⟨he, k2⟩ => ⟨he, k2⟩
  have H6 : Hid (∀ w1, Kw w0 w1 → Calls Tryd.prog 9 #[opV 3 0 0 0 0 ⟨#[]⟩] w1 fun e w' => e = .returned (.bool true) ∧ Kw w0 w') := fun w1 k1 => (o_admin k1 (k := 3) (t := 0) (n := 0) (m := 0) (h := 0) (d := ⟨#[]⟩) ⟨by decide, by decide⟩ i0 i0 i0).mono fun e w' ⟨he, k2⟩ => ⟨he, k2⟩
  have T0 := hid kk
  clear kk
  go_enter Tryd.func8, Tryd.ntmps8
  go_wp2_with fail
  refine (H1.out _ T0.out).mono ?_
  rintro e w1 ⟨rfl, k1⟩
  have T1 := hid k1
  clear k1 T0 H1
  go_wp2_with fail
  refine (H2.out _ T1.out).mono ?_
  rintro e w2 ⟨rfl, k1⟩
  have T2 := hid k1
  clear k1 T1 H2
  go_wp2_with fail
  refine (H3.out _ T2.out).mono ?_
  rintro e w3 ⟨rfl, k1⟩
  have T3 := hid k1
  clear k1 T2 H3
  go_wp2_with fail
  refine (H4.out _ T3.out).mono ?_
  rintro e w4 ⟨rfl, k1⟩
  have T4 := hid k1
  clear k1 T3 H4
  go_wp2_with fail
  refine (H5.out _ T4.out).mono ?_
  rintro e w5 ⟨rfl, k1⟩
  have T5 := hid k1
  clear k1 T4 H5
  go_wp2_with fail
  refine (H6.out _ T5.out).mono ?_
  rintro e w6 ⟨rfl, k1⟩
  have T6 := hid k1
  clear k1 T5 H6
  go_wp2
  go_ret
  exact ⟨by simp, T6.out⟩
set_option maxRecDepth 20000 in
set_option maxHeartbeats 2000000 in
theorem words_walk (k : Int) (s : ByteArray) (hk : I64 k) (w : World) (hT : Tab w ∧ Wt w) : Calls Tryd.prog 4 #[.int .i64 k, .string s] w fun e w' => e = .returned (.bool true) ∧ Fr (fun _ => False) w w' := by
  have HA : Hid (∀ w1, Kw w w1 → Calls Tryd.prog 8 #[] w1 fun e w' => e = .returned (.bool true) ∧ Kw w w') := fun w1 k1 => awake_any k1
  have H1 : Hid (∀ w1, Kw w w1 → Calls Tryd.prog 12 #[.int .i64 k] w1 fun e w' => e = .returned (.string (opW k)) ∧ Kw w w') := fun w1 k1 => o_word k1 hk
  have H2 : Hid (∀ w1, Kw w w1 → Calls Tryd.prog 13 #[.int .i64 k] w1 fun e w' => e = .returned (.string (opW k)) ∧ Kw w w') := fun w1 k1 => (q_word k w1).mono fun e w' ⟨he, f⟩ => ⟨he, k1.on f⟩
  have H3 : Hid (∀ w1, Kw w w1 → Calls Tryd.prog 14 #[.string s] w1 fun e w' => e = .returned (.int .i64 (opK s)) ∧ Kw w w') := fun w1 k1 => o_kind k1 s
  have H4 : Hid (∀ w1, Kw w w1 → Calls Tryd.prog 15 #[.string s] w1 fun e w' => e = .returned (.int .i64 (opK s)) ∧ Kw w w') := fun w1 k1 => (q_kind s w1).mono fun e w' ⟨he, f⟩ => ⟨he, k1.on f⟩
  have H5 : Hid (∀ w1, Kw w w1 → Calls Tryd.prog 14 #[.string (opW k)] w1 fun e w' => e = .returned (.int .i64 (opK (opW k))) ∧ Kw w w') := fun w1 k1 => o_kind k1 (opW k)
  have T0 := hid (Kw.start hT)
  clear hT hk
  by_cases hr : 1 ≤ k ∧ k ≤ 11
  · have e1 := opK_word k hr.1 hr.2
    have e2 := opW_some k hr.1 hr.2
    rw [e1] at H5
    clear e1 hr
    generalize opW k = wd at *
    generalize opK s = ks at *
    go_enter Tryd.func4, Tryd.ntmps4
    go_wp2_with fail
    refine (HA.out _ T0.out).mono ?_
    rintro e w1 ⟨rfl, k1⟩
    have T1 := hid k1
    clear k1 T0 HA
    go_wp2_with fail
    refine (H1.out _ T1.out).mono ?_
    rintro e w2 ⟨rfl, k1⟩
    have T2 := hid k1
    clear k1 T1
    go_wp2_with fail
    refine (H2.out _ T2.out).mono ?_
    rintro e w3 ⟨rfl, k1⟩
    have T3 := hid k1
    clear k1 T2 H2
    go_wp2_with fail
    refine (H3.out _ T3.out).mono ?_
    rintro e w4 ⟨rfl, k1⟩
    have T4 := hid k1
    clear k1 T3 H3
    go_wp2_with fail
    refine (H4.out _ T4.out).mono ?_
    rintro e w5 ⟨rfl, k1⟩
    have T5 := hid k1
    clear k1 T4 H4
    go_wp2_with fail
    refine (H1.out _ T5.out).mono ?_
    rintro e w6 ⟨rfl, k1⟩
    have T6 := hid k1
    clear k1 T5
    go_wp2_with fail
    refine (H1.out _ T6.out).mono ?_
    rintro e w7 ⟨rfl, k1⟩
    have T7 := hid k1
    clear k1 T6 H1
    go_wp2_with fail
    refine (H5.out _ T7.out).mono ?_
    rintro e w8 ⟨rfl, k1⟩
    have T8 := hid k1
    clear k1 T7 H5
    go_wp2
    go_ret
    exact ⟨by simp, T8.out.fr⟩
  · have e1 : opW k = ⟨#[]⟩ := if_neg hr
    rw [e1] at H1 H2
    clear e1 H5 hr
    generalize opK s = ks at *
    go_enter Tryd.func4, Tryd.ntmps4
    go_wp2_with fail
    refine (HA.out _ T0.out).mono ?_
    rintro e w1 ⟨rfl, k1⟩
    have T1 := hid k1
    clear k1 T0 HA
    go_wp2_with fail
    refine (H1.out _ T1.out).mono ?_
    rintro e w2 ⟨rfl, k1⟩
    have T2 := hid k1
    clear k1 T1
    go_wp2_with fail
    refine (H2.out _ T2.out).mono ?_
    rintro e w3 ⟨rfl, k1⟩
    have T3 := hid k1
    clear k1 T2 H2
    go_wp2_with fail
    refine (H3.out _ T3.out).mono ?_
    rintro e w4 ⟨rfl, k1⟩
    have T4 := hid k1
    clear k1 T3 H3
    go_wp2_with fail
    refine (H4.out _ T4.out).mono ?_
    rintro e w5 ⟨rfl, k1⟩
    have T5 := hid k1
    clear k1 T4 H4
    go_wp2_with fail
    refine (H1.out _ T5.out).mono ?_
    rintro e w6 ⟨rfl, k1⟩
    have T6 := hid k1
    clear k1 T5 H1
    go_wp2
    go_ret
    exact ⟨by simp, T6.out.fr⟩
end Go.Proofs.YtdjpkpgajifjiaaDoor
