/-
  So many times a sum is that sum added so often.
-/
import Derived.Test.YtcocdbekahokaaaSuTools
namespace Go.Proofs.Ytcocdbekahokaaa
open Go.RowKit

theorem modu (x : Int) (m : Nat) (M : Int) (hM : M = (m : Int)) (h0 : 0 < m) (h1 : m ≤ 65536) : ∃ n : Nat, wrap64 ((IntKind.u64.wrap x).tmod M) = (n : Int) ∧ n < m := by
  subst hM
  have hu : 0 ≤ IntKind.u64.wrap x := by rw [IntKind.wrap_u64]; omega
  have he : (IntKind.u64.wrap x).tmod (m : Int) = (IntKind.u64.wrap x) % (m : Int) := Int.tmod_eq_emod_of_nonneg hu
  have h2 := Int.emod_nonneg (IntKind.u64.wrap x) (b := (m : Int)) (by omega)
  have h3 := Int.emod_lt_of_pos (IntKind.u64.wrap x) (b := (m : Int)) (by omega)
  refine ⟨((IntKind.u64.wrap x) % (m : Int)).toNat, ?_, by omega⟩
  rw [he]
  generalize (IntKind.u64.wrap x) % (m : Int) = z at *
  unfold wrap64
  omega
theorem times_no (a b n : Int) (w0 : World) (h : ¬ Rt a b) : Calls Try.prog 8 #[.int .i64 a, .int .i64 b, .int .i64 n] w0 fun e w' => e = .returned (.bool true) ∧ Fr (fun _ => False) w0 w' := by
  obtain ⟨k, hk, hkl⟩ := modu n 200 200 rfl (by decide) (by decide)
  have H1 := hid fun w => f_of_no h w
  have HA := hid f_awake
  clear h
  go_enter Try.func8, Try.ntmps8
  go_wp2_with fail
  refine (H1.out _).mono ?_
  rintro e w1 ⟨rfl, hf⟩
  have F1 := hid hf
  clear hf
  go_wp2_with fail
  refine (HA.out _).mono ?_
  rintro e w2 ⟨rfl, hf⟩
  have F2 := hid (F1.out.trans hf)
  clear hf F1
  go_wp2_with fail
  refine (HA.out _).mono ?_
  rintro e w3 ⟨rfl, hf⟩
  have F3 := hid (F2.out.trans hf)
  clear hf F2
  go_wp2
  go_ret
  exact ⟨rfl, F3.out⟩
theorem mul_up {a : Int} {j n : Nat} (ha : 0 ≤ a) (h : j ≤ n) : a * j ≤ a * n := Int.mul_le_mul_of_nonneg_left (by omega) ha
set_option maxHeartbeats 1000000 in
theorem times_walk (a b n : Int) (w0 : World) : Calls Try.prog 8 #[.int .i64 a, .int .i64 b, .int .i64 n] w0 fun e w' => e = .returned (.bool true) ∧ Fr (fun _ => False) w0 w' := by
  by_cases h : Rt a b
  · obtain ⟨k, hk, hkl⟩ := modu n 200 200 rfl (by decide) (by decide)
    have H1 := hid fun w => f_of_yes h w
    have HA := hid f_awake
    have HT := hid fun w => f_times h (k : Int) w
    have HZ : Hid (∀ w, Calls Try.prog 9 #[.int .i64 0, .int .i64 0] w fun e w' => e = .returned (.tuple #[.complex .f64 (fb (a * (0 : Nat))) (fb (b * (0 : Nat))), .int .i64 0]) ∧ Fr (fun _ => False) w w') := fun w => by
      have := f_of_yes (a := 0) (b := 0) (by decide) w
      simpa using this
    have ht : tim a k = a * k ∧ tim b k = b * k := by
      have hk2 : (0 : Int) ≤ (k : Int) ∧ (k : Int) ≤ 1099511627776 := by omega
      unfold tim
      exact ⟨if_pos hk2, if_pos hk2⟩
    rw [ht.1, ht.2] at HT
    have HR := hid h
    clear h ht
    generalize hp1 : fb a = p1 at *
    generalize hp2 : fb b = p2 at *
    have HP1 := hid hp1
    have HP2 := hid hp2
    clear hp1 hp2
    generalize ht1 : fb (okA (a * k) (b * k)) = t1 at *
    generalize ht2 : fb (okB (a * k) (b * k)) = t2 at *
    generalize ht3 : okE (a * k) (b * k) = t3 at *
    have HT1 := hid ht1
    have HT2 := hid ht2
    have HT3 := hid ht3
    clear ht1 ht2 ht3
    go_enter Try.func8, Try.ntmps8
    go_wp2_with fail
    refine (H1.out _).mono ?_
    rintro e w1 ⟨rfl, hf⟩
    have F1 := hid hf
    clear hf
    go_wp2_with fail
    refine (HA.out _).mono ?_
    rintro e w2 ⟨rfl, hf⟩
    have F2 := hid (F1.out.trans hf)
    clear hf F1
    go_wp2_with fail
    refine (HT.out _).mono ?_
    rintro e w3 ⟨rfl, hf⟩
    have F3 := hid (F2.out.trans hf)
    clear hf F2
    go_wp2_with fail
    refine (HZ.out _).mono ?_
    rintro e w4 ⟨rfl, hf⟩
    have F4 := hid (F3.out.trans hf)
    clear hf F3 H1 HA HT HZ
    go_wp2
    go_loopw [11, 12, 41] (fun al g i wr => ∃ j : Nat, j ≤ k ∧ i = .int .i64 j ∧ al = .complex .f64 (fb (a * j)) (fb (b * j)) ∧ g = .int .i64 0 ∧ Rt (a * j) (b * j) ∧ Fr (fun _ => False) w0 wr) (fun _ _ i _ => k - (intOf i).toNat)
    case atStart => exact ⟨0, by omega, rfl, by simp, rfl, by simp; decide, F4.out⟩
    case round =>
      obtain ⟨j, hj, rfl, rfl, rfl, hr, hf⟩ := hrel
      have F := hid hf
      clear hf F4
      by_cases hlt : j < k
      · have HR2 : Rt a b := HR.out
        have e1 : a * ((j + 1 : Nat) : Int) = a * j + a := by rw [Int.natCast_add, Int.mul_add]; simp
        have e2 : b * ((j + 1 : Nat) : Int) = b * j + b := by rw [Int.natCast_add, Int.mul_add]; simp
        by_cases hn : Rt (a * j + a) (b * j + b)
        · have HC := hid fun w => f_plus_yes hr HR2 hn w
          rw [HP1.out, HP2.out, ← e1, ← e2] at HC
          rw [← e1, ← e2] at hn
          have HN := hid hn
          clear hn hr e1 e2 HR2
          generalize fb (a * j) = x1 at *
          generalize fb (b * j) = x2 at *
          go_wp2_with fail
          refine (HC.out _).mono ?_
          rintro e w5 ⟨rfl, hf⟩
          have F5 := hid (F.out.trans hf)
          clear hf F HC
          go_wp2
          go_roundw
          case rel => exact ⟨j + 1, by omega, by go_num, rfl, rfl, HN.out, F5.out⟩
          case measure => simp [intOf]; omega
        · have HC := hid fun w => f_plus_no hr HR2 hn w
          rw [HP1.out, HP2.out] at HC
          have hw : ¬ Rt (a * k) (b * k) := by
            intro hk
            rw [← e1, ← e2] at hn
            have u1 := mul_up (a := a) HR2.1 (show j + 1 ≤ k by omega)
            have u2 := mul_up (a := b) HR2.2.2.1 (show j + 1 ≤ k by omega)
            have v1 : 0 ≤ a * ((j + 1 : Nat) : Int) := Int.mul_nonneg HR2.1 (by omega)
            have v2 : 0 ≤ b * ((j + 1 : Nat) : Int) := Int.mul_nonneg HR2.2.2.1 (by omega)
            exact hn ⟨v1, Int.le_trans u1 hk.2.1, v2, Int.le_trans u2 hk.2.2.2⟩
          have ht1 := HT1.out
          have ht2 := HT2.out
          have ht3 := HT3.out
          rw [(ok_wrong hw).1, fb_zero] at ht1
          rw [(ok_wrong hw).2.1, fb_zero] at ht2
          rw [(ok_wrong hw).2.2] at ht3
          subst ht1 ht2 ht3
          have oz := order_zero
          clear hw hn hr e1 e2 HR2 HT1 HT2 HT3
          generalize fb (a * j) = x1 at *
          generalize fb (b * j) = x2 at *
          go_wp2_with fail
          refine (HC.out _).mono ?_
          rintro e w5 ⟨rfl, hf⟩
          have F5 := hid (F.out.trans hf)
          clear hf F HC
          go_wp2
          go_ret
          exact ⟨by simp, F5.out⟩
      · obtain rfl : j = k := by omega
        have ht1 := HT1.out
        have ht2 := HT2.out
        have ht3 := HT3.out
        rw [(ok_right hr).1] at ht1
        rw [(ok_right hr).2.1] at ht2
        rw [(ok_right hr).2.2] at ht3
        obtain ⟨o1, o2⟩ := order_self hr
        rw [ht1] at o1
        rw [ht2] at o2
        rw [ht1, ht2]
        subst ht3
        clear ht1 ht2 HT1 HT2 HT3 hr hlt
        go_wp2
        go_ret
        exact ⟨by simp, F.out⟩
  · exact times_no a b n w0 h
end Go.Proofs.Ytcocdbekahokaaa
