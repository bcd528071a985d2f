/-
  The walk of the law ArenaApart.
-/
import Derived.Test.YtlikfcdlgkbnoaaSizes
namespace Go.Proofs.Ytlikfcdlgkbnoaa
open Go.RowKit

set_option maxHeartbeats 1000000 in
theorem apart_long (z x : Int) (s d : ByteArray) (w : World) (hs : s.size ≤ maxLen) (hd : d.size ≤ maxLen) (h : 4096 < s.size ∨ (s.size ≤ 4096 ∧ 4096 < d.size)) :
    Calls Try.prog 5 #[.int .i64 z, .string s, .string d, .int .i64 x] w fun e w' => e = .returned (.bool true) ∧ Fr (fun _ => False) w w' := by
  unfold maxLen at hs hd
  rcases h with h | ⟨h0, h⟩
  all_goals
    go_enter Try.func5, Try.ntmps5
    go_wp2_with fail
    refine (awake_any w).mono ?_
    rintro e w1 ⟨rfl, hf⟩
    have HF : Hid (Fr (fun _ => False) w w1) := hf
    clear hf
    go_wp2
    go_ret
    exact ⟨rfl, HF.out⟩

set_option maxHeartbeats 2000000 in
theorem apart_no (z x : Int) (s d : ByteArray) (w : World) (hx : x ≤ 9223372036854775807) (N : Nat) (hN : N < 2048) (hz : wrap64 ((IntKind.u64.wrap z).tmod 2048) = (N : Int)) (hs : s.size ≤ 4096) (hd : d.size ≤ 4096) (hin : inB x d.size N = false) :
    Calls Try.prog 5 #[.int .i64 z, .string s, .string d, .int .i64 x] w fun e w' => e = .returned (.bool true) ∧ Fr (fun _ => False) w w' := by
  have HZ : Hid (wrap64 ((IntKind.u64.wrap z).tmod 2048) = (N : Int)) := hz
  have HI : Hid (inB x d.size N = false) := hin
  have HC : Hid (x < 0 ∨ (0 ≤ x ∧ (N : Int) < x) ∨ (0 ≤ x ∧ x ≤ (N : Int) ∧ (N : Int) - x < (d.size : Int))) := by
    rw [inB_false] at hin
    show x < 0 ∨ (0 ≤ x ∧ (N : Int) < x) ∨ (0 ≤ x ∧ x ≤ (N : Int) ∧ (N : Int) - x < (d.size : Int))
    omega
  clear hz hin
  go_enter Try.func5, Try.ntmps5
  go_wp2_with fail
  rw [HZ.out]
  refine (m_new N w w (Fr.refl _ _) (by omega)).mono ?_
  rintro e w1 ⟨a, b, B, rfl, hm⟩
  have HM : Hid (Mine w w1 61 B a b (List.replicate N 0) []) := hm
  clear hm
  have HE : Hid ((s.extract 0 N).size ≤ N) := by
    show (s.extract 0 N).size ≤ N
    rw [ByteArray.size_extract]; omega
  go_wp2_with fail
  · generalize s.extract 0 N = t at *
    have ht : t.size ≤ N := HE.out
    refine (awake_any w1).mono ?_
    rintro e w2 ⟨rfl, hf⟩
    have HW : Hid (Calls Try.prog 19 #[.pointer (some ⟨a, 0, none⟩), .int .i64 0, .string t] w2 fun e w' => e = .returned (.int .i64 0) ∧ ∃ L : List UInt8, L.length = N ∧ ∃ ss : List Sp, ss.length ≤ 10 ∧ Mine w w' 61 B a b L ss) :=
      (m_write (HM.out.fr hf) 0 t (by simp; omega) (by simp)).mono fun e w' ⟨he, hm⟩ => ⟨he, _, by rw [over_length _ _ _ (by rw [len_list]; simp; omega)]; simp, _, by have := noted_le [] ((0 : Nat) : Int) t.size true; simp at this ⊢; omega, hm⟩
    clear hf HM HE
    go_wp2_with fail
    refine HW.out.mono ?_
    rintro e w3 ⟨rfl, L, hL, ss, hss, hm⟩
    have HL : Hid (L.length = N) := hL
    have HR : Hid (Calls Try.prog 16 #[.pointer (some ⟨a, 0, none⟩), .int .i64 0, .int .i64 N] w3 fun e w' => e = .returned (.tuple #[.string ⟨L.toArray⟩, .int .i64 0]) ∧ ∃ ss : List Sp, ss.length ≤ 11 ∧ Mine w w' 61 B a b L ss) := by
      have := m_read hm 0 N (by omega) (by omega)
      rw [List.drop_zero, List.take_of_length_le (by omega)] at this
      exact this.mono fun e w' ⟨he, hm⟩ => ⟨he, _, by have := noted_le ss ((0 : Nat) : Int) N false; omega, hm⟩
    clear hm HW hL hss
    go_wp2_with fail
    refine HR.out.mono ?_
    rintro e w4 ⟨rfl, ss, hss, hm⟩
    have HW : Hid (Calls Try.prog 19 #[.pointer (some ⟨a, 0, none⟩), .int .i64 x, .string d] w4 fun e w' => e = .returned (.int .i64 4) ∧ w' = w4) := m_write_no hm x d hx (by rw [HL.out]; exact HI.out)
    have HR2 : Hid (Calls Try.prog 16 #[.pointer (some ⟨a, 0, none⟩), .int .i64 0, .int .i64 N] w4 fun e w' => e = .returned (.tuple #[.string ⟨L.toArray⟩, .int .i64 0]) ∧ Fr (fun _ => False) w w') := by
      have := m_read hm 0 N (by rw [HL.out]; omega) (by omega)
      rw [List.drop_zero, List.take_of_length_le (by rw [HL.out]; exact Nat.le_refl _)] at this
      exact this.mono fun e w' ⟨he, hm⟩ => ⟨he, hm.frame⟩
    clear hm HR hss
    go_wp2_with fail
    refine HW.out.mono ?_
    rintro e w' ⟨rfl, hw⟩
    obtain rfl := hw.symm
    go_wp2_with fail
    refine HR2.out.mono ?_
    rintro e w5 ⟨rfl, hf⟩
    have HF : Hid (Fr (fun _ => False) w w5) := hf
    clear hf HR2 HW
    rcases HC.out with hc | ⟨hc0, hc⟩ | ⟨hc0, hc1, hc⟩
    all_goals
      go_wp2
      go_ret
      exact ⟨by simp, HF.out⟩
  · have ht : s.size ≤ N := by omega
    refine (awake_any w1).mono ?_
    rintro e w2 ⟨rfl, hf⟩
    have HW : Hid (Calls Try.prog 19 #[.pointer (some ⟨a, 0, none⟩), .int .i64 0, .string s] w2 fun e w' => e = .returned (.int .i64 0) ∧ ∃ L : List UInt8, L.length = N ∧ ∃ ss : List Sp, ss.length ≤ 10 ∧ Mine w w' 61 B a b L ss) :=
      (m_write (HM.out.fr hf) 0 s (by simp; omega) (by simp)).mono fun e w' ⟨he, hm⟩ => ⟨he, _, by rw [over_length _ _ _ (by rw [len_list]; simp; omega)]; simp, _, by have := noted_le [] ((0 : Nat) : Int) s.size true; simp at this ⊢; omega, hm⟩
    clear hf HM HE
    go_wp2_with fail
    refine HW.out.mono ?_
    rintro e w3 ⟨rfl, L, hL, ss, hss, hm⟩
    have HL : Hid (L.length = N) := hL
    have HR : Hid (Calls Try.prog 16 #[.pointer (some ⟨a, 0, none⟩), .int .i64 0, .int .i64 N] w3 fun e w' => e = .returned (.tuple #[.string ⟨L.toArray⟩, .int .i64 0]) ∧ ∃ ss : List Sp, ss.length ≤ 11 ∧ Mine w w' 61 B a b L ss) := by
      have := m_read hm 0 N (by omega) (by omega)
      rw [List.drop_zero, List.take_of_length_le (by omega)] at this
      exact this.mono fun e w' ⟨he, hm⟩ => ⟨he, _, by have := noted_le ss ((0 : Nat) : Int) N false; omega, hm⟩
    clear hm HW hL hss
    go_wp2_with fail
    refine HR.out.mono ?_
    rintro e w4 ⟨rfl, ss, hss, hm⟩
    have HW : Hid (Calls Try.prog 19 #[.pointer (some ⟨a, 0, none⟩), .int .i64 x, .string d] w4 fun e w' => e = .returned (.int .i64 4) ∧ w' = w4) := m_write_no hm x d hx (by rw [HL.out]; exact HI.out)
    have HR2 : Hid (Calls Try.prog 16 #[.pointer (some ⟨a, 0, none⟩), .int .i64 0, .int .i64 N] w4 fun e w' => e = .returned (.tuple #[.string ⟨L.toArray⟩, .int .i64 0]) ∧ Fr (fun _ => False) w w') := by
      have := m_read hm 0 N (by rw [HL.out]; omega) (by omega)
      rw [List.drop_zero, List.take_of_length_le (by rw [HL.out]; exact Nat.le_refl _)] at this
      exact this.mono fun e w' ⟨he, hm⟩ => ⟨he, hm.frame⟩
    clear hm HR hss
    go_wp2_with fail
    refine HW.out.mono ?_
    rintro e w' ⟨rfl, hw⟩
    obtain rfl := hw.symm
    go_wp2_with fail
    refine HR2.out.mono ?_
    rintro e w5 ⟨rfl, hf⟩
    have HF : Hid (Fr (fun _ => False) w w5) := hf
    clear hf HR2 HW
    rcases HC.out with hc | ⟨hc0, hc⟩ | ⟨hc0, hc1, hc⟩
    all_goals
      go_wp2
      go_ret
      exact ⟨by simp, HF.out⟩

theorem apart_text (L : List UInt8) (p : Nat) (d : ByteArray) :
    over L p d.data.toList = ((ByteArray.mk L.toArray).extract 0 p ++ d ++ (ByteArray.mk L.toArray).extract (p + d.size) (ByteArray.mk L.toArray).size).toList := by
  rw [app_list, app_list, ext_list, ext_list, ByteArray.toList_eq d]
  unfold over
  rw [len_list]
  have h : (ByteArray.mk L.toArray).size = L.length := rfl
  simp only [List.drop_zero, Nat.sub_zero, h]
  rw [List.take_of_length_le (l := List.drop (p + d.size) L) (by simp)]

set_option maxHeartbeats 2000000 in
theorem apart_ok (z : Int) (p : Nat) (s d : ByteArray) (w : World) (N : Nat) (hN : N < 2048) (hz : wrap64 ((IntKind.u64.wrap z).tmod 2048) = (N : Int)) (hs : s.size ≤ 4096) (hd : d.size ≤ 4096) (hin : p + d.size ≤ N) :
    Calls Try.prog 5 #[.int .i64 z, .string s, .string d, .int .i64 p] w fun e w' => e = .returned (.bool true) ∧ Fr (fun _ => False) w w' := by
  have HZ : Hid (wrap64 ((IntKind.u64.wrap z).tmod 2048) = (N : Int)) := hz
  clear hz
  go_enter Try.func5, Try.ntmps5
  go_wp2_with fail
  rw [HZ.out]
  refine (m_new N w w (Fr.refl _ _) (by omega)).mono ?_
  rintro e w1 ⟨a, b, B, rfl, hm⟩
  have HM : Hid (Mine w w1 61 B a b (List.replicate N 0) []) := hm
  clear hm
  have HE : Hid ((s.extract 0 N).size ≤ N) := by
    show (s.extract 0 N).size ≤ N
    rw [ByteArray.size_extract]; omega
  go_wp2_with fail
  · generalize s.extract 0 N = t at *
    have ht : t.size ≤ N := HE.out
    refine (awake_any w1).mono ?_
    rintro e w2 ⟨rfl, hf⟩
    have HW : Hid (Calls Try.prog 19 #[.pointer (some ⟨a, 0, none⟩), .int .i64 0, .string t] w2 fun e w' => e = .returned (.int .i64 0) ∧ ∃ L : List UInt8, L.length = N ∧ ∃ ss : List Sp, ss.length ≤ 10 ∧ Mine w w' 61 B a b L ss) :=
      (m_write (HM.out.fr hf) 0 t (by simp; omega) (by simp)).mono fun e w' ⟨he, hm⟩ => ⟨he, _, by rw [over_length _ _ _ (by rw [len_list]; simp; omega)]; simp, _, by have := noted_le [] ((0 : Nat) : Int) t.size true; simp at this ⊢; omega, hm⟩
    clear hf HM HE
    go_wp2_with fail
    refine HW.out.mono ?_
    rintro e w3 ⟨rfl, L, hL, ss, hss, hm⟩
    have HL : Hid (L.length = N) := hL
    have HR : Hid (Calls Try.prog 16 #[.pointer (some ⟨a, 0, none⟩), .int .i64 0, .int .i64 N] w3 fun e w' => e = .returned (.tuple #[.string ⟨L.toArray⟩, .int .i64 0]) ∧ ∃ ss : List Sp, ss.length ≤ 11 ∧ Mine w w' 61 B a b L ss) := by
      have := m_read hm 0 N (by omega) (by omega)
      rw [List.drop_zero, List.take_of_length_le (by omega)] at this
      exact this.mono fun e w' ⟨he, hm⟩ => ⟨he, _, by have := noted_le ss ((0 : Nat) : Int) N false; omega, hm⟩
    clear hm HW hL hss
    go_wp2_with fail
    refine HR.out.mono ?_
    rintro e w4 ⟨rfl, ss, hss, hm⟩
    have HW : Hid (Calls Try.prog 19 #[.pointer (some ⟨a, 0, none⟩), .int .i64 p, .string d] w4 fun e w' => e = .returned (.int .i64 0) ∧ ∃ ss : List Sp, ss.length ≤ 12 ∧ Mine w w' 61 B a b (over L p d.data.toList) ss) :=
      (m_write hm p d (by rw [HL.out]; exact hin) (by omega)).mono fun e w' ⟨he, hm⟩ => ⟨he, _, by have := noted_le ss p d.size true; omega, hm⟩
    clear hm HR hss
    go_wp2_with fail
    refine HW.out.mono ?_
    rintro e w5 ⟨rfl, ss, hss, hm⟩
    have HR2 : Hid (Calls Try.prog 16 #[.pointer (some ⟨a, 0, none⟩), .int .i64 0, .int .i64 N] w5 fun e w' => e = .returned (.tuple #[.string ⟨(over L p d.data.toList).toArray⟩, .int .i64 0]) ∧ Fr (fun _ => False) w w') := by
      have hol : (over L p d.data.toList).length = N := by rw [over_length _ _ _ (by rw [len_list, HL.out]; exact hin), HL.out]
      have := m_read hm 0 N (by omega) (by omega)
      rw [List.drop_zero, List.take_of_length_le (by omega)] at this
      exact this.mono fun e w' ⟨he, hm⟩ => ⟨he, hm.frame⟩
    clear hm HW hss
    have HT := apart_text L p d
    generalize over L p d.data.toList = nb at *
    go_wp2_with fail
    refine HR2.out.mono ?_
    rintro e w6 ⟨rfl, hf⟩
    have HF : Hid (Fr (fun _ => False) w w6) := hf
    have hls : (ByteArray.mk L.toArray).size = N := HL.out
    have HTT : Hid (nb = ((ByteArray.mk L.toArray).extract 0 p ++ d ++ (ByteArray.mk L.toArray).extract (p + d.size) (ByteArray.mk L.toArray).size).toList) := HT
    clear hf HR2 HT
    generalize ByteArray.mk L.toArray = was at *
    go_wp2
    go_region
    go_wp2
    go_ret
    have hE := HTT.out
    rw [hls] at hE
    exact ⟨by simp [hE], HF.out.drew⟩
  · have ht : s.size ≤ N := by omega
    refine (awake_any w1).mono ?_
    rintro e w2 ⟨rfl, hf⟩
    have HW : Hid (Calls Try.prog 19 #[.pointer (some ⟨a, 0, none⟩), .int .i64 0, .string s] w2 fun e w' => e = .returned (.int .i64 0) ∧ ∃ L : List UInt8, L.length = N ∧ ∃ ss : List Sp, ss.length ≤ 10 ∧ Mine w w' 61 B a b L ss) :=
      (m_write (HM.out.fr hf) 0 s (by simp; omega) (by simp)).mono fun e w' ⟨he, hm⟩ => ⟨he, _, by rw [over_length _ _ _ (by rw [len_list]; simp; omega)]; simp, _, by have := noted_le [] ((0 : Nat) : Int) s.size true; simp at this ⊢; omega, hm⟩
    clear hf HM HE
    go_wp2_with fail
    refine HW.out.mono ?_
    rintro e w3 ⟨rfl, L, hL, ss, hss, hm⟩
    have HL : Hid (L.length = N) := hL
    have HR : Hid (Calls Try.prog 16 #[.pointer (some ⟨a, 0, none⟩), .int .i64 0, .int .i64 N] w3 fun e w' => e = .returned (.tuple #[.string ⟨L.toArray⟩, .int .i64 0]) ∧ ∃ ss : List Sp, ss.length ≤ 11 ∧ Mine w w' 61 B a b L ss) := by
      have := m_read hm 0 N (by omega) (by omega)
      rw [List.drop_zero, List.take_of_length_le (by omega)] at this
      exact this.mono fun e w' ⟨he, hm⟩ => ⟨he, _, by have := noted_le ss ((0 : Nat) : Int) N false; omega, hm⟩
    clear hm HW hL hss
    go_wp2_with fail
    refine HR.out.mono ?_
    rintro e w4 ⟨rfl, ss, hss, hm⟩
    have HW : Hid (Calls Try.prog 19 #[.pointer (some ⟨a, 0, none⟩), .int .i64 p, .string d] w4 fun e w' => e = .returned (.int .i64 0) ∧ ∃ ss : List Sp, ss.length ≤ 12 ∧ Mine w w' 61 B a b (over L p d.data.toList) ss) :=
      (m_write hm p d (by rw [HL.out]; exact hin) (by omega)).mono fun e w' ⟨he, hm⟩ => ⟨he, _, by have := noted_le ss p d.size true; omega, hm⟩
    clear hm HR hss
    go_wp2_with fail
    refine HW.out.mono ?_
    rintro e w5 ⟨rfl, ss, hss, hm⟩
    have HR2 : Hid (Calls Try.prog 16 #[.pointer (some ⟨a, 0, none⟩), .int .i64 0, .int .i64 N] w5 fun e w' => e = .returned (.tuple #[.string ⟨(over L p d.data.toList).toArray⟩, .int .i64 0]) ∧ Fr (fun _ => False) w w') := by
      have hol : (over L p d.data.toList).length = N := by rw [over_length _ _ _ (by rw [len_list, HL.out]; exact hin), HL.out]
      have := m_read hm 0 N (by omega) (by omega)
      rw [List.drop_zero, List.take_of_length_le (by omega)] at this
      exact this.mono fun e w' ⟨he, hm⟩ => ⟨he, hm.frame⟩
    clear hm HW hss
    have HT := apart_text L p d
    generalize over L p d.data.toList = nb at *
    go_wp2_with fail
    refine HR2.out.mono ?_
    rintro e w6 ⟨rfl, hf⟩
    have HF : Hid (Fr (fun _ => False) w w6) := hf
    have hls : (ByteArray.mk L.toArray).size = N := HL.out
    have HTT : Hid (nb = ((ByteArray.mk L.toArray).extract 0 p ++ d ++ (ByteArray.mk L.toArray).extract (p + d.size) (ByteArray.mk L.toArray).size).toList) := HT
    clear hf HR2 HT
    generalize ByteArray.mk L.toArray = was at *
    go_wp2
    go_region
    go_wp2
    go_ret
    have hE := HTT.out
    rw [hls] at hE
    exact ⟨by simp [hE], HF.out.drew⟩

theorem apart_any (z x : Int) (s d : ByteArray) (w : World) (hs : s.size ≤ maxLen) (hd : d.size ≤ maxLen) (hx : x ≤ 9223372036854775807) :
    Calls Try.prog 5 #[.int .i64 z, .string s, .string d, .int .i64 x] w fun e w' => e = .returned (.bool true) ∧ Fr (fun _ => False) w w' := by
  by_cases h1 : s.size ≤ 4096
  · by_cases h2 : d.size ≤ 4096
    · obtain ⟨N, hN, hz⟩ := size_mod z 2048 (by omega) (by omega)
      by_cases hin : inB x d.size N = true
      · rw [inB_true] at hin
        obtain ⟨h3, _, h4⟩ := hin
        obtain ⟨p, rfl⟩ := Int.eq_ofNat_of_zero_le h3
        exact apart_ok z p s d w N (by omega) hz h1 h2 (by omega)
      · exact apart_no z x s d w hx N (by omega) hz h1 h2 (by simpa using hin)
    · exact apart_long z x s d w hs hd (.inr ⟨h1, by omega⟩)
  · exact apart_long z x s d w hs hd (.inl (by omega))
end Go.Proofs.Ytlikfcdlgkbnoaa
