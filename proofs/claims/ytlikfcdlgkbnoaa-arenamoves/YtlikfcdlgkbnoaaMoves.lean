/-
  For every string and every three numbers the law ArenaMoves answers true: what is copied within an arena is what was there ahead of the call, however the two places lie. No condition.
-/
import Derived.Test.YtlikfcdlgkbnoaaAwake
namespace Go.Proofs.Ytlikfcdlgkbnoaa
open Go.RowKit

theorem over_all (L : List UInt8) (n : Nat) (h : L.length = n) : over (List.replicate n 0) 0 L = L := by
  subst h; simp [over]

theorem moved_text (s : ByteArray) (p q m : Nat) (hq : q + m ≤ s.size) :
    over s.data.toList p ((s.data.toList.drop q).take m) = (s.extract 0 p ++ s.extract q (q + m) ++ s.extract (p + m) s.size).toList := by
  have hl := len_list s
  have hd : ((s.data.toList.drop q).take m).length = m := by simp; omega
  rw [app_list, app_list, ext_list, ext_list, ext_list]
  unfold over
  rw [hd, List.drop_zero, Nat.sub_zero, Nat.add_sub_cancel_left, List.take_of_length_le (l := List.drop (p + m) s.data.toList) (by simp)]

set_option maxHeartbeats 400000 in
theorem moves_long (s : ByteArray) (x y n : Int) (w : World) (h : ¬ s.size ≤ 2048) (hs : s.size ≤ maxLen) :
    Calls Try.prog 6 #[.string s, .int .i64 x, .int .i64 y, .int .i64 n] w fun e w' => e = .returned (.bool true) ∧ Fr (fun _ => False) w w' := by
  have HA : Hid (Calls Try.prog 9 #[] w fun e w' => e = .returned (.bool true) ∧ Fr (fun _ => False) w w') := awake_any w
  unfold maxLen at hs
  go_enter Try.func6, Try.ntmps6
  go_wp2_with fail
  refine HA.out.mono ?_
  rintro e w1 ⟨rfl, hf⟩
  have HF : Hid (Fr (fun _ => False) w w1) := hf
  clear hf
  go_wp2
  go_ret
  exact ⟨rfl, HF.out⟩

set_option maxHeartbeats 1000000 in
theorem moves_ok (s : ByteArray) (p q m : Nat) (w : World) (h : s.size ≤ 2048) (hp : p + m ≤ s.size) (hq : q + m ≤ s.size) :
    Calls Try.prog 6 #[.string s, .int .i64 p, .int .i64 q, .int .i64 m] w fun e w' => e = .returned (.bool true) ∧ Fr (fun _ => False) w w' := by
  have hL : s.data.toList.length = s.size := by rw [Array.length_toList]; rfl
  have HNew : Hid (Calls Try.prog 10 #[.int .i64 s.size] w fun e w' => ∃ a b B, e = .returned (.tuple #[.pointer (some ⟨a, 0, none⟩), .int .i64 0]) ∧ Mine w w' 61 B a b (List.replicate s.size 0) []) := m_new s.size w w (Fr.refl _ _) (by omega)
  have HL : Hid (s.data.toList.length = s.size) := hL
  clear hL
  go_enter Try.func6, Try.ntmps6
  go_wp2_with fail
  refine HNew.out.mono ?_
  rintro e w1 ⟨a, b, B, rfl, hm⟩
  have HM : Hid (Mine w w1 61 B a b (List.replicate s.size 0) []) := hm
  clear hm HNew
  go_wp2_with fail
  refine (awake_any w1).mono ?_
  rintro e w2 ⟨rfl, hf⟩
  have HW : Hid (Calls Try.prog 19 #[.pointer (some ⟨a, 0, none⟩), .int .i64 0, .string s] w2 fun e w' => e = .returned (.int .i64 0) ∧ Mine w w' 61 B a b s.data.toList (noted [] 0 s.size true)) := by
    have := m_write (HM.out.fr hf) 0 s (by simp) (by simp)
    rw [over_all _ _ HL.out] at this
    exact this
  clear hf HM
  go_wp2_with fail
  refine HW.out.mono ?_
  rintro e w3 ⟨rfl, hm⟩
  have HC : Hid (Calls Try.prog 20 #[.pointer (some ⟨a, 0, none⟩), .int .i64 p, .int .i64 q, .int .i64 m] w3 fun e w' => e = .returned (.int .i64 0) ∧
      Mine w w' 61 B a b (over s.data.toList p ((s.data.toList.drop q).take m)) (noted (noted (noted [] 0 s.size true) q m false) p m true)) :=
    m_copy hm p q m (by rw [HL.out]; exact hp) (by rw [HL.out]; exact hq) (by have := noted_le [] 0 s.size true; simp at this; omega)
  clear hm HW
  go_wp2_with fail
  refine HC.out.mono ?_
  rintro e w4 ⟨rfl, hm⟩
  have hbl : (over s.data.toList p ((s.data.toList.drop q).take m)).length = s.size := by
    rw [over_length _ _ _ (by simp [HL.out]; omega), HL.out]
  have HR : Hid (Calls Try.prog 16 #[.pointer (some ⟨a, 0, none⟩), .int .i64 0, .int .i64 s.size] w4 fun e w' => e = .returned (.tuple #[.string ⟨(over s.data.toList p ((s.data.toList.drop q).take m)).toArray⟩, .int .i64 0]) ∧ Fr (fun _ => False) w w') := by
    have h1 := noted_le [] 0 s.size true
    have h2 := noted_le (noted [] 0 s.size true) q m false
    have h3 := noted_le (noted (noted [] 0 s.size true) q m false) p m true
    have := m_read hm 0 s.size (by omega) (by simp at h1; omega)
    rw [List.drop_zero, List.take_of_length_le (by omega)] at this
    exact this.mono fun e w' ⟨he, hm⟩ => ⟨he, hm.frame⟩
  clear hm HC hbl
  go_wp2_with fail
  refine HR.out.mono ?_
  rintro e w5 ⟨rfl, hf⟩
  have HF : Hid (Fr (fun _ => False) w w5) := hf
  clear hf HR
  have HE : Hid ((over s.data.toList p ((s.data.toList.drop q).take m)) = (s.extract 0 p ++ s.extract q (q + m) ++ s.extract (p + m) s.size).toList) := moved_text s p q m hq
  generalize (over s.data.toList p ((s.data.toList.drop q).take m)) = nb at *
  go_wp2
  go_region
  go_wp2
  go_ret
  exact ⟨by simp [HE.out], HF.out.drew⟩

set_option maxHeartbeats 1000000 in
theorem moves_no (s : ByteArray) (x y n : Int) (w : World) (h : s.size ≤ 2048) (hx : x ≤ 9223372036854775807) (hy : y ≤ 9223372036854775807) (hin : (inB x n s.size && inB y n s.size) = false) :
    Calls Try.prog 6 #[.string s, .int .i64 x, .int .i64 y, .int .i64 n] w fun e w' => e = .returned (.bool true) ∧ Fr (fun _ => False) w w' := by
  have HI : Hid ((inB x n s.size && inB y n s.size) = false) := hin
  have HNew : Hid (Calls Try.prog 10 #[.int .i64 s.size] w fun e w' => ∃ a b B, e = .returned (.tuple #[.pointer (some ⟨a, 0, none⟩), .int .i64 0]) ∧ Mine w w' 61 B a b (List.replicate s.size 0) []) := m_new s.size w w (Fr.refl _ _) (by omega)
  have HL : Hid (s.data.toList.length = s.size) := len_list s
  clear hin
  go_enter Try.func6, Try.ntmps6
  go_wp2_with fail
  refine HNew.out.mono ?_
  rintro e w1 ⟨a, b, B, rfl, hm⟩
  have HM : Hid (Mine w w1 61 B a b (List.replicate s.size 0) []) := hm
  clear hm HNew
  go_wp2_with fail
  refine (awake_any w1).mono ?_
  rintro e w2 ⟨rfl, hf⟩
  have HW : Hid (Calls Try.prog 19 #[.pointer (some ⟨a, 0, none⟩), .int .i64 0, .string s] w2 fun e w' => e = .returned (.int .i64 0) ∧ Mine w w' 61 B a b s.data.toList (noted [] 0 s.size true)) := by
    have := m_write (HM.out.fr hf) 0 s (by simp) (by simp)
    rw [over_all _ _ HL.out] at this
    exact this
  clear hf HM
  go_wp2_with fail
  refine HW.out.mono ?_
  rintro e w3 ⟨rfl, hm⟩
  have HC : Hid (Calls Try.prog 20 #[.pointer (some ⟨a, 0, none⟩), .int .i64 x, .int .i64 y, .int .i64 n] w3 fun e w' => e = .returned (.int .i64 4) ∧ w' = w3) :=
    m_copy_no hm x y n hx hy (by rw [HL.out]; exact HI.out)
  have HR : Hid (Calls Try.prog 16 #[.pointer (some ⟨a, 0, none⟩), .int .i64 0, .int .i64 s.size] w3 fun e w' => e = .returned (.tuple #[.string ⟨s.data.toList.toArray⟩, .int .i64 0]) ∧ Fr (fun _ => False) w w') := by
    have h1 := noted_le [] 0 s.size true
    have := m_read hm 0 s.size (by have := HL.out; omega) (by simp at h1; omega)
    rw [List.drop_zero, List.take_of_length_le (by have := HL.out; omega)] at this
    exact this.mono fun e w' ⟨he, hm⟩ => ⟨he, hm.frame⟩
  clear hm HW
  go_wp2_with fail
  refine HC.out.mono ?_
  rintro e w' ⟨rfl, hw⟩
  obtain rfl := hw.symm
  go_wp2_with fail
  refine HR.out.mono ?_
  rintro e w5 ⟨rfl, hf⟩
  have HF : Hid (Fr (fun _ => False) w w5) := hf
  have HE : Hid (s.data.toList = s.toList) := (ByteArray.toList_eq s).symm
  clear hf HR HC
  generalize s.data.toList = nb at *
  go_wp2
  go_ret
  exact ⟨by simp [HE.out], HF.out⟩

theorem moves_any (s : ByteArray) (x y n : Int) (w : World) (hs : s.size ≤ maxLen) (hx : x ≤ 9223372036854775807) (hy : y ≤ 9223372036854775807) :
    Calls Try.prog 6 #[.string s, .int .i64 x, .int .i64 y, .int .i64 n] w fun e w' => e = .returned (.bool true) ∧ Fr (fun _ => False) w w' := by
  by_cases h : s.size ≤ 2048
  · by_cases hin : (inB x n s.size && inB y n s.size) = true
    · rw [Bool.and_eq_true, inB_true, inB_true] at hin
      obtain ⟨⟨h1, h2, h3⟩, h4, _, h5⟩ := hin
      obtain ⟨p, rfl⟩ := Int.eq_ofNat_of_zero_le h1
      obtain ⟨q, rfl⟩ := Int.eq_ofNat_of_zero_le h4
      obtain ⟨m, rfl⟩ := Int.eq_ofNat_of_zero_le h2
      exact moves_ok s p q m w h (by omega) (by omega)
    · exact moves_no s x y n w h hx hy (by simpa using hin)
  · exact moves_long s x y n w h hs
end Go.Proofs.Ytlikfcdlgkbnoaa
