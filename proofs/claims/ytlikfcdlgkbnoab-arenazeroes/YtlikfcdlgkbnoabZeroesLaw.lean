/-
  The walk of the law ArenaZeroes.
-/
import Derived.Test.YtlikfcdlgkbnoabSizes
namespace Go.Proofs.Ytlikfcdlgkbnoab
open Go.RowKit

theorem over_all (L : List UInt8) (n : Nat) (h : L.length = n) : over (List.replicate n 0) 0 L = L := by
  subst h; simp [over]
theorem zeroed_text (s : ByteArray) (p m : Nat) :
    over s.data.toList p (zs m) = (s.extract 0 p ++ ⟨(zs m).toArray⟩ ++ s.extract (p + m) s.size).toList := by
  have hl := len_list s
  rw [app_list, app_list, ext_list, ext_list, ByteArray.toList_mk]
  unfold over
  rw [zs_length, List.drop_zero, Nat.sub_zero, List.take_of_length_le (l := List.drop (p + m) s.data.toList) (by simp)]

set_option maxHeartbeats 400000 in
theorem zeroes_long (s : ByteArray) (x n : Int) (w : World) (h : ¬ s.size ≤ 2048) (hs : s.size ≤ maxLen) :
    Calls Try.prog 3 #[.string s, .int .i64 x, .int .i64 n] w fun e w' => e = .returned (.bool true) ∧ Fr (fun _ => False) w w' := by
  have HA : Hid (Calls Try.prog 4 #[] w fun e w' => e = .returned (.bool true) ∧ Fr (fun _ => False) w w') := awake_any w
  unfold maxLen at hs
  go_enter Try.func3, Try.ntmps3
  go_wp2_with fail
  refine HA.out.mono ?_
  rintro e w1 ⟨rfl, hf⟩
  have HF : Hid (Fr (fun _ => False) w w1) := hf
  clear hf
  go_wp2
  go_ret
  exact ⟨rfl, HF.out⟩

set_option maxHeartbeats 1000000 in
theorem zeroes_ok (s : ByteArray) (p m : Nat) (w : World) (h : s.size ≤ 2048) (hp : p + m ≤ s.size) :
    Calls Try.prog 3 #[.string s, .int .i64 p, .int .i64 m] w fun e w' => e = .returned (.bool true) ∧ Fr (fun _ => False) w w' := by
  have hL : s.data.toList.length = s.size := by rw [Array.length_toList]; rfl
  have HNew : Hid (Calls Try.prog 5 #[.int .i64 s.size] w fun e w' => ∃ a b B, e = .returned (.tuple #[.pointer (some ⟨a, 0, none⟩), .int .i64 0]) ∧ Mine w w' 41 B a b (List.replicate s.size 0) []) := m_new s.size w w (Fr.refl _ _) (by omega)
  have HL : Hid (s.data.toList.length = s.size) := hL
  clear hL
  go_enter Try.func3, Try.ntmps3
  go_wp2_with fail
  refine HNew.out.mono ?_
  rintro e w1 ⟨a, b, B, rfl, hm⟩
  have HM : Hid (Mine w w1 41 B a b (List.replicate s.size 0) []) := hm
  clear hm HNew
  go_wp2_with fail
  refine (awake_any w1).mono ?_
  rintro e w2 ⟨rfl, hf⟩
  have HW : Hid (Calls Try.prog 6 #[.pointer (some ⟨a, 0, none⟩), .int .i64 0, .string s] w2 fun e w' => e = .returned (.int .i64 0) ∧ Mine w w' 41 B a b s.data.toList (noted [] 0 s.size true)) := by
    have := m_write (HM.out.fr hf) 0 s (by simp) (by simp)
    rw [over_all _ _ HL.out] at this
    exact this
  clear hf HM
  go_wp2_with fail
  refine HW.out.mono ?_
  rintro e w3 ⟨rfl, hm⟩
  have HC : Hid (Calls Try.prog 7 #[.pointer (some ⟨a, 0, none⟩), .int .i64 p, .int .i64 m] w3 fun e w' => e = .returned (.int .i64 0) ∧
      Mine w w' 41 B a b (over s.data.toList p (zs m)) (noted (noted [] 0 s.size true) p m true)) :=
    m_zero hm p m (by rw [HL.out]; exact hp) (by have := noted_le [] 0 s.size true; simp at this; omega)
  clear hm HW
  go_wp2_with fail
  refine HC.out.mono ?_
  rintro e w4 ⟨rfl, hm⟩
  have hbl : (over s.data.toList p (zs m)).length = s.size := by
    rw [over_length _ _ _ (by rw [zs_length, HL.out]; exact hp), HL.out]
  have HR : Hid (Calls Try.prog 8 #[.pointer (some ⟨a, 0, none⟩), .int .i64 0, .int .i64 s.size] w4 fun e w' => e = .returned (.tuple #[.string ⟨(over s.data.toList p (zs m)).toArray⟩, .int .i64 0]) ∧ Fr (fun _ => False) w w') := by
    have h1 := noted_le [] 0 s.size true
    have h2 := noted_le (noted [] 0 s.size true) p m true
    have := m_read hm 0 s.size (by omega) (by simp at h1; omega)
    rw [List.drop_zero, List.take_of_length_le (by omega)] at this
    exact this.mono fun e w' ⟨he, hm⟩ => ⟨he, hm.frame⟩
  clear hm HC hbl
  go_wp2_with fail
  refine HR.out.mono ?_
  rintro e w5 ⟨rfl, hf⟩
  have HF : Hid (Fr (fun _ => False) w w5) := hf
  clear hf HR
  have HE : Hid (over s.data.toList p (zs m) = (s.extract 0 p ++ ⟨(zs m).toArray⟩ ++ s.extract (p + m) s.size).toList) := zeroed_text s p m
  have hmk := run_make_bytes w5.drew m (by omega)
  have hcv : (convert 31 9 (.slice (some ⟨w5.heap.size, 0, none⟩) m m)).run Try.prog (w5.alloc (.cells (bc (zs m)).toArray 5)).drew = .ok (.string ⟨(zs m).toArray⟩) (w5.alloc (.cells (bc (zs m)).toArray 5)).drew := run_made_text w5.drew m
  have hds : w5.drew.heap.size = w5.heap.size := rfl
  rw [hds] at hmk
  clear hds
  have hzl : (ByteArray.mk (zs m).toArray).size = m := zs_length m
  generalize over s.data.toList p (zs m) = nb at *
  go_wp2
  go_region
  go_wp2
  go_ret
  exact ⟨by simp [HE.out], (HF.out.alloc _).drew⟩

set_option maxHeartbeats 1000000 in
theorem zeroes_no (s : ByteArray) (x n : Int) (w : World) (h : s.size ≤ 2048) (hx : x ≤ 9223372036854775807) (hin : inB x n s.size = false) :
    Calls Try.prog 3 #[.string s, .int .i64 x, .int .i64 n] w fun e w' => e = .returned (.bool true) ∧ Fr (fun _ => False) w w' := by
  have HI : Hid (inB x n s.size = false) := hin
  have HNew : Hid (Calls Try.prog 5 #[.int .i64 s.size] w fun e w' => ∃ a b B, e = .returned (.tuple #[.pointer (some ⟨a, 0, none⟩), .int .i64 0]) ∧ Mine w w' 41 B a b (List.replicate s.size 0) []) := m_new s.size w w (Fr.refl _ _) (by omega)
  have HL : Hid (s.data.toList.length = s.size) := len_list s
  clear hin
  go_enter Try.func3, Try.ntmps3
  go_wp2_with fail
  refine HNew.out.mono ?_
  rintro e w1 ⟨a, b, B, rfl, hm⟩
  have HM : Hid (Mine w w1 41 B a b (List.replicate s.size 0) []) := hm
  clear hm HNew
  go_wp2_with fail
  refine (awake_any w1).mono ?_
  rintro e w2 ⟨rfl, hf⟩
  have HW : Hid (Calls Try.prog 6 #[.pointer (some ⟨a, 0, none⟩), .int .i64 0, .string s] w2 fun e w' => e = .returned (.int .i64 0) ∧ Mine w w' 41 B a b s.data.toList (noted [] 0 s.size true)) := by
    have := m_write (HM.out.fr hf) 0 s (by simp) (by simp)
    rw [over_all _ _ HL.out] at this
    exact this
  clear hf HM
  go_wp2_with fail
  refine HW.out.mono ?_
  rintro e w3 ⟨rfl, hm⟩
  have HC : Hid (Calls Try.prog 7 #[.pointer (some ⟨a, 0, none⟩), .int .i64 x, .int .i64 n] w3 fun e w' => e = .returned (.int .i64 4) ∧ w' = w3) :=
    m_zero_no hm x n hx (by rw [HL.out]; exact HI.out)
  have HR : Hid (Calls Try.prog 8 #[.pointer (some ⟨a, 0, none⟩), .int .i64 0, .int .i64 s.size] w3 fun e w' => e = .returned (.tuple #[.string ⟨s.data.toList.toArray⟩, .int .i64 0]) ∧ Fr (fun _ => False) w w') := by
    have h1 := noted_le [] 0 s.size true
    have := m_read hm 0 s.size (by have := HL.out; omega) (by simp at h1; omega)
    rw [List.drop_zero, List.take_of_length_le (by have := HL.out; omega)] at this
    exact this.mono fun e w' ⟨he, hm⟩ => ⟨he, hm.frame⟩
  clear hm HW
  go_wp2_with fail
  refine HC.out.mono ?_
  rintro e w' ⟨rfl, hw⟩
  obtain rfl := hw.symm
  go_wp2_with fail
  refine HR.out.mono ?_
  rintro e w5 ⟨rfl, hf⟩
  have HF : Hid (Fr (fun _ => False) w w5) := hf
  have HE : Hid (s.data.toList = s.toList) := (ByteArray.toList_eq s).symm
  clear hf HR HC
  generalize s.data.toList = nb at *
  have hE : (nb == s.toList) = true := by simp [HE.out]
  clear HE
  go_wp2
  go_ret
  exact ⟨by simp, HF.out⟩

theorem zeroes_any (s : ByteArray) (x n : Int) (w : World) (hs : s.size ≤ maxLen) (hx : x ≤ 9223372036854775807) :
    Calls Try.prog 3 #[.string s, .int .i64 x, .int .i64 n] w fun e w' => e = .returned (.bool true) ∧ Fr (fun _ => False) w w' := by
  by_cases h : s.size ≤ 2048
  · by_cases hin : inB x n s.size = true
    · rw [inB_true] at hin
      obtain ⟨h1, h2, h3⟩ := hin
      obtain ⟨p, rfl⟩ := Int.eq_ofNat_of_zero_le h1
      obtain ⟨m, rfl⟩ := Int.eq_ofNat_of_zero_le h2
      exact zeroes_ok s p m w h (by omega)
    · exact zeroes_no s x n w h hx (by simpa using hin)
  · exact zeroes_long s x n w h hs
end Go.Proofs.Ytlikfcdlgkbnoab
