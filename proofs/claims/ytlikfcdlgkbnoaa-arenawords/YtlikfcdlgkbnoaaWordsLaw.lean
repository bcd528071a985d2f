/-
  The walk of the law ArenaWords.
-/
import Derived.Test.YtlikfcdlgkbnoaaSizes
namespace Go.Proofs.Ytlikfcdlgkbnoaa
open Go.RowKit

theorem word_back (l : List UInt8) (p u : Nat) (h : p + 8 ≤ l.length) (hu : u < 18446744073709551616) : word (((over l p (leb u 8)).drop p).take 8) = u := by
  have e : ((over l p (leb u 8)).drop p).take 8 = leb u 8 := by
    have h1 : (l.take p).length = p := by simp; omega
    unfold over
    rw [List.append_assoc, List.drop_append_of_le_length (by omega), List.drop_of_length_le (by omega), List.nil_append, List.take_append_of_le_length (by rw [leb_length]; exact Nat.le_refl _), List.take_of_length_le (by rw [leb_length]; exact Nat.le_refl _)]
  rw [e, word_leb]
  exact Nat.mod_eq_of_lt hu
theorem over_before (N p : Nat) (d : List UInt8) (h : p ≤ N) : ((over (List.replicate N 0) p d).drop 0).take p = zs p := by
  unfold over
  rw [List.drop_zero, List.append_assoc, List.take_append_of_le_length (by simp; omega), List.take_take]
  simp [List.take_replicate, zs]; omega
theorem over_behind (N p r u : Nat) (h : N = p + 8 + r) : ((over (List.replicate N 0) p (leb u 8)).drop (p + 8)).take r = zs r := by
  subst h
  have h1 : ((List.replicate (p + 8 + r) (0 : UInt8)).take p ++ leb u 8).length = p + 8 := by simp [leb_length]; omega
  unfold over
  rw [leb_length, List.drop_append_of_le_length (by omega), List.drop_of_length_le (by omega), List.nil_append]
  simp [List.drop_replicate, zs]

set_option maxHeartbeats 1000000 in
theorem words_no (z x : Int) (u : Nat) (w : World) (hx : x ≤ 9223372036854775807) (N : Nat) (hN : N < 4096) (hz : wrap64 ((IntKind.u64.wrap z).tmod 4096) = (N : Int)) (hin : inB x 8 N = false) :
    Calls Try.prog 4 #[.int .i64 z, .int .i64 x, .int .u64 u] w fun e w' => e = .returned (.bool true) ∧ Fr (fun _ => False) w w' := by
  have HZ : Hid (wrap64 ((IntKind.u64.wrap z).tmod 4096) = (N : Int)) := hz
  have HI : Hid (inB x 8 N = false) := hin
  have HC : Hid (x < 0 ∨ (0 ≤ x ∧ (N : Int) - 8 < x)) := by
    rw [inB_false] at hin
    show x < 0 ∨ (0 ≤ x ∧ (N : Int) - 8 < x)
    omega
  clear hz hin
  go_enter Try.func4, Try.ntmps4
  go_wp2_with fail
  rw [HZ.out]
  refine (m_new N w w (Fr.refl _ _) (by omega)).mono ?_
  rintro e w1 ⟨a, b, B, rfl, hm⟩
  have HM : Hid (Mine w w1 61 B a b (List.replicate N 0) []) := hm
  clear hm
  go_wp2_with fail
  refine (awake_any w1).mono ?_
  rintro e w2 ⟨rfl, hf⟩
  have hm := HM.out.fr hf
  have HS : Hid (Calls Try.prog 17 #[.pointer (some ⟨a, 0, none⟩), .int .i64 x, .int .u64 u] w2 fun e w' => e = .returned (.int .i64 4) ∧ w' = w2) := m_store_no hm x u hx (by rw [List.length_replicate]; exact HI.out)
  have HL : Hid (Calls Try.prog 18 #[.pointer (some ⟨a, 0, none⟩), .int .i64 x] w2 fun e w' => e = .returned (.tuple #[.int .u64 0, .int .i64 4]) ∧ w' = w2) := m_load_no hm x hx (by rw [List.length_replicate]; exact HI.out)
  have HR : Hid (Calls Try.prog 16 #[.pointer (some ⟨a, 0, none⟩), .int .i64 0, .int .i64 N] w2 fun e w' => e = .returned (.tuple #[.string ⟨(zs N).toArray⟩, .int .i64 0]) ∧ Fr (fun _ => False) w w') := by
    have := m_read hm 0 N (by simp) (by simp)
    rw [List.drop_zero, List.take_of_length_le (by simp)] at this
    exact this.mono fun e w' ⟨he, hm⟩ => ⟨he, hm.frame⟩
  clear hm hf HM
  go_wp2_with fail
  refine HS.out.mono ?_
  rintro e w' ⟨rfl, hw⟩
  obtain rfl := hw.symm
  go_wp2_with fail
  refine HL.out.mono ?_
  rintro e w' ⟨rfl, hw⟩
  obtain rfl := hw.symm
  clear HS HL
  rcases HC.out with hc | ⟨hc0, hc⟩
  all_goals
    go_wp2_with fail
    refine HR.out.mono ?_
    rintro e w5 ⟨rfl, hf⟩
    have HF : Hid (Fr (fun _ => False) w w5) := hf
    have hmk := run_make_bytes w5 N (by omega)
    have hcv := run_made_text w5 N
    clear hf HR
    go_wp2
    go_ret
    exact ⟨by simp, HF.out.alloc _⟩

set_option maxHeartbeats 1000000 in
theorem words_ok (z : Int) (p r : Nat) (u : Nat) (w : World) (hu : u < 18446744073709551616) (hN : p + 8 + r < 4096) (hz : wrap64 ((IntKind.u64.wrap z).tmod 4096) = ((p + 8 + r : Nat) : Int)) :
    Calls Try.prog 4 #[.int .i64 z, .int .i64 p, .int .u64 u] w fun e w' => e = .returned (.bool true) ∧ Fr (fun _ => False) w w' := by
  obtain ⟨N, hNe⟩ : ∃ N, N = p + 8 + r := ⟨_, rfl⟩
  rw [← hNe] at hz hN
  have HZ : Hid (wrap64 ((IntKind.u64.wrap z).tmod 4096) = (N : Int)) := hz
  have HNe : Hid (N = p + 8 + r) := hNe
  have hpN : p + 8 ≤ N := by omega
  have hpi : (p : Int) ≤ (N : Int) - 8 := by omega
  have hpd : decide ((p : Int) ≤ (N : Int) - 8) = true := by simpa using hpi
  have hsub : (N : Int) - (p : Int) - 8 = (r : Int) := by omega
  have HSub : Hid ((N : Int) - (p : Int) - 8 = (r : Int)) := hsub
  clear hz hNe hsub
  go_enter Try.func4, Try.ntmps4
  go_wp2_with fail
  rw [HZ.out]
  refine (m_new N w w (Fr.refl _ _) (by omega)).mono ?_
  rintro e w1 ⟨a, b, B, rfl, hm⟩
  have HM : Hid (Mine w w1 61 B a b (List.replicate N 0) []) := hm
  clear hm
  go_wp2_with fail
  refine (awake_any w1).mono ?_
  rintro e w2 ⟨rfl, hf⟩
  have hm := HM.out.fr hf
  have HS : Hid (Calls Try.prog 17 #[.pointer (some ⟨a, 0, none⟩), .int .i64 p, .int .u64 u] w2 fun e w' => e = .returned (.int .i64 0) ∧ Mine w w' 61 B a b (over (List.replicate N 0) p (leb u 8)) [((p : Int), (8 : Int), true)]) := m_store hm p u hu (by simp; omega) (by simp)
  clear hm hf HM
  go_wp2_with fail
  refine HS.out.mono ?_
  rintro e w3 ⟨rfl, hm⟩
  have HL : Hid (Calls Try.prog 18 #[.pointer (some ⟨a, 0, none⟩), .int .i64 p] w3 fun e w' => e = .returned (.tuple #[.int .u64 u, .int .i64 0]) ∧ Mine w w' 61 B a b (over (List.replicate N 0) p (leb u 8)) [((p : Int), (8 : Int), true), ((p : Int), (8 : Int), false)]) := by
    have := m_load hm p (by rw [over_length _ _ _ (by simp [leb_length]; omega)]; simp; omega) (by simp)
    rw [word_back _ _ _ (by simp; omega) hu] at this
    exact this
  clear hm HS
  go_wp2_with fail
  refine HL.out.mono ?_
  rintro e w4 ⟨rfl, hm⟩
  have HR1 : Hid (Calls Try.prog 16 #[.pointer (some ⟨a, 0, none⟩), .int .i64 0, .int .i64 p] w4 fun e w' => e = .returned (.tuple #[.string ⟨(zs p).toArray⟩, .int .i64 0]) ∧ ∃ ss : List Sp, ss.length ≤ 100 ∧ Mine w w' 61 B a b (over (List.replicate N 0) p (leb u 8)) ss) := by
    have := m_read hm 0 p (by rw [over_length _ _ _ (by simp [leb_length]; omega)]; simp; omega) (by simp)
    rw [over_before _ _ _ (by omega)] at this
    exact this.mono fun e w' ⟨he, hm⟩ => ⟨he, _, by have := noted_le [((p : Int), (8 : Int), true), ((p : Int), (8 : Int), false)] ((0 : Nat) : Int) p false; simp at this ⊢; omega, hm⟩
  clear hm HL
  go_wp2_with fail
  refine HR1.out.mono ?_
  rintro e w5 ⟨rfl, ss, hss, hm⟩
  have HR2 : Hid (Calls Try.prog 16 #[.pointer (some ⟨a, 0, none⟩), .int .i64 (p + 8), .int .i64 r] w5 fun e w' => e = .returned (.tuple #[.string ⟨(zs r).toArray⟩, .int .i64 0]) ∧ Fr (fun _ => False) w w') := by
    have := m_read hm (p + 8) r (by rw [over_length _ _ _ (by simp [leb_length]; omega)]; simp; have := HNe.out; omega) (by omega)
    rw [over_behind _ _ _ _ HNe.out] at this
    exact this.mono fun e w' ⟨he, hm⟩ => ⟨he, hm.frame⟩
  clear hm HR1
  go_wp2_with fail
  rw [HSub.out]
  refine HR2.out.mono ?_
  rintro e w6 ⟨rfl, hf⟩
  have HF : Hid (Fr (fun _ => False) w w6) := hf
  have hmk1 := run_make_bytes w6 p (by omega)
  have hcv1 := run_made_text w6 p
  have hsz2 : ∀ o, (w6.alloc o).heap.size = w6.heap.size + 1 := fun o => by simp
  have hmk2 := run_make_bytes (w6.alloc (.cells (bc (zs p)).toArray 5)) r (by have := HNe.out; omega)
  have hcv2 := run_made_text (w6.alloc (.cells (bc (zs p)).toArray 5)) r
  rw [hsz2] at hmk2 hcv2
  rw [← HSub.out] at hmk2
  clear hf HR2 hsz2
  go_wp2
  go_ret
  exact ⟨by simp, (HF.out.alloc _).alloc _⟩

theorem words_any (z x u : Int) (w : World) (hx : x ≤ 9223372036854775807) (hu0 : 0 ≤ u) (hu : u ≤ 18446744073709551615) :
    Calls Try.prog 4 #[.int .i64 z, .int .i64 x, .int .u64 u] w fun e w' => e = .returned (.bool true) ∧ Fr (fun _ => False) w w' := by
  obtain ⟨un, rfl⟩ := Int.eq_ofNat_of_zero_le hu0
  obtain ⟨N, hN, hz⟩ := size_mod z 4096 (by omega) (by omega)
  by_cases hin : inB x 8 N = true
  · rw [inB_true] at hin
    obtain ⟨h1, _, h3⟩ := hin
    obtain ⟨p, rfl⟩ := Int.eq_ofNat_of_zero_le h1
    obtain ⟨r, rfl⟩ : ∃ r, N = p + 8 + r := ⟨N - (p + 8), by omega⟩
    exact words_ok z p r un w (by omega) (by omega) hz
  · exact words_no z x un w hx N (by omega) hz (by simpa using hin)
end Go.Proofs.Ytlikfcdlgkbnoaa
