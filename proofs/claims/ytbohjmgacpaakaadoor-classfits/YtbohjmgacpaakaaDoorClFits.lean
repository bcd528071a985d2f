/-
  What is charged has room for the bytes, is less than twice as much, or 16, and costs what it is charged; each block lies at a multiple of its alignment, and a page's blocks lie within it.
-/
import Derived.Test.YtbohjmgacpaakaaDoorClAwake
namespace Go.Proofs.YtbohjmgacpaakaaDoor
open Go.RowKit

theorem fits_none (n k : Int) (w0 : World) (hT : Tab w0) (hn : n < 1 ∨ 8192 < n) : Calls Tryd.prog 6 #[.int .i64 n, .int .i64 k] w0 fun e w' => e = .returned (.bool true) ∧ Fr (fun _ => False) w0 w' := by
  have HK0 := hid (K.start hT)
  clear hT
  have HA : Hid (∀ {w : World}, K w0 w → Calls Tryd.prog 9 #[] w fun e w' => e = .returned (.bool true) ∧ K w0 w') := fun h => awake_any h
  have H1 : Hid (∀ {w : World}, K w0 w → Calls Tryd.prog 12 #[.int .i64 n] w fun e w' => e = .returned (.int .i64 (chargeI n)) ∧ K w0 w') := fun h => k_charge n h
  rw [chargeI_none n hn] at H1
  by_cases h1 : n < 1
  · clear hn
    go_enter Tryd.func6, Tryd.ntmps6
    go_wp2_with fail
    refine (HA.out HK0.out).mono ?_
    rintro e w1 ⟨rfl, hk⟩
    have HK1 := hid hk
    clear hk HK0
    go_wp2_with fail
    refine (H1.out HK1.out).mono ?_
    rintro e w2 ⟨rfl, hk⟩
    have HK2 := hid hk
    clear hk HK1
    go_wp2
    go_ret
    exact ⟨by simp, HK2.out.fr⟩
  · have h2 : 8192 < n := by omega
    clear hn
    go_enter Tryd.func6, Tryd.ntmps6
    go_wp2_with fail
    refine (HA.out HK0.out).mono ?_
    rintro e w1 ⟨rfl, hk⟩
    have HK1 := hid hk
    clear hk HK0
    go_wp2_with fail
    refine (H1.out HK1.out).mono ?_
    rintro e w2 ⟨rfl, hk⟩
    have HK2 := hid hk
    clear hk HK1
    go_wp2
    go_ret
    exact ⟨by simp, HK2.out.fr⟩
set_option maxRecDepth 20000 in
theorem fits_run (n k c x al m : Int) (w0 : World) (HK0 : Hid (K w0 w0)) (h1 : ¬ n < 1) (h2 : ¬ 8192 < n) (hx : n ≤ x) (hxd : decide (x < n) = false) (hx2 : x ≤ 8192) (hl : x < 2 * n) (ha : 8 ≤ al) (had : decide (al < 8) = false) (hm : (x % al != 0) = false) (hc : 8 ≤ c) (hp : m * 512 = x)
    (HA : Hid (∀ {w : World}, K w0 w → Calls Tryd.prog 9 #[] w fun e w' => e = .returned (.bool true) ∧ K w0 w'))
    (H1 : Hid (∀ {w : World}, K w0 w → Calls Tryd.prog 10 #[.int .i64 n] w fun e w' => e = .returned (.int .i64 c) ∧ K w0 w'))
    (H2 : Hid (∀ {w : World}, K w0 w → Calls Tryd.prog 12 #[.int .i64 n] w fun e w' => e = .returned (.int .i64 x) ∧ K w0 w'))
    (H3 : Hid (∀ {w : World}, K w0 w → Calls Tryd.prog 12 #[.int .i64 x] w fun e w' => e = .returned (.int .i64 x) ∧ K w0 w'))
    (H4 : Hid (∀ {w : World}, K w0 w → Calls Tryd.prog 20 #[.int .i64 c] w fun e w' => e = .returned (.int .i64 al) ∧ K w0 w'))
    (H5 : Hid (∀ {w : World}, K w0 w → Calls Tryd.prog 16 #[.int .i64 c] w fun e w' => e = .returned (.int .i64 0) ∧ K w0 w'))
    (H6 : Hid (∀ {w : World}, K w0 w → Calls Tryd.prog 18 #[.int .i64 c] w fun e w' => e = .returned (.int .i64 m) ∧ K w0 w'))
    : Calls Tryd.prog 6 #[.int .i64 n, .int .i64 k] w0 fun e w' => e = .returned (.bool true) ∧ Fr (fun _ => False) w0 w' := by
  go_enter Tryd.func6, Tryd.ntmps6
  go_wp2_with fail
  refine (H1.out HK0.out).mono ?_
  rintro e w1 ⟨rfl, hk⟩
  have HK1 := hid hk
  clear hk HK0
  go_wp2_with fail
  refine (H2.out HK1.out).mono ?_
  rintro e w2 ⟨rfl, hk⟩
  have HK2 := hid hk
  clear hk HK1
  go_wp2_with fail
  refine (HA.out HK2.out).mono ?_
  rintro e w3 ⟨rfl, hk⟩
  have HK3 := hid hk
  clear hk HK2
  go_wp2_with fail
  refine (H3.out HK3.out).mono ?_
  rintro e w4 ⟨rfl, hk⟩
  have HK4 := hid hk
  clear hk HK3
  go_wp2_with fail
  refine (H4.out HK4.out).mono ?_
  rintro e w5 ⟨rfl, hk⟩
  have HK5 := hid hk
  clear hk HK4
  go_wp2_with fail
  refine (H4.out HK5.out).mono ?_
  rintro e w6 ⟨rfl, hk⟩
  have HK6 := hid hk
  clear hk HK5
  go_wp2_with fail
  refine (H5.out HK6.out).mono ?_
  rintro e w7 ⟨rfl, hk⟩
  have HK7 := hid hk
  clear hk HK6
  go_wp2_with fail
  refine (H6.out HK7.out).mono ?_
  rintro e w8 ⟨rfl, hk⟩
  have HK8 := hid hk
  clear hk HK7
  go_wp2
  go_ret
  exact ⟨by simp, HK8.out.fr⟩
set_option maxHeartbeats 1000000 in
set_option maxRecDepth 20000 in
theorem fits_small (n k c x al per q : Int) (w0 : World) (HK0 : Hid (K w0 w0)) (h1 : ¬ n < 1) (h2 : ¬ 8192 < n) (hx : n ≤ x) (hxd : decide (x < n) = false) (hx2 : x ≤ 8192) (hl : x < 2 * n ∨ x = 16) (ha : 8 ≤ al) (had : decide (al < 8) = false) (hm : (x % al != 0) = false) (hq : wrap64 ((IntKind.u64.wrap k).tmod per) = q) (hq0 : 0 ≤ q) (hp0 : 0 < per) (hp : per ≤ 32) (hqx : ((q * x) % al == 0) = true) (hqx0 : 0 ≤ q * x) (hqx1 : q * x + x ≤ 512) (hpx : 512 < (per + 1) * x) (hpx2 : (per + 1) * x ≤ 1000000)
    (HA : Hid (∀ {w : World}, K w0 w → Calls Tryd.prog 9 #[] w fun e w' => e = .returned (.bool true) ∧ K w0 w'))
    (H1 : Hid (∀ {w : World}, K w0 w → Calls Tryd.prog 10 #[.int .i64 n] w fun e w' => e = .returned (.int .i64 c) ∧ K w0 w'))
    (H2 : Hid (∀ {w : World}, K w0 w → Calls Tryd.prog 12 #[.int .i64 n] w fun e w' => e = .returned (.int .i64 x) ∧ K w0 w'))
    (H3 : Hid (∀ {w : World}, K w0 w → Calls Tryd.prog 12 #[.int .i64 x] w fun e w' => e = .returned (.int .i64 x) ∧ K w0 w'))
    (H4 : Hid (∀ {w : World}, K w0 w → Calls Tryd.prog 20 #[.int .i64 c] w fun e w' => e = .returned (.int .i64 al) ∧ K w0 w'))
    (H5 : Hid (∀ {w : World}, K w0 w → Calls Tryd.prog 16 #[.int .i64 c] w fun e w' => e = .returned (.int .i64 per) ∧ K w0 w'))
    : Calls Tryd.prog 6 #[.int .i64 n, .int .i64 k] w0 fun e w' => e = .returned (.bool true) ∧ Fr (fun _ => False) w0 w' := by
  have hper : (per == 0) = false := by simp; omega
  rcases hl with hl | hl
  · go_enter Tryd.func6, Tryd.ntmps6
    go_wp2_with fail
    refine (H1.out HK0.out).mono ?_
    rintro e w1 ⟨rfl, hk⟩
    have HK1 := hid hk
    clear hk HK0
    go_wp2_with fail
    refine (H2.out HK1.out).mono ?_
    rintro e w2 ⟨rfl, hk⟩
    have HK2 := hid hk
    clear hk HK1
    go_wp2_with fail
    refine (HA.out HK2.out).mono ?_
    rintro e w3 ⟨rfl, hk⟩
    have HK3 := hid hk
    clear hk HK2
    go_wp2_with fail
    refine (H3.out HK3.out).mono ?_
    rintro e w4 ⟨rfl, hk⟩
    have HK4 := hid hk
    clear hk HK3
    go_wp2_with fail
    refine (H4.out HK4.out).mono ?_
    rintro e w5 ⟨rfl, hk⟩
    have HK5 := hid hk
    clear hk HK4
    go_wp2_with fail
    refine (H4.out HK5.out).mono ?_
    rintro e w6 ⟨rfl, hk⟩
    have HK6 := hid hk
    clear hk HK5
    go_wp2_with fail
    refine (H5.out HK6.out).mono ?_
    rintro e w7 ⟨rfl, hk⟩
    have HK7 := hid hk
    clear hk HK6
    go_wp2_with fail
    refine (H4.out HK7.out).mono ?_
    rintro e w8 ⟨rfl, hk⟩
    have HK8 := hid hk
    clear hk HK7
    go_wp2
    go_ret
    exact ⟨by simp, HK8.out.fr⟩
  · subst hl
    by_cases hn2 : 16 < 2 * n
    · go_enter Tryd.func6, Tryd.ntmps6
      go_wp2_with fail
      refine (H1.out HK0.out).mono ?_
      rintro e w1 ⟨rfl, hk⟩
      have HK1 := hid hk
      clear hk HK0
      go_wp2_with fail
      refine (H2.out HK1.out).mono ?_
      rintro e w2 ⟨rfl, hk⟩
      have HK2 := hid hk
      clear hk HK1
      go_wp2_with fail
      refine (HA.out HK2.out).mono ?_
      rintro e w3 ⟨rfl, hk⟩
      have HK3 := hid hk
      clear hk HK2
      go_wp2_with fail
      refine (H3.out HK3.out).mono ?_
      rintro e w4 ⟨rfl, hk⟩
      have HK4 := hid hk
      clear hk HK3
      go_wp2_with fail
      refine (H4.out HK4.out).mono ?_
      rintro e w5 ⟨rfl, hk⟩
      have HK5 := hid hk
      clear hk HK4
      go_wp2_with fail
      refine (H4.out HK5.out).mono ?_
      rintro e w6 ⟨rfl, hk⟩
      have HK6 := hid hk
      clear hk HK5
      go_wp2_with fail
      refine (H5.out HK6.out).mono ?_
      rintro e w7 ⟨rfl, hk⟩
      have HK7 := hid hk
      clear hk HK6
      go_wp2_with fail
      refine (H4.out HK7.out).mono ?_
      rintro e w8 ⟨rfl, hk⟩
      have HK8 := hid hk
      clear hk HK7
      go_wp2
      go_ret
      exact ⟨by simp, HK8.out.fr⟩
    · go_enter Tryd.func6, Tryd.ntmps6
      go_wp2_with fail
      refine (H1.out HK0.out).mono ?_
      rintro e w1 ⟨rfl, hk⟩
      have HK1 := hid hk
      clear hk HK0
      go_wp2_with fail
      refine (H2.out HK1.out).mono ?_
      rintro e w2 ⟨rfl, hk⟩
      have HK2 := hid hk
      clear hk HK1
      go_wp2_with fail
      refine (HA.out HK2.out).mono ?_
      rintro e w3 ⟨rfl, hk⟩
      have HK3 := hid hk
      clear hk HK2
      go_wp2_with fail
      refine (H3.out HK3.out).mono ?_
      rintro e w4 ⟨rfl, hk⟩
      have HK4 := hid hk
      clear hk HK3
      go_wp2_with fail
      refine (H4.out HK4.out).mono ?_
      rintro e w5 ⟨rfl, hk⟩
      have HK5 := hid hk
      clear hk HK4
      go_wp2_with fail
      refine (H4.out HK5.out).mono ?_
      rintro e w6 ⟨rfl, hk⟩
      have HK6 := hid hk
      clear hk HK5
      go_wp2_with fail
      refine (H5.out HK6.out).mono ?_
      rintro e w7 ⟨rfl, hk⟩
      have HK7 := hid hk
      clear hk HK6
      go_wp2_with fail
      refine (H4.out HK7.out).mono ?_
      rintro e w8 ⟨rfl, hk⟩
      have HK8 := hid hk
      clear hk HK7
      go_wp2
      go_ret
      exact ⟨by simp, HK8.out.fr⟩
theorem perI_range (c : Int) : 0 ≤ perI c ∧ perI c ≤ 32 := by
  unfold perI; repeat' split
  all_goals omega
theorem fits_walk (n k : Int) (w0 : World) (hT : Tab w0) : Calls Tryd.prog 6 #[.int .i64 n, .int .i64 k] w0 fun e w' => e = .returned (.bool true) ∧ Fr (fun _ => False) w0 w' := by
  by_cases hn : n < 1 ∨ 8192 < n
  · exact fits_none n k w0 hT hn
  have h1 : 1 ≤ n := by omega
  have h2 : n ≤ 8192 := by omega
  obtain ⟨r1, r2⟩ := ofI_range n h1 h2
  have hx : n ≤ chargeI n := by rw [chargeI_some n h1 h2]; exact ofI_fits n h1 h2
  have hx2 : chargeI n ≤ 8192 := by rw [chargeI_some n h1 h2]; exact (unitI_range _ r1 r2).2
  have ht := chargeI_twice n h1 h2
  have hl := chargeI_less n h1 h2
  obtain ⟨ha, hm⟩ := alignI_divides (ofI n) r1 r2
  have H3 : ∀ {w : World}, K w0 w → Calls Tryd.prog 12 #[.int .i64 (chargeI n)] w fun e w' => e = .returned (.int .i64 (chargeI n)) ∧ K w0 w' := fun h => by
    have := k_charge (chargeI n) h
    rw [ht] at this
    exact this
  rw [← chargeI_some n h1 h2] at hm
  by_cases hp : perI (ofI n) = 0
  · have hc := (kind_zero _ r1 r2).1 hp
    have hu := pages_unit (ofI n) hc r2
    rw [← chargeI_some n h1 h2] at hu
    exact fits_run n k (ofI n) (chargeI n) (alignI (ofI n)) (pagesI (ofI n)) w0 (hid (K.start hT)) (by omega) (by omega) hx (by simpa using hx) hx2 (by omega) ha (by simpa using ha) (by simpa using hm) hc hu (hid fun h => awake_any h) (hid fun h => k_of n h) (hid fun h => k_charge n h) (hid fun h => H3 h) (hid fun h => k_align _ h) (hid fun h => by
      have := k_per (ofI n) h
      rw [hp] at this
      exact this) (hid fun h => k_pages _ h)
  · have hc : ofI n ≤ 7 := by
      rcases Int.lt_or_le (ofI n) 8 with h | h
      · omega
      · exact absurd ((kind_zero _ r1 r2).2 h) hp
    obtain ⟨p1, p2⟩ := perI_range (ofI n)
    obtain ⟨q, hq, hql⟩ := modu k (perI (ofI n)).toNat (perI (ofI n)) (by omega) (by omega) (by omega)
    obtain ⟨s1, s2, s3, s4⟩ := kind_small (ofI n) q r1 hc (by omega) (by omega)
    rw [← chargeI_some n h1 h2] at s1 s2 s3
    have hx512 : 0 ≤ (q : Int) * chargeI n := Int.mul_nonneg (by omega) (by omega)
    have hpx : (perI (ofI n) + 1) * chargeI n ≤ 33 * 8192 := Int.mul_le_mul (by omega) hx2 (by omega) (by omega)
    exact fits_small n k (ofI n) (chargeI n) (alignI (ofI n)) (perI (ofI n)) q w0 (hid (K.start hT)) (by omega) (by omega) hx (by simpa using hx) hx2 hl ha (by simpa using ha) (by simpa using hm) hq (by omega) s4 p2 (by simpa using s1) hx512 s2 s3 (by omega) (hid fun h => awake_any h) (hid fun h => k_of n h) (hid fun h => k_charge n h) (hid fun h => H3 h) (hid fun h => k_align _ h) (hid fun h => k_per _ h)
end Go.Proofs.YtbohjmgacpaakaaDoor
