/-
  What math.Trunc gives of a word between 0 and a whole number; words of whole numbers, however great; products. Plain mathematics: nothing of the program is named here.
-/
import Derived.Test.YtcajdbklchjkkaaSuTot
namespace Go.Proofs.Ytcajdbklchjkkaa
open Ieee

/-- Of two data it is told in either order whether they are the same. -/
theorem order_eq_comm (a b : Datum) : (a.order b == some .eq) = (b.order a == some .eq) := by
  cases a with
  | infinity s => cases b with
    | infinity t => cases s <;> cases t <;> rfl
    | nan t f => rfl
    | number t n j => cases s <;> rfl
  | nan s f => cases b <;> rfl
  | number s m i => cases b with
    | infinity t => cases t <;> rfl
    | nan t f => rfl
    | number t n j =>
      unfold Datum.order
      simp only [Option.some_beq_some]
      rw [cmp_eq, cmp_eq, Int.min_comm]
      exact decide_eq_decide.2 ⟨Eq.symm, Eq.symm⟩
/-- A word between two whole numbers, the lesser 0: it is no NaN; made whole towards nothing it is itself just if it is the word of its whole part. -/
theorem trunc_in (x : Nat) (T : Int) (hT0 : 0 ≤ T) (hT : T < 9007199254740992)
    (h1 : (FloatKind.f64.format.order x (fb 0) == some .gt || FloatKind.f64.format.order x (fb 0) == some .eq) = true)
    (h2 : (FloatKind.f64.format.order x (fb T) == some .lt || FloatKind.f64.format.order x (fb T) == some .eq) = true) :
    ∃ (q : Int) (s : Bool) (m : Nat) (i : Int), floatToIntVal .f64 x .i64 = some q ∧ 0 ≤ q ∧ q ≤ T ∧ FloatKind.f64.decode x = .number s m i ∧
      (FloatKind.f64.format.order x (FloatKind.f64.encode ((Datum.number s m i).integral .zero)) == some .eq) = (FloatKind.f64.format.order (fb q) x == some .eq) := by
  obtain ⟨q, hq, q0, q1⟩ := raw_in x T hT0 hT h1 h2
  refine ⟨q, ?_⟩
  have i0 := Is.fb 0 (by decide)
  have h1' : ((double.read x).order (double.read (fb 0)) == some .gt || (double.read x).order (double.read (fb 0)) == some .eq) = true := h1
  have iT := Is.fb T (by omega)
  have h2' : ((double.read x).order (double.read (fb T)) == some .lt || (double.read x).order (double.read (fb T)) == some .eq) = true := h2
  clear h1 h2
  have hq' : (match (double.read x).toInt .zero with | some n => if IntKind.i64.min ≤ n ∧ n ≤ IntKind.i64.max then some n else none | none => none) = some q := hq
  have e1 : IntKind.i64.min = -9223372036854775808 := by decide +kernel
  have e2 : IntKind.i64.max = 9223372036854775807 := by decide +kernel
  show ∃ (s : Bool) (m : Nat) (i : Int), floatToIntVal .f64 x .i64 = some q ∧ 0 ≤ q ∧ q ≤ T ∧ double.read x = .number s m i ∧ ((double.read x).order (double.read (double.write ((Datum.number s m i).integral .zero))) == some .eq) = ((double.read (fb q)).order (double.read x) == some .eq)
  generalize double.read x = d at *
  cases d with
  | infinity s =>
    obtain ⟨s', m', i', K', e', _⟩ := i0
    obtain ⟨s2, m2, i2, K2, e2, _⟩ := iT
    rw [e'] at h1'; rw [e2] at h2'
    cases s <;> simp [Datum.order] at h1' h2'
  | nan s f => simp [Datum.order] at h1'
  | number s m i =>
    refine ⟨s, m, i, hq, q0, q1, rfl, ?_⟩
    have hK : 0 ≤ i + ((-i).toNat : Int) := by omega
    rw [order_val hK i0] at h1'
    simp only [Option.some_beq_some] at h1'
    rw [cmp_ge, decide_eq_true_eq, Int.zero_mul] at h1'
    rw [toInt_number] at hq'
    simp only [e1, e2] at hq'
    split at hq'
    · have hq2 : signed s (m * 2 ^ i.toNat / 2 ^ (-i).toNat) 0 = q := by simpa using hq'
      have ei : (Datum.number s m i).integral .zero = .number s (m * 2 ^ i.toNat / 2 ^ (-i).toNat) 0 := by
        unfold Datum.integral
        simp only [cut_zero, Nat.shiftLeft_eq]
      rw [ei]
      cases s
      · have his : Is (.number false (m * 2 ^ i.toNat / 2 ^ (-i).toNat) 0) q := by
          refine ⟨_, _, _, 0, rfl, by omega, ?_, fun _ => rfl⟩
          rw [← hq2]
          simp
        rw [his.write]
        exact order_eq_comm _ _
      · have hm : m = 0 := by
          have := (signed_sign true m (i + ((-i).toNat : Int)).toNat).2.1 rfl
          exact (signed_sign true m (i + ((-i).toNat : Int)).toNat).2.2 (by omega)
        subst hm
        have hq0 : q = 0 := by
          rw [← hq2, Nat.zero_mul, Nat.zero_div]; rfl
        subst hq0
        rw [Nat.zero_mul, Nat.zero_div]
        have ew : double.read (double.write (.number true 0 0)) = .number true 0 (-1074) := by decide +kernel
        rw [ew, order_eq_comm (double.read (fb 0)), order_val hK i0]
        unfold Datum.order signed
        simp
    · cases hq'

/-- A great number's word stands high. -/
theorem nearest_great (s : Bool) (m : Nat) (h0 : 9007199254740992 ≤ m) : ∃ r, double.nearest s m 0 = double.word s r ∧ 4845873199050653696 ≤ r ∧ r ≤ 9218868437227405312 := by
  have hl : 53 ≤ m.log2 := (Nat.le_log2 (by omega)).2 (by rw [show (2 : Nat) ^ 53 = 9007199254740992 by decide]; exact h0)
  have hlo := Nat.log2_self_le (n := m) (by omega)
  have e2 : double.binade = 4503599627370496 := by decide +kernel
  have e3 : double.infRung = 9218868437227405312 := by decide +kernel
  have e4 : double.leastPlace = -1074 := by decide +kernel
  have e5 : double.fractionBits = 52 := rfl
  have hkept : 4503599627370496 ≤ Toward.even.cut s (m <<< 0) (m.log2 - 52) := by
    unfold Toward.cut
    rw [Nat.shiftLeft_zero, Nat.min_eq_left (by omega)]
    simp only [Nat.shiftLeft_eq, Nat.one_mul]
    have hp : 2 ^ (m.log2 - 52) * 2 ^ 52 = 2 ^ m.log2 := by rw [← Nat.pow_add, show m.log2 - 52 + 52 = m.log2 by omega]
    have e : (2 : Nat) ^ 52 = 4503599627370496 := by decide
    have l1 : 4503599627370496 ≤ m / 2 ^ (m.log2 - 52) := by
      rw [Nat.le_div_iff_mul_le (Nat.two_pow_pos _), Nat.mul_comm, ← e, hp]; exact hlo
    exact Nat.le_trans l1 (Nat.le_add_right _ _)
  unfold Format.nearest
  rw [if_neg (by omega)]
  simp only [e2, e3, e4, e5]
  have hlast : max (0 + (m.log2 : Int) - ((52 : Nat) : Int)) (-1074) = (m.log2 : Int) - 52 := by omega
  rw [hlast, show (0 - ((m.log2 : Int) - 52)).toNat = 0 by omega, show ((m.log2 : Int) - 52 - 0).toNat = m.log2 - 52 by omega, show ((m.log2 : Int) - 52 - -1074).toNat = m.log2 + 1022 by omega]
  refine ⟨_, rfl, ?_, Nat.min_le_right _ _⟩
  generalize Toward.even.cut s (m <<< 0) (m.log2 - 52) = z at *
  generalize m.log2 = l at *
  omega
theorem read_inf (s : Bool) : double.read (double.word s 9218868437227405312) = .infinity s := by cases s <;> decide +kernel
/-- A great number's word is no part. -/
theorem rawB_great (s : Bool) (r : Nat) (h0 : 4845873199050653696 ≤ r) (h1 : r ≤ 9218868437227405312) : rawB (double.word s r) = false := by
  obtain ⟨t0, m0, i0, K0, e0, a0, b0, c0⟩ := (Is.fb 0 (by decide)).scale
  obtain ⟨t1, m1, i1, K1, e1, a1, b1, c1⟩ := (Is.fb 1099511627776 (by decide)).scale
  have i0' := Is.fb 0 (by decide)
  have i1' := Is.fb 1099511627776 (by decide)
  have key : ((double.read (double.word s r)).order (double.read (fb 0)) == some .gt || (double.read (double.word s r)).order (double.read (fb 0)) == some .eq) = false ∨ ((double.read (double.word s r)).order (double.read (fb 1099511627776)) == some .lt || (double.read (double.word s r)).order (double.read (fb 1099511627776)) == some .eq) = false := by
    by_cases hr : r < 9218868437227405312
    · rw [read_word s r (by omega) hr]
      have hK : (0 : Int) ≤ -1074 + ((r / 4503599627370496 - 1 : Nat) : Int) + ((0 : Nat) : Int) := by omega
      rw [order_val hK i0', order_val hK i1']
      simp only [Option.some_beq_some]
      rw [cmp_ge, cmp_le]
      obtain ⟨k, hk⟩ : ∃ k, (-1074 + ((r / 4503599627370496 - 1 : Nat) : Int) + ((0 : Nat) : Int)).toNat = k := ⟨_, rfl⟩
      rw [hk]
      have hp := Nat.two_pow_pos k
      cases s
      · right
        unfold signed
        rw [if_neg (by decide), Nat.shiftLeft_eq]
        have : 4503599627370496 ≤ (4503599627370496 + r % 4503599627370496) * 2 ^ k := Nat.le_trans (Nat.le_add_right _ _) (Nat.le_mul_of_pos_right _ hp)
        generalize (4503599627370496 + r % 4503599627370496) * 2 ^ k = v at *
        simp
        omega
      · left
        unfold signed
        rw [if_pos rfl, Nat.shiftLeft_eq]
        have : 4503599627370496 ≤ (4503599627370496 + r % 4503599627370496) * 2 ^ k := Nat.le_trans (Nat.le_add_right _ _) (Nat.le_mul_of_pos_right _ hp)
        generalize (4503599627370496 + r % 4503599627370496) * 2 ^ k = v at *
        simp
        omega
    · obtain rfl : r = 9218868437227405312 := by omega
      rw [read_inf, e0, e1]
      cases s
      · right; rfl
      · left; rfl
  unfold rawB
  show (((double.read (double.word s r)).order (double.read (fb 0)) == some .gt || (double.read (double.word s r)).order (double.read (fb 0)) == some .eq) && ((double.read (double.word s r)).order (double.read (fb 1099511627776)) == some .lt || (double.read (double.word s r)).order (double.read (fb 1099511627776)) == some .eq) && _) = false
  rcases key with k | k <;> rw [k] <;> simp
/-- Of any whole number, however great: its word is a part just if the number is one. -/
theorem rawB_fb (n : Int) : rawB (fb n) = decide (0 ≤ n ∧ n ≤ 1099511627776) := by
  by_cases h : n.natAbs < 9007199254740992
  · exact rawB_wh (Wh.of n h)
  · obtain ⟨r, e, r1, r2⟩ := nearest_great (decide (n < 0)) n.natAbs (by omega)
    rw [fb_eq, e, rawB_great _ _ r1 r2]
    symm
    rw [decide_eq_false_iff_not]
    omega
/-- So many times a right sum, as complex numbers. -/
theorem cmul_fb {a b n : Int} (h : Rt a b) (k : 0 ≤ n ∧ n ≤ 1099511627776) : ∃ p q : Int, cMulBits (fb a) (fb b) (fb n) (fb 0) = some (fb p, fb q) ∧
    decide (0 ≤ p ∧ p ≤ 1099511627776) = decide (0 ≤ a * n ∧ a * n ≤ 1099511627776) ∧ decide (0 ≤ q ∧ q ≤ 1099511627776) = decide (0 ≤ b * n ∧ b * n ≤ 1099511627776) ∧ (Rt (a * n) (b * n) → p = a * n ∧ q = b * n) := by
  have wn := Wh.of n (by omega)
  have w0 := Wh.of 0 (by decide)
  have wa := h.wa
  have wb := h.wb
  have bd : ∀ z : Int, 0 ≤ z → z ≤ 1099511627776 → 0 ≤ z * n ∧ z * n < 2 ^ 200 := fun z z0 z1 => by
    refine ⟨Int.mul_nonneg z0 k.1, ?_⟩
    have := Int.mul_le_mul z1 k.2 k.1 (by decide)
    have e : (1099511627776 * 1099511627776 : Int) < 2 ^ 200 := by decide +kernel
    omega
  unfold Rt at h
  obtain ⟨a0, a1⟩ := bd a h.1 h.2.1
  obtain ⟨b0, b1⟩ := bd b h.2.2.1 h.2.2.2
  obtain ⟨A, hA, A1, A2, A3, A4⟩ := Wh.any (a * n) a0 a1
  obtain ⟨B, hB, B1, B2, B3, B4⟩ := Wh.any (b * n) b0 b1
  refine ⟨A, B, ?_, ?_, ?_, ?_⟩
  · unfold cMulBits
    rw [wa.mul wn h.1 k.1, wb.mul w0 h.2.2.1 (by decide), Option.bind_some, Option.bind_some, Int.mul_zero, hA.sub w0, Option.bind_some, wa.mul w0 h.1 (by decide), Option.bind_some, wb.mul wn h.2.2.1 k.1, Option.bind_some, Int.mul_zero, w0.add hB, Option.bind_some, Int.sub_zero, Int.zero_add]
  · by_cases c : a * n < 9007199254740992
    · rw [A1 c]
    · have := A2 (by omega)
      rw [decide_eq_false (by omega), decide_eq_false (by omega)]
  · by_cases c : b * n < 9007199254740992
    · rw [B1 c]
    · have := B2 (by omega)
      rw [decide_eq_false (by omega), decide_eq_false (by omega)]
  · intro r
    unfold Rt at r
    exact ⟨A1 (by omega), B1 (by omega)⟩
end Go.Proofs.Ytcajdbklchjkkaa
