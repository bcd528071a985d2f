/-
  Places as complex numbers: words that are whole numbers between two others. Plain mathematics: nothing of the program is named here.
-/
import Derived.Test.YtcajdbklchjkkaaSuTrunc
import Derived.Test.YtcajdbklchjkkaaPlBase
namespace Go.Proofs.Ytcajdbklchjkkaa
open Ieee

/-- At least; below. -/
def geB (x c : Nat) : Bool := FloatKind.f64.format.order x c == some .gt || FloatKind.f64.format.order x c == some .eq
def ltB (x c : Nat) : Bool := FloatKind.f64.format.order x c == some .lt
/-- Is it the word of a whole number from L up to (not with) T? -/
def whB (x : Nat) (L T : Int) : Bool := geB x (fb L) && ltB x (fb T) && (match floatToIntVal .f64 x .i64 with | some q => FloatKind.f64.format.order (fb q) x == some .eq | none => false)
/-- A word between two whole numbers, the lesser not below 0: its whole part lies between them, too. -/
theorem raw_mid (x : Nat) (L T : Int) (hL0 : 0 ≤ L) (hL : L < 9007199254740992) (hT0 : 0 ≤ T) (hT : T < 9007199254740992) (h1 : geB x (fb L) = true) (h2 : ltB x (fb T) = true) :
    ∃ q : Int, floatToIntVal .f64 x .i64 = some q ∧ L ≤ q ∧ q < T := by
  have i0 := Is.fb L (by omega)
  have iT := Is.fb T (by omega)
  have h1' : ((double.read x).order (double.read (fb L)) == some .gt || (double.read x).order (double.read (fb L)) == some .eq) = true := h1
  have h2' : ((double.read x).order (double.read (fb T)) == some .lt) = true := h2
  clear h1 h2
  unfold floatToIntVal
  show ∃ q : Int, (match (double.read x).toInt .zero with | some n => if IntKind.i64.min ≤ n ∧ n ≤ IntKind.i64.max then some n else none | none => none) = some q ∧ _
  generalize double.read x = d at *
  cases d with
  | infinity s =>
    obtain ⟨s', m', i', K', e', _⟩ := i0
    obtain ⟨s2, m2, i2, K2, e2, _⟩ := iT
    rw [e'] at h1'; rw [e2] at h2'
    cases s <;> simp [Datum.order] at h1' h2'
  | nan s f => simp [Datum.order] at h1'
  | number s m i =>
    have hK : 0 ≤ i + ((-i).toNat : Int) := by omega
    rw [order_val hK i0] at h1'
    rw [order_val hK iT] at h2'
    simp only [Option.some_beq_some] at h1' h2'
    rw [cmp_ge, decide_eq_true_eq] at h1'
    have h2' : signed s m (i + ((-i).toNat : Int)).toNat < T * 2 ^ (-i).toNat := by
      have := eq_of_beq h2'
      rw [Int.compare_eq_lt] at this
      exact this
    rw [show (i + ((-i).toNat : Int)).toNat = i.toNat by omega] at h1' h2'
    rw [toInt_number]
    generalize (-i).toNat = K at *
    have e1 : IntKind.i64.min = -9223372036854775808 := by decide +kernel
    have e2 : IntKind.i64.max = 9223372036854775807 := by decide +kernel
    have eL : (L * 2 ^ K) = ((L.toNat * 2 ^ K : Nat) : Int) := by
      rw [Int.natCast_mul, Int.natCast_pow, show ((L.toNat : Nat) : Int) = L by omega]; rfl
    have eT : (T * 2 ^ K) = ((T.toNat * 2 ^ K : Nat) : Int) := by
      rw [Int.natCast_mul, Int.natCast_pow, show ((T.toNat : Nat) : Int) = T by omega]; rfl
    rw [eL] at h1'
    rw [eT] at h2'
    have hq : L ≤ signed s (m * 2 ^ i.toNat / 2 ^ K) 0 ∧ signed s (m * 2 ^ i.toNat / 2 ^ K) 0 < T := by
      unfold signed at h1' h2' ⊢
      rw [Nat.shiftLeft_eq] at h1' h2'
      rw [Nat.shiftLeft_zero]
      cases s
      · rw [if_neg (by decide)] at h1' h2' ⊢
        have a1 : L.toNat ≤ m * 2 ^ i.toNat / 2 ^ K := (Nat.le_div_iff_mul_le (Nat.two_pow_pos K)).2 (by omega)
        have a2 : m * 2 ^ i.toNat / 2 ^ K < T.toNat := (Nat.div_lt_iff_lt_mul (Nat.two_pow_pos K)).2 (by omega)
        generalize m * 2 ^ i.toNat / 2 ^ K = z at *
        omega
      · rw [if_pos rfl] at h1' h2' ⊢
        have hz : m * 2 ^ i.toNat = 0 := by omega
        rw [hz] at h2' ⊢
        have hLz : L.toNat * 2 ^ K = 0 := by omega
        have hL2 : L.toNat = 0 := by
          rcases Nat.mul_eq_zero.1 hLz with e | e
          · exact e
          · have := Nat.two_pow_pos K; omega
        have hT2 : T.toNat ≠ 0 := fun e => by rw [e, Nat.zero_mul] at h2'; omega
        rw [Nat.zero_div]
        omega
    generalize signed s (m * 2 ^ i.toNat / 2 ^ K) 0 = q at *
    refine ⟨q, ?_, hq.1, hq.2⟩
    simp only [e1, e2]
    rw [if_pos (by omega)]
theorem whB_parts {x : Nat} {L T : Int} (hL0 : 0 ≤ L) (hL : L < 9007199254740992) (hT0 : 0 ≤ T) (hT : T < 9007199254740992) (h : whB x L T = true) : ∃ q : Int, floatToIntVal .f64 x .i64 = some q ∧ (L ≤ q ∧ q < T) ∧ (FloatKind.f64.format.order (fb q) x == some .eq) = true ∧ geB x (fb L) = true ∧ ltB x (fb T) = true := by
  unfold whB at h
  rw [Bool.and_eq_true, Bool.and_eq_true] at h
  obtain ⟨⟨h1, h2⟩, h3⟩ := h
  obtain ⟨q, hq, hb⟩ := raw_mid x L T hL0 hL hT0 hT h1 h2
  rw [hq] at h3
  exact ⟨q, hq, hb, h3, h1, h2⟩
theorem fb256 : (4643211215818981376 : Nat) = fb 256 := by decide +kernel
theorem fb6400 : (4663758889118859264 : Nat) = fb 6400 := by decide +kernel
theorem fb512 : (4647714815446351872 : Nat) = fb 512 := by decide +kernel
end Go.Proofs.Ytcajdbklchjkkaa
