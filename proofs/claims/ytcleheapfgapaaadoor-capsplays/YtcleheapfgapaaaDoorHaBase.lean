/-
  Keys and their bits: plain mathematics off the document. Nothing of the program is named here.
-/
import Derived.Test.YtcleheapfgapaaaDoorBase
namespace Go.Proofs.YtcleheapfgapaaaDoor

/-- A key that may be: tenant, slot, rights, serial. -/
abbrev KR (t s r n : Int) : Prop := (0 ≤ t ∧ t ≤ 7) ∧ (0 ≤ s ∧ s ≤ 4159) ∧ (1 ≤ r ∧ r ≤ 7) ∧ (1 ≤ n ∧ n ≤ 17592186044415)
/-- Its bits, and what Pack answers beside them. -/
def pkB (t s r n : Int) : Int := if KR t s r n then t + 16 * r + 128 * s + 1048576 * n else 0
def pkE (t s r n : Int) : Int := if KR t s r n then 0 else 12
/-- Are these bits some key's? -/
abbrev HB (h : Int) : Prop := KR (h % 16) (h / 128 % 8192) (h / 16 % 8) (h / 1048576)
def unT (h : Int) : Int := if HB h then h % 16 else 0
def unS (h : Int) : Int := if HB h then h / 128 % 8192 else 0
def unR (h : Int) : Int := if HB h then h / 16 % 8 else 0
def unN (h : Int) : Int := if HB h then h / 1048576 else 0
def unE (h : Int) : Int := if HB h then 0 else 5
section
variable {t s r n : Int}
theorem pkB_yes (h : KR t s r n) : pkB t s r n = t + 16 * r + 128 * s + 1048576 * n := if_pos h
theorem pkB_no (h : ¬ KR t s r n) : pkB t s r n = 0 := if_neg h
theorem pkE_yes (h : KR t s r n) : pkE t s r n = 0 := if_pos h
theorem pkE_no (h : ¬ KR t s r n) : pkE t s r n = 12 := if_neg h
theorem pkE_iff : pkE t s r n = 0 ↔ KR t s r n := by
  by_cases h : KR t s r n
  · exact ⟨fun _ => h, fun _ => pkE_yes h⟩
  · exact ⟨fun e => by rw [pkE_no h] at e; omega, fun e => (h e).elim⟩
theorem pkB_range (t s r n : Int) : 0 ≤ pkB t s r n ∧ pkB t s r n ≤ 18446744073709551615 := by
  by_cases h : KR t s r n
  · rw [pkB_yes h]; unfold KR at h; omega
  · rw [pkB_no h]; omega
/-- A key is found by its bits. -/
theorem back (h : KR t s r n) : HB (pkB t s r n) ∧ pkB t s r n % 16 = t ∧ pkB t s r n / 128 % 8192 = s ∧ pkB t s r n / 16 % 8 = r ∧ pkB t s r n / 1048576 = n := by
  rw [pkB_yes h]
  have h0 := h
  unfold KR at h
  have e1 : (t + 16 * r + 128 * s + 1048576 * n) % 16 = t := by omega
  have e2 : (t + 16 * r + 128 * s + 1048576 * n) / 128 % 8192 = s := by omega
  have e3 : (t + 16 * r + 128 * s + 1048576 * n) / 16 % 8 = r := by omega
  have e4 : (t + 16 * r + 128 * s + 1048576 * n) / 1048576 = n := by omega
  refine ⟨?_, e1, e2, e3, e4⟩
  unfold HB
  rw [e1, e2, e3, e4]
  exact h0
theorem back_un (h : KR t s r n) : unT (pkB t s r n) = t ∧ unS (pkB t s r n) = s ∧ unR (pkB t s r n) = r ∧ unN (pkB t s r n) = n ∧ unE (pkB t s r n) = 0 := by
  obtain ⟨h0, h1, h2, h3, h4⟩ := back h
  unfold unT unS unR unN unE
  rw [if_pos h0, if_pos h0, if_pos h0, if_pos h0, if_pos h0]
  exact ⟨h1, h2, h3, h4, rfl⟩
/-- Bits are those of the key that they are taken apart to. -/
theorem one {h : Int} (hb : HB h) : pkB (h % 16) (h / 128 % 8192) (h / 16 % 8) (h / 1048576) = h := by
  rw [pkB_yes hb]
  omega
theorem un_yes {h : Int} (hb : HB h) : unT h = h % 16 ∧ unS h = h / 128 % 8192 ∧ unR h = h / 16 % 8 ∧ unN h = h / 1048576 ∧ unE h = 0 := ⟨if_pos hb, if_pos hb, if_pos hb, if_pos hb, if_pos hb⟩
theorem un_no {h : Int} (hb : ¬ HB h) : unT h = 0 ∧ unS h = 0 ∧ unR h = 0 ∧ unN h = 0 ∧ unE h = 5 := ⟨if_neg hb, if_neg hb, if_neg hb, if_neg hb, if_neg hb⟩
/-- Unlike keys have unlike bits. -/
theorem alike {t' s' r' n' : Int} (h : KR t s r n) (h' : KR t' s' r' n') : pkB t s r n = pkB t' s' r' n' ↔ t = t' ∧ s = s' ∧ r = r' ∧ n = n' := by
  obtain ⟨_, a1, a2, a3, a4⟩ := back h
  obtain ⟨_, b1, b2, b3, b4⟩ := back h'
  constructor
  · intro e
    rw [e] at a1 a2 a3 a4
    exact ⟨a1.symm.trans b1, a2.symm.trans b2, a3.symm.trans b3, a4.symm.trans b4⟩
  · rintro ⟨rfl, rfl, rfl, rfl⟩; rfl
end
theorem xor_low {a b : Nat} (k : Nat) (h : a % 2 ^ k = b % 2 ^ k) : (a ^^^ b) % 2 ^ k = 0 := by
  rw [Nat.xor_mod_two_pow, h, Nat.xor_self]
theorem xor_high {a b : Nat} (k : Nat) (h : a / 2 ^ k = b / 2 ^ k) : (a ^^^ b) / 2 ^ k = 0 := by
  rw [← Nat.shiftRight_eq_div_pow, Nat.shiftRight_xor_distrib, Nat.shiftRight_eq_div_pow, Nat.shiftRight_eq_div_pow, h, Nat.xor_self]
end Go.Proofs.YtcleheapfgapaaaDoor
