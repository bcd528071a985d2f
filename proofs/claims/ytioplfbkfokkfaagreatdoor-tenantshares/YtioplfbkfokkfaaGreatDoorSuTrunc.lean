/-
  What the calls of package caps do: Copy.
  What the calls of package caps do: Count, Serial, and all of a table that is none.
  Sums as the document has them: pairs of whole numbers. Nothing of the program is named here.
  A quota as three pairs of numbers, and what each call answers and leaves: plain mathematics off the document. Nothing of the program is named here.
  What all of some sums come to, in whatever order: plain mathematics. Nothing of the program is named here.
  What math.Trunc gives of a word between 0 and a whole number; words of whole numbers, however great; products. Plain mathematics: nothing of the program is named here.
-/
import Derived.Test.YtioplfbkfokkfaaGreatDoorKaNew
import Derived.Great.Walk
import Derived.Test.YtioplfbkfokkfaaGreatDoorSeen
import Derived.Test.YtioplfbkfokkfaaGreatDoorSuBase
namespace Go.Proofs.YtioplfbkfokkfaaGreatDoor.Ka
open Go.RowKit

section
variable {w : World} {a o ob s sb : Nat} {c : Ct}
end
end Go.Proofs.YtioplfbkfokkfaaGreatDoor.Ka

namespace Go.Proofs.YtioplfbkfokkfaaGreatDoor.Ka
open Go.RowKit

section
variable {w : World} {a o ob s sb : Nat} {c : Ct}
set_option maxRecDepth 20000 in
theorem k_serial (h : Kt w a o ob s sb c) : Calls Tryz.prog 35 #[.pointer (some ⟨a, 0, none⟩)] w fun e w' => e = .returned (.int .i64 c.nx) ∧ Fr (fun _ => False) w w' := by
  have c1 := h.c1
  clear h
  go_enter Tryz.func35, Tryz.ntmps35
  go_wp2
  go_ret
  exact ⟨by simp, Fr.refl _ _⟩
end
end Go.Proofs.YtioplfbkfokkfaaGreatDoor.Ka

namespace Go.Proofs.YtioplfbkfokkfaaGreatDoor
open Go.RowKit

/-- Both parts are right. -/
abbrev Rt (a b : Int) : Prop := 0 ≤ a ∧ a ≤ 1099511627776 ∧ 0 ≤ b ∧ b ≤ 1099511627776
/-- The parts and the error that come out, if a and b were to. -/
def okA (a b : Int) : Int := if Rt a b then a else 0
def okB (a b : Int) : Int := if Rt a b then b else 0
def okE (a b : Int) : Int := if Rt a b then 0 else 12
theorem ok_right {a b : Int} (h : Rt a b) : okA a b = a ∧ okB a b = b ∧ okE a b = 0 := by simp [okA, okB, okE, h]
theorem ok_wrong {a b : Int} (h : ¬ Rt a b) : okA a b = 0 ∧ okB a b = 0 ∧ okE a b = 12 := by simp [okA, okB, okE, h]
theorem fb_top : (4787326403894837248 : Nat) = fb 1099511627776 := by decide +kernel

/-- Is a word's part one? As the law asks it. -/
def rawB (x : Nat) : Bool :=
  (FloatKind.f64.format.order x (fb 0) == some .gt || FloatKind.f64.format.order x (fb 0) == some .eq) && (FloatKind.f64.format.order x (fb 1099511627776) == some .lt || FloatKind.f64.format.order x (fb 1099511627776) == some .eq) && (match floatToIntVal .f64 x .i64 with | some q => FloatKind.f64.format.order (fb q) x == some .eq | none => false)

/-- In block B lie the numbers a and b, laid as a T. -/
structure Pr (T : TypeId) (w : World) (B : Nat) (a b : Int) : Prop where
  heap : w.heap[B]? = some (.cells #[.int .i64 a, .int .i64 b] T (0, 0))
section
variable {T : TypeId} {w w' : World} {B : Nat} {a b : Int}
end
end Go.Proofs.YtioplfbkfokkfaaGreatDoor

namespace Go.Proofs.YtioplfbkfokkfaaGreatDoor.Qt

/-- Limit, charged, reserved: bytes and pages of each. -/
structure QS where
  lb : Int
  lp : Int
  cb : Int
  cp : Int
  rb : Int
  rp : Int
/-- Nothing is below 0, and charged and reserved together fit the limit. -/
structure QS.Ok (s : QS) : Prop where
  lim : Rt s.lb s.lp
  cb0 : 0 ≤ s.cb
  cp0 : 0 ≤ s.cp
  rb0 : 0 ≤ s.rb
  rp0 : 0 ≤ s.rp
  fb1 : s.cb + s.rb ≤ s.lb
  fp1 : s.cp + s.rp ≤ s.lp
abbrev QS.Room (s : QS) (a b : Int) : Prop := s.cb + s.rb + a ≤ s.lb ∧ s.cp + s.rp + b ≤ s.lp
abbrev QS.Had (s : QS) (a b : Int) : Prop := a ≤ s.rb ∧ b ≤ s.rp
abbrev QS.Paid (s : QS) (a b : Int) : Prop := a ≤ s.cb ∧ b ≤ s.cp
def resE (s : QS) (a b : Int) : Int := if s.Room a b then 0 else 3
def resS (s : QS) (a b : Int) : QS := if s.Room a b then ⟨s.lb, s.lp, s.cb, s.cp, s.rb + a, s.rp + b⟩ else s
def comE (s : QS) (a b : Int) : Int := if s.Had a b then 0 else 12
def comS (s : QS) (a b : Int) : QS := if s.Had a b then ⟨s.lb, s.lp, s.cb + a, s.cp + b, s.rb - a, s.rp - b⟩ else s
def canE (s : QS) (a b : Int) : Int := if s.Had a b then 0 else 12
def canS (s : QS) (a b : Int) : QS := if s.Had a b then ⟨s.lb, s.lp, s.cb, s.cp, s.rb - a, s.rp - b⟩ else s
def refE (s : QS) (a b : Int) : Int := if s.Paid a b then 0 else 12
def refS (s : QS) (a b : Int) : QS := if s.Paid a b then ⟨s.lb, s.lp, s.cb - a, s.cp - b, s.rb, s.rp⟩ else s
/-- A new one, and the document's empty one. -/
def newQ (a b : Int) : QS := ⟨a, b, 0, 0, 0, 0⟩
theorem newQ_ok {a b : Int} (h : Rt a b) : (newQ a b).Ok := ⟨h, Int.le_refl _, Int.le_refl _, Int.le_refl _, Int.le_refl _, by simp only [newQ]; unfold Rt at h; omega, by simp only [newQ]; unfold Rt at h; omega⟩
section
variable {s : QS} {a b : Int}
theorem QS.Ok.char (h : s.Ok) : Rt s.cb s.cp := by obtain ⟨h1, h2, h3, h4, h5, h6, h7⟩ := h; unfold Rt at *; omega
theorem QS.Ok.rsv (h : s.Ok) : Rt s.rb s.rp := by obtain ⟨h1, h2, h3, h4, h5, h6, h7⟩ := h; unfold Rt at *; omega
theorem resS_ok (h : s.Ok) (r : Rt a b) : (resS s a b).Ok := by
  unfold resS; split
  · rename_i g; obtain ⟨h1, h2, h3, h4, h5, h6, h7⟩ := h; unfold Rt at *; exact ⟨h1, h2, h3, by simp only; omega, by simp only; omega, by simp only; omega, by simp only; omega⟩
  · exact h
theorem comS_ok (h : s.Ok) (r : Rt a b) : (comS s a b).Ok := by
  unfold comS; split
  · rename_i g; obtain ⟨h1, h2, h3, h4, h5, h6, h7⟩ := h; unfold Rt at *; exact ⟨h1, by simp only; omega, by simp only; omega, by simp only; omega, by simp only; omega, by simp only; omega, by simp only; omega⟩
  · exact h
theorem canS_ok (h : s.Ok) (r : Rt a b) : (canS s a b).Ok := by
  unfold canS; split
  · rename_i g; obtain ⟨h1, h2, h3, h4, h5, h6, h7⟩ := h; unfold Rt at *; exact ⟨h1, h2, h3, by simp only; omega, by simp only; omega, by simp only; omega, by simp only; omega⟩
  · exact h
theorem refS_ok (h : s.Ok) (r : Rt a b) : (refS s a b).Ok := by
  unfold refS; split
  · rename_i g; obtain ⟨h1, h2, h3, h4, h5, h6, h7⟩ := h; unfold Rt at *; exact ⟨h1, by simp only; omega, by simp only; omega, h4, h5, by simp only; omega, by simp only; omega⟩
  · exact h
end
end Go.Proofs.YtioplfbkfokkfaaGreatDoor.Qt

namespace Go.Proofs.YtioplfbkfokkfaaGreatDoor


/-- A word that reads as a whole number is a part just if the number is one. -/
theorem rawB_wh {x : Nat} {n : Int} (h : Wh x n) : rawB x = decide (0 ≤ n ∧ n ≤ 1099511627776) := by
  have e0 := h.order (Wh.of 0 (by decide))
  have e1 := h.order (Wh.of 1099511627776 (by decide))
  have g := cmp_ge n 0
  have l := cmp_le n 1099511627776
  unfold rawB
  rw [e0, e1]
  simp only [Option.some_beq_some]
  rw [g, l]
  by_cases h0 : 0 ≤ n
  · by_cases h1 : n ≤ 1099511627776
    · have e2 := (Wh.of n (by omega)).order h
      have e3 : compare n n = Ordering.eq := by simp
      rw [h.int (by omega) (by omega)]
      simp only [e2, e3]
      simp [h0, h1]
    · simp [h1]
  · simp [h0]
end Go.Proofs.YtioplfbkfokkfaaGreatDoor

namespace Go.Proofs.YtioplfbkfokkfaaGreatDoor
open Ieee

/-- Of two data it is told in either order whether they are the same. -/
theorem order_eq_comm (a b : Datum) : (a.order b == some .eq) = (b.order a == some .eq) := by
  cases a with
  | infinity s => cases b with
    | infinity t => cases s <;> cases t <;> rfl
    | nan t f => rfl
    | number t n j => cases s <;> rfl
  | nan s f => cases b <;> rfl
  | number s m i => cases b with
    | infinity t => cases t <;> rfl
    | nan t f => rfl
    | number t n j =>
      unfold Datum.order
      simp only [Option.some_beq_some]
      rw [cmp_eq, cmp_eq, Int.min_comm]
      exact decide_eq_decide.2 ⟨Eq.symm, Eq.symm⟩
/-- A word between two whole numbers, the lesser 0: it is no NaN; made whole towards nothing it is itself just if it is the word of its whole part. -/
theorem trunc_in (x : Nat) (T : Int) (hT0 : 0 ≤ T) (hT : T < 9007199254740992)
    (h1 : (FloatKind.f64.format.order x (fb 0) == some .gt || FloatKind.f64.format.order x (fb 0) == some .eq) = true)
    (h2 : (FloatKind.f64.format.order x (fb T) == some .lt || FloatKind.f64.format.order x (fb T) == some .eq) = true) :
    ∃ (q : Int) (s : Bool) (m : Nat) (i : Int), floatToIntVal .f64 x .i64 = some q ∧ 0 ≤ q ∧ q ≤ T ∧ FloatKind.f64.decode x = .number s m i ∧
      (FloatKind.f64.format.order x (FloatKind.f64.encode ((Datum.number s m i).integral .zero)) == some .eq) = (FloatKind.f64.format.order (fb q) x == some .eq) := by
  obtain ⟨q, hq, q0, q1⟩ := raw_in x T hT0 hT h1 h2
  refine ⟨q, ?_⟩
  have i0 := Is.fb 0 (by decide)
  have h1' : ((double.read x).order (double.read (fb 0)) == some .gt || (double.read x).order (double.read (fb 0)) == some .eq) = true := h1
  have iT := Is.fb T (by omega)
  have h2' : ((double.read x).order (double.read (fb T)) == some .lt || (double.read x).order (double.read (fb T)) == some .eq) = true := h2
  clear h1 h2
  have hq' : (match (double.read x).toInt .zero with | some n => if IntKind.i64.min ≤ n ∧ n ≤ IntKind.i64.max then some n else none | none => none) = some q := hq
  have e1 : IntKind.i64.min = -9223372036854775808 := by decide +kernel
  have e2 : IntKind.i64.max = 9223372036854775807 := by decide +kernel
  show ∃ (s : Bool) (m : Nat) (i : Int), floatToIntVal .f64 x .i64 = some q ∧ 0 ≤ q ∧ q ≤ T ∧ double.read x = .number s m i ∧ ((double.read x).order (double.read (double.write ((Datum.number s m i).integral .zero))) == some .eq) = ((double.read (fb q)).order (double.read x) == some .eq)
  generalize double.read x = d at *
  cases d with
  | infinity s =>
    obtain ⟨s', m', i', K', e', _⟩ := i0
    obtain ⟨s2, m2, i2, K2, e2, _⟩ := iT
    rw [e'] at h1'; rw [e2] at h2'
    cases s <;> simp [Datum.order] at h1' h2'
  | nan s f => simp [Datum.order] at h1'
  | number s m i =>
    refine ⟨s, m, i, hq, q0, q1, rfl, ?_⟩
    have hK : 0 ≤ i + ((-i).toNat : Int) := by omega
    rw [order_val hK i0] at h1'
    simp only [Option.some_beq_some] at h1'
    rw [cmp_ge, decide_eq_true_eq, Int.zero_mul] at h1'
    rw [toInt_number] at hq'
    simp only [e1, e2] at hq'
    split at hq'
    · have hq2 : signed s (m * 2 ^ i.toNat / 2 ^ (-i).toNat) 0 = q := by simpa using hq'
      have ei : (Datum.number s m i).integral .zero = .number s (m * 2 ^ i.toNat / 2 ^ (-i).toNat) 0 := by
        unfold Datum.integral
        simp only [cut_zero, Nat.shiftLeft_eq]
      rw [ei]
      cases s
      · have his : Is (.number false (m * 2 ^ i.toNat / 2 ^ (-i).toNat) 0) q := by
          refine ⟨_, _, _, 0, rfl, by omega, ?_, fun _ => rfl⟩
          rw [← hq2]
          simp
        rw [his.write]
        exact order_eq_comm _ _
      · have hm : m = 0 := by
          have := (signed_sign true m (i + ((-i).toNat : Int)).toNat).2.1 rfl
          exact (signed_sign true m (i + ((-i).toNat : Int)).toNat).2.2 (by omega)
        subst hm
        have hq0 : q = 0 := by
          rw [← hq2, Nat.zero_mul, Nat.zero_div]; rfl
        subst hq0
        rw [Nat.zero_mul, Nat.zero_div]
        have ew : double.read (double.write (.number true 0 0)) = .number true 0 (-1074) := by decide +kernel
        rw [ew, order_eq_comm (double.read (fb 0)), order_val hK i0]
        unfold Datum.order signed
        simp
    · cases hq'

/-- A great number's word stands high. -/
theorem nearest_great (s : Bool) (m : Nat) (h0 : 9007199254740992 ≤ m) : ∃ r, double.nearest s m 0 = double.word s r ∧ 4845873199050653696 ≤ r ∧ r ≤ 9218868437227405312 := by
  have hl : 53 ≤ m.log2 := (Nat.le_log2 (by omega)).2 (by rw [show (2 : Nat) ^ 53 = 9007199254740992 by decide]; exact h0)
  have hlo := Nat.log2_self_le (n := m) (by omega)
  have e2 : double.binade = 4503599627370496 := by decide +kernel
  have e3 : double.infRung = 9218868437227405312 := by decide +kernel
  have e4 : double.leastPlace = -1074 := by decide +kernel
  have e5 : double.fractionBits = 52 := rfl
  have hkept : 4503599627370496 ≤ Toward.even.cut s (m <<< 0) (m.log2 - 52) := by
    unfold Toward.cut
    rw [Nat.shiftLeft_zero, Nat.min_eq_left (by omega)]
    simp only [Nat.shiftLeft_eq, Nat.one_mul]
    have hp : 2 ^ (m.log2 - 52) * 2 ^ 52 = 2 ^ m.log2 := by rw [← Nat.pow_add, show m.log2 - 52 + 52 = m.log2 by omega]
    have e : (2 : Nat) ^ 52 = 4503599627370496 := by decide
    have l1 : 4503599627370496 ≤ m / 2 ^ (m.log2 - 52) := by
      rw [Nat.le_div_iff_mul_le (Nat.two_pow_pos _), Nat.mul_comm, ← e, hp]; exact hlo
    exact Nat.le_trans l1 (Nat.le_add_right _ _)
  unfold Format.nearest
  rw [if_neg (by omega)]
  simp only [e2, e3, e4, e5]
  have hlast : max (0 + (m.log2 : Int) - ((52 : Nat) : Int)) (-1074) = (m.log2 : Int) - 52 := by omega
  rw [hlast, show (0 - ((m.log2 : Int) - 52)).toNat = 0 by omega, show ((m.log2 : Int) - 52 - 0).toNat = m.log2 - 52 by omega, show ((m.log2 : Int) - 52 - -1074).toNat = m.log2 + 1022 by omega]
  refine ⟨_, rfl, ?_, Nat.min_le_right _ _⟩
  generalize Toward.even.cut s (m <<< 0) (m.log2 - 52) = z at *
  generalize m.log2 = l at *
  omega
theorem read_inf (s : Bool) : double.read (double.word s 9218868437227405312) = .infinity s := by cases s <;> decide +kernel
/-- A great number's word is no part. -/
theorem rawB_great (s : Bool) (r : Nat) (h0 : 4845873199050653696 ≤ r) (h1 : r ≤ 9218868437227405312) : rawB (double.word s r) = false := by
  obtain ⟨t0, m0, i0, K0, e0, a0, b0, c0⟩ := (Is.fb 0 (by decide)).scale
  obtain ⟨t1, m1, i1, K1, e1, a1, b1, c1⟩ := (Is.fb 1099511627776 (by decide)).scale
  have i0' := Is.fb 0 (by decide)
  have i1' := Is.fb 1099511627776 (by decide)
  have key : ((double.read (double.word s r)).order (double.read (fb 0)) == some .gt || (double.read (double.word s r)).order (double.read (fb 0)) == some .eq) = false ∨ ((double.read (double.word s r)).order (double.read (fb 1099511627776)) == some .lt || (double.read (double.word s r)).order (double.read (fb 1099511627776)) == some .eq) = false := by
    by_cases hr : r < 9218868437227405312
    · rw [read_word s r (by omega) hr]
      have hK : (0 : Int) ≤ -1074 + ((r / 4503599627370496 - 1 : Nat) : Int) + ((0 : Nat) : Int) := by omega
      rw [order_val hK i0', order_val hK i1']
      simp only [Option.some_beq_some]
      rw [cmp_ge, cmp_le]
      obtain ⟨k, hk⟩ : ∃ k, (-1074 + ((r / 4503599627370496 - 1 : Nat) : Int) + ((0 : Nat) : Int)).toNat = k := ⟨_, rfl⟩
      rw [hk]
      have hp := Nat.two_pow_pos k
      cases s
      · right
        unfold signed
        rw [if_neg (by decide), Nat.shiftLeft_eq]
        have : 4503599627370496 ≤ (4503599627370496 + r % 4503599627370496) * 2 ^ k := Nat.le_trans (Nat.le_add_right _ _) (Nat.le_mul_of_pos_right _ hp)
        generalize (4503599627370496 + r % 4503599627370496) * 2 ^ k = v at *
        simp
        omega
      · left
        unfold signed
        rw [if_pos rfl, Nat.shiftLeft_eq]
        have : 4503599627370496 ≤ (4503599627370496 + r % 4503599627370496) * 2 ^ k := Nat.le_trans (Nat.le_add_right _ _) (Nat.le_mul_of_pos_right _ hp)
        generalize (4503599627370496 + r % 4503599627370496) * 2 ^ k = v at *
        simp
        omega
    · obtain rfl : r = 9218868437227405312 := by omega
      rw [read_inf, e0, e1]
      cases s
      · right; rfl
      · left; rfl
  unfold rawB
  show (((double.read (double.word s r)).order (double.read (fb 0)) == some .gt || (double.read (double.word s r)).order (double.read (fb 0)) == some .eq) && ((double.read (double.word s r)).order (double.read (fb 1099511627776)) == some .lt || (double.read (double.word s r)).order (double.read (fb 1099511627776)) == some .eq) && _) = false
  rcases key with k | k <;> rw [k] <;> simp
/-- Of any whole number, however great: its word is a part just if the number is one. -/
theorem rawB_fb (n : Int) : rawB (fb n) = decide (0 ≤ n ∧ n ≤ 1099511627776) := by
  by_cases h : n.natAbs < 9007199254740992
  · exact rawB_wh (Wh.of n h)
  · obtain ⟨r, e, r1, r2⟩ := nearest_great (decide (n < 0)) n.natAbs (by omega)
    rw [fb_eq, e, rawB_great _ _ r1 r2]
    symm
    rw [decide_eq_false_iff_not]
    omega
end Go.Proofs.YtioplfbkfokkfaaGreatDoor
