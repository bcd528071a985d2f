/-
  Sums as the document has them: pairs of whole numbers. Nothing of the program is named here.
  What all of some sums come to, in whatever order: plain mathematics. Nothing of the program is named here.
  What math.Trunc gives of a word between 0 and a whole number; words of whole numbers, however great; products. Plain mathematics: nothing of the program is named here.
  Places as complex numbers: words that are whole numbers between two others. Plain mathematics: nothing of the program is named here.
-/
import Derived.Test.YtihaifnenjngpaaGreatDoorSuBase
import Derived.Test.YtihaifnenjngpaaGreatDoorBase
import Derived.Test.YtihaifnenjngpaaGreatDoorHpBase
namespace Go.Proofs.YtihaifnenjngpaaGreatDoor
open Go.RowKit

/-- Both parts are right. -/
abbrev Rt (a b : Int) : Prop := 0 ≤ a ∧ a ≤ 1099511627776 ∧ 0 ≤ b ∧ b ≤ 1099511627776
/-- The parts and the error that come out, if a and b were to. -/
def okA (a b : Int) : Int := if Rt a b then a else 0
def okB (a b : Int) : Int := if Rt a b then b else 0
def okE (a b : Int) : Int := if Rt a b then 0 else 12
theorem ok_right {a b : Int} (h : Rt a b) : okA a b = a ∧ okB a b = b ∧ okE a b = 0 := by simp [okA, okB, okE, h]
theorem ok_wrong {a b : Int} (h : ¬ Rt a b) : okA a b = 0 ∧ okB a b = 0 ∧ okE a b = 12 := by simp [okA, okB, okE, h]
theorem ok_rt (a b : Int) : Rt (okA a b) (okB a b) := by
  by_cases h : Rt a b
  · rw [(ok_right h).1, (ok_right h).2.1]; exact h
  · rw [(ok_wrong h).1, (ok_wrong h).2.1]; exact ⟨by decide, by decide, by decide, by decide⟩
/-- So many times a part; below 0, if so many are none. -/
def tim (a n : Int) : Int := if 0 ≤ n ∧ n ≤ 1099511627776 then a * n else -1
theorem Rt.wa {a b : Int} (h : Rt a b) : Wh (fb a) a := Wh.of a (by unfold Rt at h; omega)
theorem Rt.wb {a b : Int} (h : Rt a b) : Wh (fb b) b := Wh.of b (by unfold Rt at h; omega)
theorem fb_top : (4787326403894837248 : Nat) = fb 1099511627776 := by decide +kernel

/-- Is a word's part one? As the law asks it. -/
def rawB (x : Nat) : Bool :=
  (FloatKind.f64.format.order x (fb 0) == some .gt || FloatKind.f64.format.order x (fb 0) == some .eq) && (FloatKind.f64.format.order x (fb 1099511627776) == some .lt || FloatKind.f64.format.order x (fb 1099511627776) == some .eq) && (match floatToIntVal .f64 x .i64 with | some q => FloatKind.f64.format.order (fb q) x == some .eq | none => false)

theorem frOf {w w' : World} (f : ∃ m, w' = w.drewN m) : Fr (fun _ => False) w w' := by
  obtain ⟨m, rfl⟩ := f
  exact (Fr.refl _ _).drewN m
/-- The last of 2 things that were laid, behind a call. -/
theorem laid2 {w w1 : World} {o1 : Obj} {x y : Value} {T : TypeId} (hf : Fr (fun _ => False) ((w.alloc o1).alloc (.cells #[x, y] T)) w1) :
    w1.cell? ⟨w.heap.size + 1, 0, none⟩ = some x ∧ w1.cell? ⟨w.heap.size + 1, 1, none⟩ = some y ∧ w1.frozen? ⟨w.heap.size + 1, 0, none⟩ = false ∧ w1.frozen? ⟨w.heap.size + 1, 1, none⟩ = false := by
  have hb := hf.block (w.heap.size + 1) (by simp) id
  have hn := heap_alloc_new (w.alloc o1) (.cells #[x, y] T)
  simp only [World.size_alloc] at hn
  rw [hn] at hb
  simp [World.cell?, World.frozen?, hb]
theorem over2 {w w1 : World} {o1 o : Obj} (hf : Fr (fun _ => False) ((w.alloc o1).alloc o) w1) (u v : Value) : Fr (fun _ => False) w ((w1.setCell ⟨w.heap.size + 1, 0, none⟩ u).setCell ⟨w.heap.size + 1, 1, none⟩ v) := by
  refine Fr.new ?_
  have f0 : Fr (fun k => w.heap.size ≤ k) w ((w.alloc o1).alloc o) := ((Fr.refl _ _).alloc _).alloc _
  have f1 := f0.trans' hf (fun i _ h => h.elim)
  exact (f1.setCell (p := ⟨w.heap.size + 1, 0, none⟩) (by show w.heap.size ≤ w.heap.size + 1; omega) u).setCell (p := ⟨w.heap.size + 1, 1, none⟩) (by show w.heap.size ≤ w.heap.size + 1; omega) v
/-- The last of 3 things that were laid, behind a call. -/
theorem laid3 {w w1 : World} {o1 o2 : Obj} {x y : Value} {T : TypeId} (hf : Fr (fun _ => False) (((w.alloc o1).alloc o2).alloc (.cells #[x, y] T)) w1) :
    w1.cell? ⟨w.heap.size + 1 + 1, 0, none⟩ = some x ∧ w1.cell? ⟨w.heap.size + 1 + 1, 1, none⟩ = some y ∧ w1.frozen? ⟨w.heap.size + 1 + 1, 0, none⟩ = false ∧ w1.frozen? ⟨w.heap.size + 1 + 1, 1, none⟩ = false := by
  have hb := hf.block (w.heap.size + 1 + 1) (by simp) id
  have hn := heap_alloc_new ((w.alloc o1).alloc o2) (.cells #[x, y] T)
  simp only [World.size_alloc] at hn
  rw [hn] at hb
  simp [World.cell?, World.frozen?, hb]
theorem over3 {w w1 : World} {o1 o2 o : Obj} (hf : Fr (fun _ => False) (((w.alloc o1).alloc o2).alloc o) w1) (u v : Value) : Fr (fun _ => False) w ((w1.setCell ⟨w.heap.size + 1 + 1, 0, none⟩ u).setCell ⟨w.heap.size + 1 + 1, 1, none⟩ v) := by
  refine Fr.new ?_
  have f0 : Fr (fun k => w.heap.size ≤ k) w (((w.alloc o1).alloc o2).alloc o) := (((Fr.refl _ _).alloc _).alloc _).alloc _
  have f1 := f0.trans' hf (fun i _ h => h.elim)
  exact (f1.setCell (p := ⟨w.heap.size + 1 + 1, 0, none⟩) (by show w.heap.size ≤ w.heap.size + 1 + 1; omega) u).setCell (p := ⟨w.heap.size + 1 + 1, 1, none⟩) (by show w.heap.size ≤ w.heap.size + 1 + 1; omega) v

/-- In block B lie the numbers a and b, laid as a T. -/
structure Pr (T : TypeId) (w : World) (B : Nat) (a b : Int) : Prop where
  heap : w.heap[B]? = some (.cells #[.int .i64 a, .int .i64 b] T (0, 0))
section
variable {T : TypeId} {w w' : World} {B : Nat} {a b : Int}
theorem Pr.new (T : TypeId) (w : World) (a b : Int) : Pr T (w.alloc (.cells #[.int .i64 a, .int .i64 b] T)) w.heap.size a b := ⟨heap_alloc_new w _⟩
theorem Pr.lt (h : Pr T w B a b) : B < w.heap.size := (Array.getElem?_eq_some_iff.1 h.heap).1
theorem Pr.carry (h : Pr T w B a b) (f : Fr (fun _ => False) w w') : Pr T w' B a b := ⟨by rw [f.block B h.lt id]; exact h.heap⟩
theorem Pr.alloc (h : Pr T w B a b) (o : Obj) : Pr T (w.alloc o) B a b := h.carry ((Fr.refl _ _).alloc o)
theorem Pr.c0 (h : Pr T w B a b) : w.cell? ⟨B, 0, none⟩ = some (.int .i64 a) := by simp [World.cell?, h.heap]
theorem Pr.c1 (h : Pr T w B a b) : w.cell? ⟨B, 1, none⟩ = some (.int .i64 b) := by simp [World.cell?, h.heap]
end
theorem boxes2 {T : TypeId} {w w1 : World} {a b c d : Int} (hf : Fr (fun _ => False) ((w.alloc (.cells #[.int .i64 a, .int .i64 b] T)).alloc (.cells #[.int .i64 c, .int .i64 d] T)) w1) :
    Pr T w1 w.heap.size a b ∧ Pr T w1 (w.heap.size + 1) c d ∧ Fr (fun _ => False) w w1 := by
  refine ⟨((Pr.new T w a b).alloc _).carry hf, ?_, ((((Fr.refl _ _).alloc _).alloc _).trans hf)⟩
  have := (Pr.new T (w.alloc (.cells #[.int .i64 a, .int .i64 b] T)) c d).carry hf
  simpa using this
theorem boxes3 {T : TypeId} {w w1 : World} {a b c d f g : Int} (hf : Fr (fun _ => False) (((w.alloc (.cells #[.int .i64 a, .int .i64 b] T)).alloc (.cells #[.int .i64 c, .int .i64 d] T)).alloc (.cells #[.int .i64 f, .int .i64 g] T)) w1) :
    Pr T w1 w.heap.size a b ∧ Pr T w1 (w.heap.size + 1) c d ∧ Pr T w1 (w.heap.size + 1 + 1) f g ∧ Fr (fun _ => False) w w1 := by
  obtain ⟨h1, h2, h3⟩ := boxes2 (((Fr.refl _ _).alloc (.cells #[.int .i64 f, .int .i64 g] T)).trans hf)
  refine ⟨h1, h2, ?_, h3⟩
  have := (Pr.new T ((w.alloc (.cells #[.int .i64 a, .int .i64 b] T)).alloc (.cells #[.int .i64 c, .int .i64 d] T)) f g).carry hf
  simpa using this
end Go.Proofs.YtihaifnenjngpaaGreatDoor

namespace Go.Proofs.YtihaifnenjngpaaGreatDoor

/-- From a, b on: bytes, pages and error when all of the list have been added, one by one, from the front. -/
def tot : Int → Int → List (Int × Int) → Int × Int × Int
  | a, b, [] => (a, b, 0)
  | a, b, p :: l => if Rt (a + p.1) (b + p.2) then tot (a + p.1) (b + p.2) l else (0, 0, 12)
def sA : List (Int × Int) → Int
  | [] => 0
  | p :: l => p.1 + sA l
def sB : List (Int × Int) → Int
  | [] => 0
  | p :: l => p.2 + sB l
def AllRt (l : List (Int × Int)) : Prop := ∀ p ∈ l, Rt p.1 p.2
theorem s_nonneg : ∀ {l : List (Int × Int)}, AllRt l → 0 ≤ sA l ∧ 0 ≤ sB l
  | [], _ => ⟨Int.le_refl _, Int.le_refl _⟩
  | p :: l, h => by
    have h1 := h p (by simp)
    have h2 := s_nonneg (l := l) fun q hq => h q (by simp [hq])
    unfold Rt at h1
    simp only [sA, sB]
    omega
theorem tot_sum : ∀ {l : List (Int × Int)} {a b : Int}, Rt a b → AllRt l → tot a b l = (okA (a + sA l) (b + sB l), okB (a + sA l) (b + sB l), okE (a + sA l) (b + sB l))
  | [], a, b, h, _ => by
    simp only [tot, sA, sB, Int.add_zero]
    rw [(ok_right h).1, (ok_right h).2.1, (ok_right h).2.2]
  | p :: l, a, b, h, hl => by
    have h2 : AllRt l := fun q hq => hl q (by simp [hq])
    have h3 := s_nonneg h2
    have h1 := hl p (by simp)
    simp only [tot, sA, sB]
    by_cases k : Rt (a + p.1) (b + p.2)
    · rw [if_pos k, tot_sum k h2, show a + (p.1 + sA l) = a + p.1 + sA l by omega, show b + (p.2 + sB l) = b + p.2 + sB l by omega]
    · rw [if_neg k]
      have k2 : ¬ Rt (a + (p.1 + sA l)) (b + (p.2 + sB l)) := by unfold Rt at *; omega
      rw [(ok_wrong k2).1, (ok_wrong k2).2.1, (ok_wrong k2).2.2]
theorem sA_append : ∀ l m : List (Int × Int), sA (l ++ m) = sA l + sA m
  | [], m => by simp [sA]
  | p :: l, m => by simp only [List.cons_append, sA, sA_append l m]; omega
theorem sB_append : ∀ l m : List (Int × Int), sB (l ++ m) = sB l + sB m
  | [], m => by simp [sB]
  | p :: l, m => by simp only [List.cons_append, sB, sB_append l m]; omega
theorem s_reverse : ∀ l : List (Int × Int), sA l.reverse = sA l ∧ sB l.reverse = sB l
  | [] => ⟨rfl, rfl⟩
  | p :: l => by
    obtain ⟨h1, h2⟩ := s_reverse l
    rw [List.reverse_cons, sA_append, sB_append, h1, h2]
    simp only [sA, sB]
    omega
theorem allRt_reverse {l : List (Int × Int)} (h : AllRt l) : AllRt l.reverse := fun p hp => h p (by simpa using hp)
theorem rt_zero : Rt 0 0 := by decide
/-- The same in the other order. -/
theorem tot_reverse {l : List (Int × Int)} (h : AllRt l) : tot 0 0 l.reverse = tot 0 0 l := by
  rw [tot_sum rt_zero h, tot_sum rt_zero (allRt_reverse h), (s_reverse l).1, (s_reverse l).2]
/-- One more. -/
theorem tot_more {l : List (Int × Int)} {p : Int × Int} (h : AllRt l) (hp : Rt p.1 p.2) :
    tot 0 0 (l ++ [p]) = if (tot 0 0 l).2.2 = 0 then (okA ((tot 0 0 l).1 + p.1) ((tot 0 0 l).2.1 + p.2), okB ((tot 0 0 l).1 + p.1) ((tot 0 0 l).2.1 + p.2), okE ((tot 0 0 l).1 + p.1) ((tot 0 0 l).2.1 + p.2)) else tot 0 0 l := by
  have h2 : AllRt (l ++ [p]) := fun q hq => by
    rcases List.mem_append.1 hq with hq | hq
    · exact h q hq
    · simp at hq; subst hq; exact hp
  rw [tot_sum rt_zero h2, tot_sum rt_zero h, sA_append, sB_append]
  simp only [sA, sB, Int.add_zero, Int.zero_add]
  have h3 := s_nonneg h
  by_cases k : Rt (sA l) (sB l)
  · obtain ⟨e1, e2, e3⟩ := ok_right k
    rw [e1, e2, e3, if_pos rfl]
  · obtain ⟨e1, e2, e3⟩ := ok_wrong k
    have k2 : ¬ Rt (sA l + p.1) (sB l + p.2) := by unfold Rt at *; omega
    rw [e1, e2, e3, (ok_wrong k2).1, (ok_wrong k2).2.1, (ok_wrong k2).2.2, if_neg (by decide)]
theorem tot_rt {l : List (Int × Int)} (h : AllRt l) : Rt (tot 0 0 l).1 (tot 0 0 l).2.1 := by
  rw [tot_sum rt_zero h]; exact ok_rt _ _

/-- A word that reads as a whole number is a part just if the number is one. -/
theorem rawB_wh {x : Nat} {n : Int} (h : Wh x n) : rawB x = decide (0 ≤ n ∧ n ≤ 1099511627776) := by
  have e0 := h.order (Wh.of 0 (by decide))
  have e1 := h.order (Wh.of 1099511627776 (by decide))
  have g := cmp_ge n 0
  have l := cmp_le n 1099511627776
  unfold rawB
  rw [e0, e1]
  simp only [Option.some_beq_some]
  rw [g, l]
  by_cases h0 : 0 ≤ n
  · by_cases h1 : n ≤ 1099511627776
    · have e2 := (Wh.of n (by omega)).order h
      have e3 : compare n n = Ordering.eq := by simp
      rw [h.int (by omega) (by omega)]
      simp only [e2, e3]
      simp [h0, h1]
    · simp [h1]
  · simp [h0]
end Go.Proofs.YtihaifnenjngpaaGreatDoor

namespace Go.Proofs.YtihaifnenjngpaaGreatDoor
open Ieee

/-- Of two data it is told in either order whether they are the same. -/
theorem order_eq_comm (a b : Datum) : (a.order b == some .eq) = (b.order a == some .eq) := by
  cases a with
  | infinity s => cases b with
    | infinity t => cases s <;> cases t <;> rfl
    | nan t f => rfl
    | number t n j => cases s <;> rfl
  | nan s f => cases b <;> rfl
  | number s m i => cases b with
    | infinity t => cases t <;> rfl
    | nan t f => rfl
    | number t n j =>
      unfold Datum.order
      simp only [Option.some_beq_some]
      rw [cmp_eq, cmp_eq, Int.min_comm]
      exact decide_eq_decide.2 ⟨Eq.symm, Eq.symm⟩
/-- A word between two whole numbers, the lesser 0: it is no NaN; made whole towards nothing it is itself just if it is the word of its whole part. -/
theorem trunc_in (x : Nat) (T : Int) (hT0 : 0 ≤ T) (hT : T < 9007199254740992)
    (h1 : (FloatKind.f64.format.order x (fb 0) == some .gt || FloatKind.f64.format.order x (fb 0) == some .eq) = true)
    (h2 : (FloatKind.f64.format.order x (fb T) == some .lt || FloatKind.f64.format.order x (fb T) == some .eq) = true) :
    ∃ (q : Int) (s : Bool) (m : Nat) (i : Int), floatToIntVal .f64 x .i64 = some q ∧ 0 ≤ q ∧ q ≤ T ∧ FloatKind.f64.decode x = .number s m i ∧
      (FloatKind.f64.format.order x (FloatKind.f64.encode ((Datum.number s m i).integral .zero)) == some .eq) = (FloatKind.f64.format.order (fb q) x == some .eq) := by
  obtain ⟨q, hq, q0, q1⟩ := raw_in x T hT0 hT h1 h2
  refine ⟨q, ?_⟩
  have i0 := Is.fb 0 (by decide)
  have h1' : ((double.read x).order (double.read (fb 0)) == some .gt || (double.read x).order (double.read (fb 0)) == some .eq) = true := h1
  have iT := Is.fb T (by omega)
  have h2' : ((double.read x).order (double.read (fb T)) == some .lt || (double.read x).order (double.read (fb T)) == some .eq) = true := h2
  clear h1 h2
  have hq' : (match (double.read x).toInt .zero with | some n => if IntKind.i64.min ≤ n ∧ n ≤ IntKind.i64.max then some n else none | none => none) = some q := hq
  have e1 : IntKind.i64.min = -9223372036854775808 := by decide +kernel
  have e2 : IntKind.i64.max = 9223372036854775807 := by decide +kernel
  show ∃ (s : Bool) (m : Nat) (i : Int), floatToIntVal .f64 x .i64 = some q ∧ 0 ≤ q ∧ q ≤ T ∧ double.read x = .number s m i ∧ ((double.read x).order (double.read (double.write ((Datum.number s m i).integral .zero))) == some .eq) = ((double.read (fb q)).order (double.read x) == some .eq)
  generalize double.read x = d at *
  cases d with
  | infinity s =>
    obtain ⟨s', m', i', K', e', _⟩ := i0
    obtain ⟨s2, m2, i2, K2, e2, _⟩ := iT
    rw [e'] at h1'; rw [e2] at h2'
    cases s <;> simp [Datum.order] at h1' h2'
  | nan s f => simp [Datum.order] at h1'
  | number s m i =>
    refine ⟨s, m, i, hq, q0, q1, rfl, ?_⟩
    have hK : 0 ≤ i + ((-i).toNat : Int) := by omega
    rw [order_val hK i0] at h1'
    simp only [Option.some_beq_some] at h1'
    rw [cmp_ge, decide_eq_true_eq, Int.zero_mul] at h1'
    rw [toInt_number] at hq'
    simp only [e1, e2] at hq'
    split at hq'
    · have hq2 : signed s (m * 2 ^ i.toNat / 2 ^ (-i).toNat) 0 = q := by simpa using hq'
      have ei : (Datum.number s m i).integral .zero = .number s (m * 2 ^ i.toNat / 2 ^ (-i).toNat) 0 := by
        unfold Datum.integral
        simp only [cut_zero, Nat.shiftLeft_eq]
      rw [ei]
      cases s
      · have his : Is (.number false (m * 2 ^ i.toNat / 2 ^ (-i).toNat) 0) q := by
          refine ⟨_, _, _, 0, rfl, by omega, ?_, fun _ => rfl⟩
          rw [← hq2]
          simp
        rw [his.write]
        exact order_eq_comm _ _
      · have hm : m = 0 := by
          have := (signed_sign true m (i + ((-i).toNat : Int)).toNat).2.1 rfl
          exact (signed_sign true m (i + ((-i).toNat : Int)).toNat).2.2 (by omega)
        subst hm
        have hq0 : q = 0 := by
          rw [← hq2, Nat.zero_mul, Nat.zero_div]; rfl
        subst hq0
        rw [Nat.zero_mul, Nat.zero_div]
        have ew : double.read (double.write (.number true 0 0)) = .number true 0 (-1074) := by decide +kernel
        rw [ew, order_eq_comm (double.read (fb 0)), order_val hK i0]
        unfold Datum.order signed
        simp
    · cases hq'

/-- A great number's word stands high. -/
theorem nearest_great (s : Bool) (m : Nat) (h0 : 9007199254740992 ≤ m) : ∃ r, double.nearest s m 0 = double.word s r ∧ 4845873199050653696 ≤ r ∧ r ≤ 9218868437227405312 := by
  have hl : 53 ≤ m.log2 := (Nat.le_log2 (by omega)).2 (by rw [show (2 : Nat) ^ 53 = 9007199254740992 by decide]; exact h0)
  have hlo := Nat.log2_self_le (n := m) (by omega)
  have e2 : double.binade = 4503599627370496 := by decide +kernel
  have e3 : double.infRung = 9218868437227405312 := by decide +kernel
  have e4 : double.leastPlace = -1074 := by decide +kernel
  have e5 : double.fractionBits = 52 := rfl
  have hkept : 4503599627370496 ≤ Toward.even.cut s (m <<< 0) (m.log2 - 52) := by
    unfold Toward.cut
    rw [Nat.shiftLeft_zero, Nat.min_eq_left (by omega)]
    simp only [Nat.shiftLeft_eq, Nat.one_mul]
    have hp : 2 ^ (m.log2 - 52) * 2 ^ 52 = 2 ^ m.log2 := by rw [← Nat.pow_add, show m.log2 - 52 + 52 = m.log2 by omega]
    have e : (2 : Nat) ^ 52 = 4503599627370496 := by decide
    have l1 : 4503599627370496 ≤ m / 2 ^ (m.log2 - 52) := by
      rw [Nat.le_div_iff_mul_le (Nat.two_pow_pos _), Nat.mul_comm, ← e, hp]; exact hlo
    exact Nat.le_trans l1 (Nat.le_add_right _ _)
  unfold Format.nearest
  rw [if_neg (by omega)]
  simp only [e2, e3, e4, e5]
  have hlast : max (0 + (m.log2 : Int) - ((52 : Nat) : Int)) (-1074) = (m.log2 : Int) - 52 := by omega
  rw [hlast, show (0 - ((m.log2 : Int) - 52)).toNat = 0 by omega, show ((m.log2 : Int) - 52 - 0).toNat = m.log2 - 52 by omega, show ((m.log2 : Int) - 52 - -1074).toNat = m.log2 + 1022 by omega]
  refine ⟨_, rfl, ?_, Nat.min_le_right _ _⟩
  generalize Toward.even.cut s (m <<< 0) (m.log2 - 52) = z at *
  generalize m.log2 = l at *
  omega
theorem read_inf (s : Bool) : double.read (double.word s 9218868437227405312) = .infinity s := by cases s <;> decide +kernel
/-- A great number's word is no part. -/
theorem rawB_great (s : Bool) (r : Nat) (h0 : 4845873199050653696 ≤ r) (h1 : r ≤ 9218868437227405312) : rawB (double.word s r) = false := by
  obtain ⟨t0, m0, i0, K0, e0, a0, b0, c0⟩ := (Is.fb 0 (by decide)).scale
  obtain ⟨t1, m1, i1, K1, e1, a1, b1, c1⟩ := (Is.fb 1099511627776 (by decide)).scale
  have i0' := Is.fb 0 (by decide)
  have i1' := Is.fb 1099511627776 (by decide)
  have key : ((double.read (double.word s r)).order (double.read (fb 0)) == some .gt || (double.read (double.word s r)).order (double.read (fb 0)) == some .eq) = false ∨ ((double.read (double.word s r)).order (double.read (fb 1099511627776)) == some .lt || (double.read (double.word s r)).order (double.read (fb 1099511627776)) == some .eq) = false := by
    by_cases hr : r < 9218868437227405312
    · rw [read_word s r (by omega) hr]
      have hK : (0 : Int) ≤ -1074 + ((r / 4503599627370496 - 1 : Nat) : Int) + ((0 : Nat) : Int) := by omega
      rw [order_val hK i0', order_val hK i1']
      simp only [Option.some_beq_some]
      rw [cmp_ge, cmp_le]
      obtain ⟨k, hk⟩ : ∃ k, (-1074 + ((r / 4503599627370496 - 1 : Nat) : Int) + ((0 : Nat) : Int)).toNat = k := ⟨_, rfl⟩
      rw [hk]
      have hp := Nat.two_pow_pos k
      cases s
      · right
        unfold signed
        rw [if_neg (by decide), Nat.shiftLeft_eq]
        have : 4503599627370496 ≤ (4503599627370496 + r % 4503599627370496) * 2 ^ k := Nat.le_trans (Nat.le_add_right _ _) (Nat.le_mul_of_pos_right _ hp)
        generalize (4503599627370496 + r % 4503599627370496) * 2 ^ k = v at *
        simp
        omega
      · left
        unfold signed
        rw [if_pos rfl, Nat.shiftLeft_eq]
        have : 4503599627370496 ≤ (4503599627370496 + r % 4503599627370496) * 2 ^ k := Nat.le_trans (Nat.le_add_right _ _) (Nat.le_mul_of_pos_right _ hp)
        generalize (4503599627370496 + r % 4503599627370496) * 2 ^ k = v at *
        simp
        omega
    · obtain rfl : r = 9218868437227405312 := by omega
      rw [read_inf, e0, e1]
      cases s
      · right; rfl
      · left; rfl
  unfold rawB
  show (((double.read (double.word s r)).order (double.read (fb 0)) == some .gt || (double.read (double.word s r)).order (double.read (fb 0)) == some .eq) && ((double.read (double.word s r)).order (double.read (fb 1099511627776)) == some .lt || (double.read (double.word s r)).order (double.read (fb 1099511627776)) == some .eq) && _) = false
  rcases key with k | k <;> rw [k] <;> simp
/-- Of any whole number, however great: its word is a part just if the number is one. -/
theorem rawB_fb (n : Int) : rawB (fb n) = decide (0 ≤ n ∧ n ≤ 1099511627776) := by
  by_cases h : n.natAbs < 9007199254740992
  · exact rawB_wh (Wh.of n h)
  · obtain ⟨r, e, r1, r2⟩ := nearest_great (decide (n < 0)) n.natAbs (by omega)
    rw [fb_eq, e, rawB_great _ _ r1 r2]
    symm
    rw [decide_eq_false_iff_not]
    omega
/-- So many times a right sum, as complex numbers. -/
theorem cmul_fb {a b n : Int} (h : Rt a b) (k : 0 ≤ n ∧ n ≤ 1099511627776) : ∃ p q : Int, cMulBits (fb a) (fb b) (fb n) (fb 0) = some (fb p, fb q) ∧
    decide (0 ≤ p ∧ p ≤ 1099511627776) = decide (0 ≤ a * n ∧ a * n ≤ 1099511627776) ∧ decide (0 ≤ q ∧ q ≤ 1099511627776) = decide (0 ≤ b * n ∧ b * n ≤ 1099511627776) ∧ (Rt (a * n) (b * n) → p = a * n ∧ q = b * n) := by
  have wn := Wh.of n (by omega)
  have w0 := Wh.of 0 (by decide)
  have wa := h.wa
  have wb := h.wb
  have bd : ∀ z : Int, 0 ≤ z → z ≤ 1099511627776 → 0 ≤ z * n ∧ z * n < 2 ^ 200 := fun z z0 z1 => by
    refine ⟨Int.mul_nonneg z0 k.1, ?_⟩
    have := Int.mul_le_mul z1 k.2 k.1 (by decide)
    have e : (1099511627776 * 1099511627776 : Int) < 2 ^ 200 := by decide +kernel
    omega
  unfold Rt at h
  obtain ⟨a0, a1⟩ := bd a h.1 h.2.1
  obtain ⟨b0, b1⟩ := bd b h.2.2.1 h.2.2.2
  obtain ⟨A, hA, A1, A2, A3, A4⟩ := Wh.any (a * n) a0 a1
  obtain ⟨B, hB, B1, B2, B3, B4⟩ := Wh.any (b * n) b0 b1
  refine ⟨A, B, ?_, ?_, ?_, ?_⟩
  · unfold cMulBits
    rw [wa.mul wn h.1 k.1, wb.mul w0 h.2.2.1 (by decide), Option.bind_some, Option.bind_some, Int.mul_zero, hA.sub w0, Option.bind_some, wa.mul w0 h.1 (by decide), Option.bind_some, wb.mul wn h.2.2.1 k.1, Option.bind_some, Int.mul_zero, w0.add hB, Option.bind_some, Int.sub_zero, Int.zero_add]
  · by_cases c : a * n < 9007199254740992
    · rw [A1 c]
    · have := A2 (by omega)
      rw [decide_eq_false (by omega), decide_eq_false (by omega)]
  · by_cases c : b * n < 9007199254740992
    · rw [B1 c]
    · have := B2 (by omega)
      rw [decide_eq_false (by omega), decide_eq_false (by omega)]
  · intro r
    unfold Rt at r
    exact ⟨A1 (by omega), B1 (by omega)⟩
end Go.Proofs.YtihaifnenjngpaaGreatDoor

namespace Go.Proofs.YtihaifnenjngpaaGreatDoor
open Ieee

/-- At least; below. -/
def geB (x c : Nat) : Bool := FloatKind.f64.format.order x c == some .gt || FloatKind.f64.format.order x c == some .eq
def ltB (x c : Nat) : Bool := FloatKind.f64.format.order x c == some .lt
/-- Is it the word of a whole number from L up to (not with) T? -/
def whB (x : Nat) (L T : Int) : Bool := geB x (fb L) && ltB x (fb T) && (match floatToIntVal .f64 x .i64 with | some q => FloatKind.f64.format.order (fb q) x == some .eq | none => false)
/-- A word between two whole numbers, the lesser not below 0: its whole part lies between them, too. -/
theorem raw_mid (x : Nat) (L T : Int) (hL0 : 0 ≤ L) (hL : L < 9007199254740992) (hT0 : 0 ≤ T) (hT : T < 9007199254740992) (h1 : geB x (fb L) = true) (h2 : ltB x (fb T) = true) :
    ∃ q : Int, floatToIntVal .f64 x .i64 = some q ∧ L ≤ q ∧ q < T := by
  have i0 := Is.fb L (by omega)
  have iT := Is.fb T (by omega)
  have h1' : ((double.read x).order (double.read (fb L)) == some .gt || (double.read x).order (double.read (fb L)) == some .eq) = true := h1
  have h2' : ((double.read x).order (double.read (fb T)) == some .lt) = true := h2
  clear h1 h2
  unfold floatToIntVal
  show ∃ q : Int, (match (double.read x).toInt .zero with | some n => if IntKind.i64.min ≤ n ∧ n ≤ IntKind.i64.max then some n else none | none => none) = some q ∧ _
  generalize double.read x = d at *
  cases d with
  | infinity s =>
    obtain ⟨s', m', i', K', e', _⟩ := i0
    obtain ⟨s2, m2, i2, K2, e2, _⟩ := iT
    rw [e'] at h1'; rw [e2] at h2'
    cases s <;> simp [Datum.order] at h1' h2'
  | nan s f => simp [Datum.order] at h1'
  | number s m i =>
    have hK : 0 ≤ i + ((-i).toNat : Int) := by omega
    rw [order_val hK i0] at h1'
    rw [order_val hK iT] at h2'
    simp only [Option.some_beq_some] at h1' h2'
    rw [cmp_ge, decide_eq_true_eq] at h1'
    have h2' : signed s m (i + ((-i).toNat : Int)).toNat < T * 2 ^ (-i).toNat := by
      have := eq_of_beq h2'
      rw [Int.compare_eq_lt] at this
      exact this
    rw [show (i + ((-i).toNat : Int)).toNat = i.toNat by omega] at h1' h2'
    rw [toInt_number]
    generalize (-i).toNat = K at *
    have e1 : IntKind.i64.min = -9223372036854775808 := by decide +kernel
    have e2 : IntKind.i64.max = 9223372036854775807 := by decide +kernel
    have eL : (L * 2 ^ K) = ((L.toNat * 2 ^ K : Nat) : Int) := by
      rw [Int.natCast_mul, Int.natCast_pow, show ((L.toNat : Nat) : Int) = L by omega]; rfl
    have eT : (T * 2 ^ K) = ((T.toNat * 2 ^ K : Nat) : Int) := by
      rw [Int.natCast_mul, Int.natCast_pow, show ((T.toNat : Nat) : Int) = T by omega]; rfl
    rw [eL] at h1'
    rw [eT] at h2'
    have hq : L ≤ signed s (m * 2 ^ i.toNat / 2 ^ K) 0 ∧ signed s (m * 2 ^ i.toNat / 2 ^ K) 0 < T := by
      unfold signed at h1' h2' ⊢
      rw [Nat.shiftLeft_eq] at h1' h2'
      rw [Nat.shiftLeft_zero]
      cases s
      · rw [if_neg (by decide)] at h1' h2' ⊢
        have a1 : L.toNat ≤ m * 2 ^ i.toNat / 2 ^ K := (Nat.le_div_iff_mul_le (Nat.two_pow_pos K)).2 (by omega)
        have a2 : m * 2 ^ i.toNat / 2 ^ K < T.toNat := (Nat.div_lt_iff_lt_mul (Nat.two_pow_pos K)).2 (by omega)
        generalize m * 2 ^ i.toNat / 2 ^ K = z at *
        omega
      · rw [if_pos rfl] at h1' h2' ⊢
        have hz : m * 2 ^ i.toNat = 0 := by omega
        rw [hz] at h2' ⊢
        have hLz : L.toNat * 2 ^ K = 0 := by omega
        have hL2 : L.toNat = 0 := by
          rcases Nat.mul_eq_zero.1 hLz with e | e
          · exact e
          · have := Nat.two_pow_pos K; omega
        have hT2 : T.toNat ≠ 0 := fun e => by rw [e, Nat.zero_mul] at h2'; omega
        rw [Nat.zero_div]
        omega
    generalize signed s (m * 2 ^ i.toNat / 2 ^ K) 0 = q at *
    refine ⟨q, ?_, hq.1, hq.2⟩
    simp only [e1, e2]
    rw [if_pos (by omega)]
theorem whB_parts {x : Nat} {L T : Int} (hL0 : 0 ≤ L) (hL : L < 9007199254740992) (hT0 : 0 ≤ T) (hT : T < 9007199254740992) (h : whB x L T = true) : ∃ q : Int, floatToIntVal .f64 x .i64 = some q ∧ (L ≤ q ∧ q < T) ∧ (FloatKind.f64.format.order (fb q) x == some .eq) = true ∧ geB x (fb L) = true ∧ ltB x (fb T) = true := by
  unfold whB at h
  rw [Bool.and_eq_true, Bool.and_eq_true] at h
  obtain ⟨⟨h1, h2⟩, h3⟩ := h
  obtain ⟨q, hq, hb⟩ := raw_mid x L T hL0 hL hT0 hT h1 h2
  rw [hq] at h3
  exact ⟨q, hq, hb, h3, h1, h2⟩
theorem fb256 : (4643211215818981376 : Nat) = fb 256 := by decide +kernel
theorem fb6400 : (4663758889118859264 : Nat) = fb 6400 := by decide +kernel
theorem fb512 : (4647714815446351872 : Nat) = fb 512 := by decide +kernel
end Go.Proofs.YtihaifnenjngpaaGreatDoor
