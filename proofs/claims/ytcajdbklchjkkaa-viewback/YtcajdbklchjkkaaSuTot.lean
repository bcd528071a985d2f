/-
  What all of some sums come to, in whatever order: plain mathematics. Nothing of the program is named here.
-/
import Derived.Test.YtcajdbklchjkkaaSuSpec
namespace Go.Proofs.Ytcajdbklchjkkaa

/-- From a, b on: bytes, pages and error when all of the list have been added, one by one, from the front. -/
def tot : Int → Int → List (Int × Int) → Int × Int × Int
  | a, b, [] => (a, b, 0)
  | a, b, p :: l => if Rt (a + p.1) (b + p.2) then tot (a + p.1) (b + p.2) l else (0, 0, 12)
def sA : List (Int × Int) → Int
  | [] => 0
  | p :: l => p.1 + sA l
def sB : List (Int × Int) → Int
  | [] => 0
  | p :: l => p.2 + sB l
def AllRt (l : List (Int × Int)) : Prop := ∀ p ∈ l, Rt p.1 p.2
theorem s_nonneg : ∀ {l : List (Int × Int)}, AllRt l → 0 ≤ sA l ∧ 0 ≤ sB l
  | [], _ => ⟨Int.le_refl _, Int.le_refl _⟩
  | p :: l, h => by
    have h1 := h p (by simp)
    have h2 := s_nonneg (l := l) fun q hq => h q (by simp [hq])
    unfold Rt at h1
    simp only [sA, sB]
    omega
theorem tot_sum : ∀ {l : List (Int × Int)} {a b : Int}, Rt a b → AllRt l → tot a b l = (okA (a + sA l) (b + sB l), okB (a + sA l) (b + sB l), okE (a + sA l) (b + sB l))
  | [], a, b, h, _ => by
    simp only [tot, sA, sB, Int.add_zero]
    rw [(ok_right h).1, (ok_right h).2.1, (ok_right h).2.2]
  | p :: l, a, b, h, hl => by
    have h2 : AllRt l := fun q hq => hl q (by simp [hq])
    have h3 := s_nonneg h2
    have h1 := hl p (by simp)
    simp only [tot, sA, sB]
    by_cases k : Rt (a + p.1) (b + p.2)
    · rw [if_pos k, tot_sum k h2, show a + (p.1 + sA l) = a + p.1 + sA l by omega, show b + (p.2 + sB l) = b + p.2 + sB l by omega]
    · rw [if_neg k]
      have k2 : ¬ Rt (a + (p.1 + sA l)) (b + (p.2 + sB l)) := by unfold Rt at *; omega
      rw [(ok_wrong k2).1, (ok_wrong k2).2.1, (ok_wrong k2).2.2]
theorem sA_append : ∀ l m : List (Int × Int), sA (l ++ m) = sA l + sA m
  | [], m => by simp [sA]
  | p :: l, m => by simp only [List.cons_append, sA, sA_append l m]; omega
theorem sB_append : ∀ l m : List (Int × Int), sB (l ++ m) = sB l + sB m
  | [], m => by simp [sB]
  | p :: l, m => by simp only [List.cons_append, sB, sB_append l m]; omega
theorem s_reverse : ∀ l : List (Int × Int), sA l.reverse = sA l ∧ sB l.reverse = sB l
  | [] => ⟨rfl, rfl⟩
  | p :: l => by
    obtain ⟨h1, h2⟩ := s_reverse l
    rw [List.reverse_cons, sA_append, sB_append, h1, h2]
    simp only [sA, sB]
    omega
theorem allRt_reverse {l : List (Int × Int)} (h : AllRt l) : AllRt l.reverse := fun p hp => h p (by simpa using hp)
theorem rt_zero : Rt 0 0 := by decide
/-- The same in the other order. -/
theorem tot_reverse {l : List (Int × Int)} (h : AllRt l) : tot 0 0 l.reverse = tot 0 0 l := by
  rw [tot_sum rt_zero h, tot_sum rt_zero (allRt_reverse h), (s_reverse l).1, (s_reverse l).2]
/-- One more. -/
theorem tot_more {l : List (Int × Int)} {p : Int × Int} (h : AllRt l) (hp : Rt p.1 p.2) :
    tot 0 0 (l ++ [p]) = if (tot 0 0 l).2.2 = 0 then (okA ((tot 0 0 l).1 + p.1) ((tot 0 0 l).2.1 + p.2), okB ((tot 0 0 l).1 + p.1) ((tot 0 0 l).2.1 + p.2), okE ((tot 0 0 l).1 + p.1) ((tot 0 0 l).2.1 + p.2)) else tot 0 0 l := by
  have h2 : AllRt (l ++ [p]) := fun q hq => by
    rcases List.mem_append.1 hq with hq | hq
    · exact h q hq
    · simp at hq; subst hq; exact hp
  rw [tot_sum rt_zero h2, tot_sum rt_zero h, sA_append, sB_append]
  simp only [sA, sB, Int.add_zero, Int.zero_add]
  have h3 := s_nonneg h
  by_cases k : Rt (sA l) (sB l)
  · obtain ⟨e1, e2, e3⟩ := ok_right k
    rw [e1, e2, e3, if_pos rfl]
  · obtain ⟨e1, e2, e3⟩ := ok_wrong k
    have k2 : ¬ Rt (sA l + p.1) (sB l + p.2) := by unfold Rt at *; omega
    rw [e1, e2, e3, (ok_wrong k2).1, (ok_wrong k2).2.1, (ok_wrong k2).2.2, if_neg (by decide)]
theorem tot_rt {l : List (Int × Int)} (h : AllRt l) : Rt (tot 0 0 l).1 (tot 0 0 l).2.1 := by
  rw [tot_sum rt_zero h]; exact ok_rt _ _

/-- A word that reads as a whole number is a part just if the number is one. -/
theorem rawB_wh {x : Nat} {n : Int} (h : Wh x n) : rawB x = decide (0 ≤ n ∧ n ≤ 1099511627776) := by
  have e0 := h.order (Wh.of 0 (by decide))
  have e1 := h.order (Wh.of 1099511627776 (by decide))
  have g := cmp_ge n 0
  have l := cmp_le n 1099511627776
  unfold rawB
  rw [e0, e1]
  simp only [Option.some_beq_some]
  rw [g, l]
  by_cases h0 : 0 ≤ n
  · by_cases h1 : n ≤ 1099511627776
    · have e2 := (Wh.of n (by omega)).order h
      have e3 : compare n n = Ordering.eq := by simp
      rw [h.int (by omega) (by omega)]
      simp only [e2, e3]
      simp [h0, h1]
    · simp [h1]
  · simp [h0]
end Go.Proofs.Ytcajdbklchjkkaa
