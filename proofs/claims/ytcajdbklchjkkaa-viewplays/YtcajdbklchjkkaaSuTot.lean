/-
  Sums as the document has them: pairs of whole numbers. Nothing of the program is named here.
  What all of some sums come to, in whatever order: plain mathematics. Nothing of the program is named here.
-/
import Derived.Test.YtcajdbklchjkkaaSuBase
import Derived.Test.YtcajdbklchjkkaaBase
namespace Go.Proofs.Ytcajdbklchjkkaa
open Go.RowKit

/-- Both parts are right. -/
abbrev Rt (a b : Int) : Prop := 0 ≤ a ∧ a ≤ 1099511627776 ∧ 0 ≤ b ∧ b ≤ 1099511627776
/-- The parts and the error that come out, if a and b were to. -/
def okA (a b : Int) : Int := if Rt a b then a else 0
def okB (a b : Int) : Int := if Rt a b then b else 0
def okE (a b : Int) : Int := if Rt a b then 0 else 12
theorem ok_right {a b : Int} (h : Rt a b) : okA a b = a ∧ okB a b = b ∧ okE a b = 0 := by simp [okA, okB, okE, h]
theorem ok_wrong {a b : Int} (h : ¬ Rt a b) : okA a b = 0 ∧ okB a b = 0 ∧ okE a b = 12 := by simp [okA, okB, okE, h]
theorem ok_rt (a b : Int) : Rt (okA a b) (okB a b) := by
  by_cases h : Rt a b
  · rw [(ok_right h).1, (ok_right h).2.1]; exact h
  · rw [(ok_wrong h).1, (ok_wrong h).2.1]; exact ⟨by decide, by decide, by decide, by decide⟩
/-- So many times a part; below 0, if so many are none. -/
def tim (a n : Int) : Int := if 0 ≤ n ∧ n ≤ 1099511627776 then a * n else -1
theorem Rt.wa {a b : Int} (h : Rt a b) : Wh (fb a) a := Wh.of a (by unfold Rt at h; omega)
theorem Rt.wb {a b : Int} (h : Rt a b) : Wh (fb b) b := Wh.of b (by unfold Rt at h; omega)
theorem fb_top : (4787326403894837248 : Nat) = fb 1099511627776 := by decide +kernel

/-- Is a word's part one? As the law asks it. -/
def rawB (x : Nat) : Bool :=
  (FloatKind.f64.format.order x (fb 0) == some .gt || FloatKind.f64.format.order x (fb 0) == some .eq) && (FloatKind.f64.format.order x (fb 1099511627776) == some .lt || FloatKind.f64.format.order x (fb 1099511627776) == some .eq) && (match floatToIntVal .f64 x .i64 with | some q => FloatKind.f64.format.order (fb q) x == some .eq | none => false)

theorem frOf {w w' : World} (f : ∃ m, w' = w.drewN m) : Fr (fun _ => False) w w' := by
  obtain ⟨m, rfl⟩ := f
  exact (Fr.refl _ _).drewN m
/-- The last of 2 things that were laid, behind a call. -/
theorem laid2 {w w1 : World} {o1 : Obj} {x y : Value} {T : TypeId} (hf : Fr (fun _ => False) ((w.alloc o1).alloc (.cells #[x, y] T)) w1) :
    w1.cell? ⟨w.heap.size + 1, 0, none⟩ = some x ∧ w1.cell? ⟨w.heap.size + 1, 1, none⟩ = some y ∧ w1.frozen? ⟨w.heap.size + 1, 0, none⟩ = false ∧ w1.frozen? ⟨w.heap.size + 1, 1, none⟩ = false := by
  have hb := hf.block (w.heap.size + 1) (by simp) id
  have hn := heap_alloc_new (w.alloc o1) (.cells #[x, y] T)
  simp only [World.size_alloc] at hn
  rw [hn] at hb
  simp [World.cell?, World.frozen?, hb]
theorem over2 {w w1 : World} {o1 o : Obj} (hf : Fr (fun _ => False) ((w.alloc o1).alloc o) w1) (u v : Value) : Fr (fun _ => False) w ((w1.setCell ⟨w.heap.size + 1, 0, none⟩ u).setCell ⟨w.heap.size + 1, 1, none⟩ v) := by
  refine Fr.new ?_
  have f0 : Fr (fun k => w.heap.size ≤ k) w ((w.alloc o1).alloc o) := ((Fr.refl _ _).alloc _).alloc _
  have f1 := f0.trans' hf (fun i _ h => h.elim)
  exact (f1.setCell (p := ⟨w.heap.size + 1, 0, none⟩) (by show w.heap.size ≤ w.heap.size + 1; omega) u).setCell (p := ⟨w.heap.size + 1, 1, none⟩) (by show w.heap.size ≤ w.heap.size + 1; omega) v
/-- The last of 3 things that were laid, behind a call. -/
theorem laid3 {w w1 : World} {o1 o2 : Obj} {x y : Value} {T : TypeId} (hf : Fr (fun _ => False) (((w.alloc o1).alloc o2).alloc (.cells #[x, y] T)) w1) :
    w1.cell? ⟨w.heap.size + 1 + 1, 0, none⟩ = some x ∧ w1.cell? ⟨w.heap.size + 1 + 1, 1, none⟩ = some y ∧ w1.frozen? ⟨w.heap.size + 1 + 1, 0, none⟩ = false ∧ w1.frozen? ⟨w.heap.size + 1 + 1, 1, none⟩ = false := by
  have hb := hf.block (w.heap.size + 1 + 1) (by simp) id
  have hn := heap_alloc_new ((w.alloc o1).alloc o2) (.cells #[x, y] T)
  simp only [World.size_alloc] at hn
  rw [hn] at hb
  simp [World.cell?, World.frozen?, hb]
theorem over3 {w w1 : World} {o1 o2 o : Obj} (hf : Fr (fun _ => False) (((w.alloc o1).alloc o2).alloc o) w1) (u v : Value) : Fr (fun _ => False) w ((w1.setCell ⟨w.heap.size + 1 + 1, 0, none⟩ u).setCell ⟨w.heap.size + 1 + 1, 1, none⟩ v) := by
  refine Fr.new ?_
  have f0 : Fr (fun k => w.heap.size ≤ k) w (((w.alloc o1).alloc o2).alloc o) := (((Fr.refl _ _).alloc _).alloc _).alloc _
  have f1 := f0.trans' hf (fun i _ h => h.elim)
  exact (f1.setCell (p := ⟨w.heap.size + 1 + 1, 0, none⟩) (by show w.heap.size ≤ w.heap.size + 1 + 1; omega) u).setCell (p := ⟨w.heap.size + 1 + 1, 1, none⟩) (by show w.heap.size ≤ w.heap.size + 1 + 1; omega) v

/-- In block B lie the numbers a and b, laid as a T. -/
structure Pr (T : TypeId) (w : World) (B : Nat) (a b : Int) : Prop where
  heap : w.heap[B]? = some (.cells #[.int .i64 a, .int .i64 b] T (0, 0))
section
variable {T : TypeId} {w w' : World} {B : Nat} {a b : Int}
theorem Pr.new (T : TypeId) (w : World) (a b : Int) : Pr T (w.alloc (.cells #[.int .i64 a, .int .i64 b] T)) w.heap.size a b := ⟨heap_alloc_new w _⟩
theorem Pr.lt (h : Pr T w B a b) : B < w.heap.size := (Array.getElem?_eq_some_iff.1 h.heap).1
theorem Pr.carry (h : Pr T w B a b) (f : Fr (fun _ => False) w w') : Pr T w' B a b := ⟨by rw [f.block B h.lt id]; exact h.heap⟩
theorem Pr.alloc (h : Pr T w B a b) (o : Obj) : Pr T (w.alloc o) B a b := h.carry ((Fr.refl _ _).alloc o)
theorem Pr.c0 (h : Pr T w B a b) : w.cell? ⟨B, 0, none⟩ = some (.int .i64 a) := by simp [World.cell?, h.heap]
theorem Pr.c1 (h : Pr T w B a b) : w.cell? ⟨B, 1, none⟩ = some (.int .i64 b) := by simp [World.cell?, h.heap]
end
theorem boxes2 {T : TypeId} {w w1 : World} {a b c d : Int} (hf : Fr (fun _ => False) ((w.alloc (.cells #[.int .i64 a, .int .i64 b] T)).alloc (.cells #[.int .i64 c, .int .i64 d] T)) w1) :
    Pr T w1 w.heap.size a b ∧ Pr T w1 (w.heap.size + 1) c d ∧ Fr (fun _ => False) w w1 := by
  refine ⟨((Pr.new T w a b).alloc _).carry hf, ?_, ((((Fr.refl _ _).alloc _).alloc _).trans hf)⟩
  have := (Pr.new T (w.alloc (.cells #[.int .i64 a, .int .i64 b] T)) c d).carry hf
  simpa using this
theorem boxes3 {T : TypeId} {w w1 : World} {a b c d f g : Int} (hf : Fr (fun _ => False) (((w.alloc (.cells #[.int .i64 a, .int .i64 b] T)).alloc (.cells #[.int .i64 c, .int .i64 d] T)).alloc (.cells #[.int .i64 f, .int .i64 g] T)) w1) :
    Pr T w1 w.heap.size a b ∧ Pr T w1 (w.heap.size + 1) c d ∧ Pr T w1 (w.heap.size + 1 + 1) f g ∧ Fr (fun _ => False) w w1 := by
  obtain ⟨h1, h2, h3⟩ := boxes2 (((Fr.refl _ _).alloc (.cells #[.int .i64 f, .int .i64 g] T)).trans hf)
  refine ⟨h1, h2, ?_, h3⟩
  have := (Pr.new T ((w.alloc (.cells #[.int .i64 a, .int .i64 b] T)).alloc (.cells #[.int .i64 c, .int .i64 d] T)) f g).carry hf
  simpa using this
end Go.Proofs.Ytcajdbklchjkkaa

namespace Go.Proofs.Ytcajdbklchjkkaa

/-- From a, b on: bytes, pages and error when all of the list have been added, one by one, from the front. -/
def tot : Int → Int → List (Int × Int) → Int × Int × Int
  | a, b, [] => (a, b, 0)
  | a, b, p :: l => if Rt (a + p.1) (b + p.2) then tot (a + p.1) (b + p.2) l else (0, 0, 12)
def sA : List (Int × Int) → Int
  | [] => 0
  | p :: l => p.1 + sA l
def sB : List (Int × Int) → Int
  | [] => 0
  | p :: l => p.2 + sB l
def AllRt (l : List (Int × Int)) : Prop := ∀ p ∈ l, Rt p.1 p.2
theorem s_nonneg : ∀ {l : List (Int × Int)}, AllRt l → 0 ≤ sA l ∧ 0 ≤ sB l
  | [], _ => ⟨Int.le_refl _, Int.le_refl _⟩
  | p :: l, h => by
    have h1 := h p (by simp)
    have h2 := s_nonneg (l := l) fun q hq => h q (by simp [hq])
    unfold Rt at h1
    simp only [sA, sB]
    omega
theorem tot_sum : ∀ {l : List (Int × Int)} {a b : Int}, Rt a b → AllRt l → tot a b l = (okA (a + sA l) (b + sB l), okB (a + sA l) (b + sB l), okE (a + sA l) (b + sB l))
  | [], a, b, h, _ => by
    simp only [tot, sA, sB, Int.add_zero]
    rw [(ok_right h).1, (ok_right h).2.1, (ok_right h).2.2]
  | p :: l, a, b, h, hl => by
    have h2 : AllRt l := fun q hq => hl q (by simp [hq])
    have h3 := s_nonneg h2
    have h1 := hl p (by simp)
    simp only [tot, sA, sB]
    by_cases k : Rt (a + p.1) (b + p.2)
    · rw [if_pos k, tot_sum k h2, show a + (p.1 + sA l) = a + p.1 + sA l by omega, show b + (p.2 + sB l) = b + p.2 + sB l by omega]
    · rw [if_neg k]
      have k2 : ¬ Rt (a + (p.1 + sA l)) (b + (p.2 + sB l)) := by unfold Rt at *; omega
      rw [(ok_wrong k2).1, (ok_wrong k2).2.1, (ok_wrong k2).2.2]
theorem sA_append : ∀ l m : List (Int × Int), sA (l ++ m) = sA l + sA m
  | [], m => by simp [sA]
  | p :: l, m => by simp only [List.cons_append, sA, sA_append l m]; omega
theorem sB_append : ∀ l m : List (Int × Int), sB (l ++ m) = sB l + sB m
  | [], m => by simp [sB]
  | p :: l, m => by simp only [List.cons_append, sB, sB_append l m]; omega
theorem s_reverse : ∀ l : List (Int × Int), sA l.reverse = sA l ∧ sB l.reverse = sB l
  | [] => ⟨rfl, rfl⟩
  | p :: l => by
    obtain ⟨h1, h2⟩ := s_reverse l
    rw [List.reverse_cons, sA_append, sB_append, h1, h2]
    simp only [sA, sB]
    omega
theorem allRt_reverse {l : List (Int × Int)} (h : AllRt l) : AllRt l.reverse := fun p hp => h p (by simpa using hp)
theorem rt_zero : Rt 0 0 := by decide
/-- The same in the other order. -/
theorem tot_reverse {l : List (Int × Int)} (h : AllRt l) : tot 0 0 l.reverse = tot 0 0 l := by
  rw [tot_sum rt_zero h, tot_sum rt_zero (allRt_reverse h), (s_reverse l).1, (s_reverse l).2]
/-- One more. -/
theorem tot_more {l : List (Int × Int)} {p : Int × Int} (h : AllRt l) (hp : Rt p.1 p.2) :
    tot 0 0 (l ++ [p]) = if (tot 0 0 l).2.2 = 0 then (okA ((tot 0 0 l).1 + p.1) ((tot 0 0 l).2.1 + p.2), okB ((tot 0 0 l).1 + p.1) ((tot 0 0 l).2.1 + p.2), okE ((tot 0 0 l).1 + p.1) ((tot 0 0 l).2.1 + p.2)) else tot 0 0 l := by
  have h2 : AllRt (l ++ [p]) := fun q hq => by
    rcases List.mem_append.1 hq with hq | hq
    · exact h q hq
    · simp at hq; subst hq; exact hp
  rw [tot_sum rt_zero h2, tot_sum rt_zero h, sA_append, sB_append]
  simp only [sA, sB, Int.add_zero, Int.zero_add]
  have h3 := s_nonneg h
  by_cases k : Rt (sA l) (sB l)
  · obtain ⟨e1, e2, e3⟩ := ok_right k
    rw [e1, e2, e3, if_pos rfl]
  · obtain ⟨e1, e2, e3⟩ := ok_wrong k
    have k2 : ¬ Rt (sA l + p.1) (sB l + p.2) := by unfold Rt at *; omega
    rw [e1, e2, e3, (ok_wrong k2).1, (ok_wrong k2).2.1, (ok_wrong k2).2.2, if_neg (by decide)]
theorem tot_rt {l : List (Int × Int)} (h : AllRt l) : Rt (tot 0 0 l).1 (tot 0 0 l).2.1 := by
  rw [tot_sum rt_zero h]; exact ok_rt _ _

/-- A word that reads as a whole number is a part just if the number is one. -/
theorem rawB_wh {x : Nat} {n : Int} (h : Wh x n) : rawB x = decide (0 ≤ n ∧ n ≤ 1099511627776) := by
  have e0 := h.order (Wh.of 0 (by decide))
  have e1 := h.order (Wh.of 1099511627776 (by decide))
  have g := cmp_ge n 0
  have l := cmp_le n 1099511627776
  unfold rawB
  rw [e0, e1]
  simp only [Option.some_beq_some]
  rw [g, l]
  by_cases h0 : 0 ≤ n
  · by_cases h1 : n ≤ 1099511627776
    · have e2 := (Wh.of n (by omega)).order h
      have e3 : compare n n = Ordering.eq := by simp
      rw [h.int (by omega) (by omega)]
      simp only [e2, e3]
      simp [h0, h1]
    · simp [h1]
  · simp [h0]
end Go.Proofs.Ytcajdbklchjkkaa
