/-
  Sums as the document has them: pairs of whole numbers. Nothing of the program is named here.
-/
import Derived.Test.YtcajdbklchjkkaaSuBase
import Derived.Test.YtcajdbklchjkkaaBase
namespace Go.Proofs.Ytcajdbklchjkkaa
open Go.RowKit

/-- Both parts are right. -/
abbrev Rt (a b : Int) : Prop := 0 ≤ a ∧ a ≤ 1099511627776 ∧ 0 ≤ b ∧ b ≤ 1099511627776
/-- The parts and the error that come out, if a and b were to. -/
def okA (a b : Int) : Int := if Rt a b then a else 0
def okB (a b : Int) : Int := if Rt a b then b else 0
def okE (a b : Int) : Int := if Rt a b then 0 else 12
theorem ok_right {a b : Int} (h : Rt a b) : okA a b = a ∧ okB a b = b ∧ okE a b = 0 := by simp [okA, okB, okE, h]
theorem ok_wrong {a b : Int} (h : ¬ Rt a b) : okA a b = 0 ∧ okB a b = 0 ∧ okE a b = 12 := by simp [okA, okB, okE, h]
theorem ok_rt (a b : Int) : Rt (okA a b) (okB a b) := by
  by_cases h : Rt a b
  · rw [(ok_right h).1, (ok_right h).2.1]; exact h
  · rw [(ok_wrong h).1, (ok_wrong h).2.1]; exact ⟨by decide, by decide, by decide, by decide⟩
/-- So many times a part; below 0, if so many are none. -/
def tim (a n : Int) : Int := if 0 ≤ n ∧ n ≤ 1099511627776 then a * n else -1
theorem Rt.wa {a b : Int} (h : Rt a b) : Wh (fb a) a := Wh.of a (by unfold Rt at h; omega)
theorem Rt.wb {a b : Int} (h : Rt a b) : Wh (fb b) b := Wh.of b (by unfold Rt at h; omega)
theorem fb_top : (4787326403894837248 : Nat) = fb 1099511627776 := by decide +kernel

/-- Is a word's part one? As the law asks it. -/
def rawB (x : Nat) : Bool :=
  (FloatKind.f64.format.order x (fb 0) == some .gt || FloatKind.f64.format.order x (fb 0) == some .eq) && (FloatKind.f64.format.order x (fb 1099511627776) == some .lt || FloatKind.f64.format.order x (fb 1099511627776) == some .eq) && (match floatToIntVal .f64 x .i64 with | some q => FloatKind.f64.format.order (fb q) x == some .eq | none => false)

theorem frOf {w w' : World} (f : ∃ m, w' = w.drewN m) : Fr (fun _ => False) w w' := by
  obtain ⟨m, rfl⟩ := f
  exact (Fr.refl _ _).drewN m
/-- The last of 2 things that were laid, behind a call. -/
theorem laid2 {w w1 : World} {o1 : Obj} {x y : Value} {T : TypeId} (hf : Fr (fun _ => False) ((w.alloc o1).alloc (.cells #[x, y] T)) w1) :
    w1.cell? ⟨w.heap.size + 1, 0, none⟩ = some x ∧ w1.cell? ⟨w.heap.size + 1, 1, none⟩ = some y ∧ w1.frozen? ⟨w.heap.size + 1, 0, none⟩ = false ∧ w1.frozen? ⟨w.heap.size + 1, 1, none⟩ = false := by
  have hb := hf.block (w.heap.size + 1) (by simp) id
  have hn := heap_alloc_new (w.alloc o1) (.cells #[x, y] T)
  simp only [World.size_alloc] at hn
  rw [hn] at hb
  simp [World.cell?, World.frozen?, hb]
theorem over2 {w w1 : World} {o1 o : Obj} (hf : Fr (fun _ => False) ((w.alloc o1).alloc o) w1) (u v : Value) : Fr (fun _ => False) w ((w1.setCell ⟨w.heap.size + 1, 0, none⟩ u).setCell ⟨w.heap.size + 1, 1, none⟩ v) := by
  refine Fr.new ?_
  have f0 : Fr (fun k => w.heap.size ≤ k) w ((w.alloc o1).alloc o) := ((Fr.refl _ _).alloc _).alloc _
  have f1 := f0.trans' hf (fun i _ h => h.elim)
  exact (f1.setCell (p := ⟨w.heap.size + 1, 0, none⟩) (by show w.heap.size ≤ w.heap.size + 1; omega) u).setCell (p := ⟨w.heap.size + 1, 1, none⟩) (by show w.heap.size ≤ w.heap.size + 1; omega) v
/-- The last of 3 things that were laid, behind a call. -/
theorem laid3 {w w1 : World} {o1 o2 : Obj} {x y : Value} {T : TypeId} (hf : Fr (fun _ => False) (((w.alloc o1).alloc o2).alloc (.cells #[x, y] T)) w1) :
    w1.cell? ⟨w.heap.size + 1 + 1, 0, none⟩ = some x ∧ w1.cell? ⟨w.heap.size + 1 + 1, 1, none⟩ = some y ∧ w1.frozen? ⟨w.heap.size + 1 + 1, 0, none⟩ = false ∧ w1.frozen? ⟨w.heap.size + 1 + 1, 1, none⟩ = false := by
  have hb := hf.block (w.heap.size + 1 + 1) (by simp) id
  have hn := heap_alloc_new ((w.alloc o1).alloc o2) (.cells #[x, y] T)
  simp only [World.size_alloc] at hn
  rw [hn] at hb
  simp [World.cell?, World.frozen?, hb]
theorem over3 {w w1 : World} {o1 o2 o : Obj} (hf : Fr (fun _ => False) (((w.alloc o1).alloc o2).alloc o) w1) (u v : Value) : Fr (fun _ => False) w ((w1.setCell ⟨w.heap.size + 1 + 1, 0, none⟩ u).setCell ⟨w.heap.size + 1 + 1, 1, none⟩ v) := by
  refine Fr.new ?_
  have f0 : Fr (fun k => w.heap.size ≤ k) w (((w.alloc o1).alloc o2).alloc o) := (((Fr.refl _ _).alloc _).alloc _).alloc _
  have f1 := f0.trans' hf (fun i _ h => h.elim)
  exact (f1.setCell (p := ⟨w.heap.size + 1 + 1, 0, none⟩) (by show w.heap.size ≤ w.heap.size + 1 + 1; omega) u).setCell (p := ⟨w.heap.size + 1 + 1, 1, none⟩) (by show w.heap.size ≤ w.heap.size + 1 + 1; omega) v

/-- In block B lie the numbers a and b, laid as a T. -/
structure Pr (T : TypeId) (w : World) (B : Nat) (a b : Int) : Prop where
  heap : w.heap[B]? = some (.cells #[.int .i64 a, .int .i64 b] T (0, 0))
section
variable {T : TypeId} {w w' : World} {B : Nat} {a b : Int}
theorem Pr.new (T : TypeId) (w : World) (a b : Int) : Pr T (w.alloc (.cells #[.int .i64 a, .int .i64 b] T)) w.heap.size a b := ⟨heap_alloc_new w _⟩
theorem Pr.lt (h : Pr T w B a b) : B < w.heap.size := (Array.getElem?_eq_some_iff.1 h.heap).1
theorem Pr.carry (h : Pr T w B a b) (f : Fr (fun _ => False) w w') : Pr T w' B a b := ⟨by rw [f.block B h.lt id]; exact h.heap⟩
theorem Pr.alloc (h : Pr T w B a b) (o : Obj) : Pr T (w.alloc o) B a b := h.carry ((Fr.refl _ _).alloc o)
theorem Pr.c0 (h : Pr T w B a b) : w.cell? ⟨B, 0, none⟩ = some (.int .i64 a) := by simp [World.cell?, h.heap]
theorem Pr.c1 (h : Pr T w B a b) : w.cell? ⟨B, 1, none⟩ = some (.int .i64 b) := by simp [World.cell?, h.heap]
end
theorem boxes2 {T : TypeId} {w w1 : World} {a b c d : Int} (hf : Fr (fun _ => False) ((w.alloc (.cells #[.int .i64 a, .int .i64 b] T)).alloc (.cells #[.int .i64 c, .int .i64 d] T)) w1) :
    Pr T w1 w.heap.size a b ∧ Pr T w1 (w.heap.size + 1) c d ∧ Fr (fun _ => False) w w1 := by
  refine ⟨((Pr.new T w a b).alloc _).carry hf, ?_, ((((Fr.refl _ _).alloc _).alloc _).trans hf)⟩
  have := (Pr.new T (w.alloc (.cells #[.int .i64 a, .int .i64 b] T)) c d).carry hf
  simpa using this
theorem boxes3 {T : TypeId} {w w1 : World} {a b c d f g : Int} (hf : Fr (fun _ => False) (((w.alloc (.cells #[.int .i64 a, .int .i64 b] T)).alloc (.cells #[.int .i64 c, .int .i64 d] T)).alloc (.cells #[.int .i64 f, .int .i64 g] T)) w1) :
    Pr T w1 w.heap.size a b ∧ Pr T w1 (w.heap.size + 1) c d ∧ Pr T w1 (w.heap.size + 1 + 1) f g ∧ Fr (fun _ => False) w w1 := by
  obtain ⟨h1, h2, h3⟩ := boxes2 (((Fr.refl _ _).alloc (.cells #[.int .i64 f, .int .i64 g] T)).trans hf)
  refine ⟨h1, h2, ?_, h3⟩
  have := (Pr.new T ((w.alloc (.cells #[.int .i64 a, .int .i64 b] T)).alloc (.cells #[.int .i64 c, .int .i64 d] T)) f g).carry hf
  simpa using this
end Go.Proofs.Ytcajdbklchjkkaa
