/-
  A quota of the program's, and one of the document's, in memory; pairs of numbers; new blocks may turn.
-/
import Derived.Test.YtnlaocokjilncaaRows
import Derived.Test.YtnlaocokjilncaaQuBase
import Derived.Test.YtnlaocokjilncaaSuCalls
import Derived.Test.YtnlaocokjilncaaSuRef
import Derived.Deep.RegionHeld
namespace Go.Proofs.Ytnlaocokjilncaa
open Go.RowKit

theorem set_cells {w : World} {B : Nat} {cs : Array Value} {T : TypeId} (k : Nat) (v : Value) (hh : w.heap[B]? = some (.cells cs T (0, 0))) : (w.setCell ⟨B, k, none⟩ v).heap[B]? = some (.cells (cs.setIfInBounds k v) T (0, 0)) := by
  simp [World.setCell, Array.getElem?_modify, hh]
theorem fr_cell (w : World) (B k : Nat) (v : Value) : Fr (fun i => i = B) w (w.setCell ⟨B, k, none⟩ v) := Fr.setCell (S := fun i => i = B) (p := ⟨B, k, none⟩) (Fr.refl _ _) rfl _
theorem Fr.wide {S : Nat → Prop} {w w' : World} (h : Fr (fun _ => False) w w') : Fr S w w' := h.mono fun _ _ e => e.elim
/-- The document's quota. -/
structure Rm (w : World) (R : Nat) (s : QS) : Prop where
  heap : w.heap[R]? = some (.cells #[.int .i64 s.lb, .int .i64 s.lp, .int .i64 s.cb, .int .i64 s.cp, .int .i64 s.rb, .int .i64 s.rp] 36 (0, 0))
  ok : s.Ok
section
variable {w w' : World} {R : Nat} {s : QS}
theorem Rm.lt (h : Rm w R s) : R < w.heap.size := (Array.getElem?_eq_some_iff.1 h.heap).1
theorem Rm.carry {S : Nat → Prop} (h : Rm w R s) (f : Fr S w w') (hn : ¬ S R) : Rm w' R s := ⟨by rw [f.block R h.lt hn]; exact h.heap, h.ok⟩
theorem Rm.kept (h : Rm w R s) (f : Fr (fun _ => False) w w') : Rm w' R s := h.carry f id
theorem Rm.alloc (h : Rm w R s) (o : Obj) : Rm (w.alloc o) R s := h.kept ((Fr.refl _ _).alloc o)
theorem Rm.c0 (h : Rm w R s) : w.cell? ⟨R, 0, none⟩ = some (.int .i64 s.lb) := by simp [World.cell?, h.heap]
theorem Rm.c1 (h : Rm w R s) : w.cell? ⟨R, 1, none⟩ = some (.int .i64 s.lp) := by simp [World.cell?, h.heap]
theorem Rm.c2 (h : Rm w R s) : w.cell? ⟨R, 2, none⟩ = some (.int .i64 s.cb) := by simp [World.cell?, h.heap]
theorem Rm.c3 (h : Rm w R s) : w.cell? ⟨R, 3, none⟩ = some (.int .i64 s.cp) := by simp [World.cell?, h.heap]
theorem Rm.c4 (h : Rm w R s) : w.cell? ⟨R, 4, none⟩ = some (.int .i64 s.rb) := by simp [World.cell?, h.heap]
theorem Rm.c5 (h : Rm w R s) : w.cell? ⟨R, 5, none⟩ = some (.int .i64 s.rp) := by simp [World.cell?, h.heap]
theorem Rm.put0 (h : Rm w R s) {x y : Int} (k : (⟨x, y, s.cb, s.cp, s.rb, s.rp⟩ : QS).Ok) : Rm ((w.setCell ⟨R, 0, none⟩ (.int .i64 x)).setCell ⟨R, 1, none⟩ (.int .i64 y)) R ⟨x, y, s.cb, s.cp, s.rb, s.rp⟩ := ⟨by rw [set_cells 1 _ (set_cells 0 _ h.heap)]; rfl, k⟩
theorem Rm.put2 (h : Rm w R s) {x y : Int} (k : (⟨s.lb, s.lp, x, y, s.rb, s.rp⟩ : QS).Ok) : Rm ((w.setCell ⟨R, 2, none⟩ (.int .i64 x)).setCell ⟨R, 3, none⟩ (.int .i64 y)) R ⟨s.lb, s.lp, x, y, s.rb, s.rp⟩ := ⟨by rw [set_cells 3 _ (set_cells 2 _ h.heap)]; rfl, k⟩
theorem Rm.put4 (h : Rm w R s) {x y : Int} (k : (⟨s.lb, s.lp, s.cb, s.cp, x, y⟩ : QS).Ok) : Rm ((w.setCell ⟨R, 4, none⟩ (.int .i64 x)).setCell ⟨R, 5, none⟩ (.int .i64 y)) R ⟨s.lb, s.lp, s.cb, s.cp, x, y⟩ := ⟨by rw [set_cells 5 _ (set_cells 4 _ h.heap)]; rfl, k⟩
theorem Rm.g (h : Rm w R s) (k : Nat) : w.frozen? ⟨R, k, none⟩ = false := by simp [World.frozen?, h.heap]
end
/-- In block B lie the numbers a and b. -/
structure At (w : World) (B : Nat) (a b : Int) : Prop where
  heap : w.heap[B]? = some (.cells #[.int .i64 a, .int .i64 b] 26 (0, 0))
section
variable {w w' : World} {B C : Nat} {a b c d : Int}
theorem At.new (w : World) (a b : Int) : At (w.alloc (.cells #[.int .i64 a, .int .i64 b] 26)) w.heap.size a b := ⟨heap_alloc_new w _⟩
theorem At.lt (h : At w B a b) : B < w.heap.size := (Array.getElem?_eq_some_iff.1 h.heap).1
theorem At.carry {S : Nat → Prop} (h : At w B a b) (f : Fr S w w') (hn : ¬ S B) : At w' B a b := ⟨by rw [f.block B h.lt hn]; exact h.heap⟩
theorem At.kept (h : At w B a b) (f : Fr (fun _ => False) w w') : At w' B a b := h.carry f id
theorem At.alloc (h : At w B a b) (o : Obj) : At (w.alloc o) B a b := h.kept ((Fr.refl _ _).alloc o)
theorem At.c0 (h : At w B a b) : w.cell? ⟨B, 0, none⟩ = some (.int .i64 a) := by simp [World.cell?, h.heap]
theorem At.c1 (h : At w B a b) : w.cell? ⟨B, 1, none⟩ = some (.int .i64 b) := by simp [World.cell?, h.heap]
theorem At.g (h : At w B a b) (k : Nat) : w.frozen? ⟨B, k, none⟩ = false := by simp [World.frozen?, h.heap]
end
/-- New blocks may turn. -/
def Nw (w0 w : World) : Prop := Fr (fun k => w0.heap.size ≤ k) w0 w
theorem Nw.start (w : World) : Nw w w := Fr.refl _ _
theorem Nw.on {S : Nat → Prop} {w0 w w' : World} (h : Nw w0 w) (f : Fr S w w') (hs : ∀ i, S i → w0.heap.size ≤ i) : Nw w0 w' := Fr.trans' h f fun i _ e => hs i e
theorem Nw.kept {w0 w w' : World} (h : Nw w0 w) (f : Fr (fun _ => False) w w') : Nw w0 w' := h.on f fun _ e => e.elim
theorem Nw.alloc {w0 w : World} (h : Nw w0 w) (o : Obj) : Nw w0 (w.alloc o) := Fr.alloc h o
theorem Nw.fr {w0 w : World} (h : Nw w0 w) : Fr (fun _ => False) w0 w := Fr.new h
theorem Nw.le {w0 w : World} (h : Nw w0 w) : w0.heap.size ≤ w.heap.size := h.size
end Go.Proofs.Ytnlaocokjilncaa
