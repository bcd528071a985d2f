/-
  Pairs of numbers that a call has laid in memory; every call as one that turns nothing old.
-/
import Derived.Test.YtcocdbekahokaaaSuAwake
import Derived.Test.YtcocdbekahokaaaSuRefT
namespace Go.Proofs.Ytcocdbekahokaaa
open Go.RowKit

/-- In block B lie the numbers a and b. -/
structure At (w : World) (B : Nat) (a b : Int) : Prop where
  heap : w.heap[B]? = some (.cells #[.int .i64 a, .int .i64 b] 28 (0, 0))
section
variable {w w' : World} {B C : Nat} {a b c d : Int}
theorem At.new (w : World) (a b : Int) : At (w.alloc (.cells #[.int .i64 a, .int .i64 b] 28)) w.heap.size a b := ⟨heap_alloc_new w _⟩
theorem At.lt (h : At w B a b) : B < w.heap.size := (Array.getElem?_eq_some_iff.1 h.heap).1
theorem At.carry (h : At w B a b) (f : Fr (fun _ => False) w w') : At w' B a b := ⟨by rw [f.block B h.lt id]; exact h.heap⟩
theorem At.alloc (h : At w B a b) (o : Obj) : At (w.alloc o) B a b := h.carry ((Fr.refl _ _).alloc o)
theorem At.c0 (h : At w B a b) : w.cell? ⟨B, 0, none⟩ = some (.int .i64 a) := by simp [World.cell?, h.heap]
theorem At.c1 (h : At w B a b) : w.cell? ⟨B, 1, none⟩ = some (.int .i64 b) := by simp [World.cell?, h.heap]
theorem At.g0 (h : At w B a b) : w.frozen? ⟨B, 0, none⟩ = false := by simp [World.frozen?, h.heap]
theorem At.g1 (h : At w B a b) : w.frozen? ⟨B, 1, none⟩ = false := by simp [World.frozen?, h.heap]
theorem At.aside (h : At w C c d) (hne : C ≠ B) (u v : Value) : At ((w.setCell ⟨B, 0, none⟩ u).setCell ⟨B, 1, none⟩ v) C c d :=
  ⟨by rw [Below.heap_setCell _ _ _ C hne, Below.heap_setCell _ _ _ C hne]; exact h.heap⟩
theorem At.put (h : At w B a b) (x y : Int) : At ((w.setCell ⟨B, 0, none⟩ (.int .i64 x)).setCell ⟨B, 1, none⟩ (.int .i64 y)) B x y := by
  have e : ∀ (w : World) (cs : Array Value) (T : TypeId) (k : Nat) (v : Value), w.heap[B]? = some (.cells cs T (0, 0)) → (w.setCell ⟨B, k, none⟩ v).heap[B]? = some (.cells (cs.setIfInBounds k v) T (0, 0)) := fun w cs T k v hh => by
    simp [World.setCell, Array.getElem?_modify, hh]
  exact ⟨by rw [e _ _ _ _ _ (e _ _ _ _ _ h.heap)]; rfl⟩
end
/-- New blocks may turn. -/
def Nw (w0 w : World) : Prop := Fr (fun k => w0.heap.size ≤ k) w0 w
theorem Nw.start (w : World) : Nw w w := Fr.refl _ _
theorem Nw.on {w0 w w' : World} (h : Nw w0 w) (f : Fr (fun _ => False) w w') : Nw w0 w' := Fr.trans' h f fun _ _ e => e.elim
theorem Nw.alloc {w0 w : World} (h : Nw w0 w) (o : Obj) : Nw w0 (w.alloc o) := Fr.alloc h o
theorem Nw.put {w0 w : World} {B : Nat} (h : Nw w0 w) (hB : w0.heap.size ≤ B) (u v : Value) : Nw w0 ((w.setCell ⟨B, 0, none⟩ u).setCell ⟨B, 1, none⟩ v) :=
  Fr.setCell (p := ⟨B, 1, none⟩) (Fr.setCell (p := ⟨B, 0, none⟩) h hB u) hB v
theorem Nw.fr {w0 w : World} (h : Nw w0 w) : Fr (fun _ => False) w0 w := Fr.new h
theorem Nw.le {w0 w : World} (h : Nw w0 w) : w0.heap.size ≤ w.heap.size := h.size

theorem same_true {w0 : World} {a b : Int} (h : Rt a b) (z : Int) {w : World} (k : K w0 w) :
    Calls Try.prog 12 #[.complex .f64 (fb a) (fb b), .int .i64 z, .agg #[.int .i64 a, .int .i64 b], .int .i64 z] w fun e w' => e = .returned (.bool true) ∧ K w0 w' := by
  have HK := hid k
  have H1 : Hid (∀ w, Calls Try.prog 22 #[.complex .f64 (fb a) (fb b)] w fun e w' => e = .returned (.bool true) ∧ ∃ m, w' = w.drewN m) := fun w => s_right h w
  have H2 : Hid (∀ w, Calls Try.prog 23 #[.complex .f64 (fb a) (fb b)] w fun e w' => e = .returned (.int .i64 a) ∧ ∃ m, w' = w.drewN m) := fun w => s_bytes h w
  have H3 : Hid (∀ w, Calls Try.prog 24 #[.complex .f64 (fb a) (fb b)] w fun e w' => e = .returned (.int .i64 b) ∧ ∃ m, w' = w.drewN m) := fun w => s_pages h w
  clear k h
  generalize fb a = x at *
  generalize fb b = y at *
  go_enter Try.func12, Try.ntmps12
  go_wp2_with fail
  go_quiet (first | (go_at_call 22; refine Calls.quiet_of (H1.out _)) | (go_at_call 23; refine Calls.quiet_of (H2.out _)) | (go_at_call 24; refine Calls.quiet_of (H3.out _)))
  go_wp2
  go_ret
  exact ⟨by simp, HK.out.on (((Fr.refl _ _).alloc _).drewN _)⟩
theorem f_same {a b : Int} (h : Rt a b) (z : Int) (w : World) : Calls Try.prog 12 #[.complex .f64 (fb a) (fb b), .int .i64 z, .agg #[.int .i64 a, .int .i64 b], .int .i64 z] w fun e w' => e = .returned (.bool true) ∧ Fr (fun _ => False) w w' := (same_true h z (K.start w)).mono fun _ _ ⟨h, k⟩ => ⟨h, k.fr⟩
end Go.Proofs.Ytcocdbekahokaaa
