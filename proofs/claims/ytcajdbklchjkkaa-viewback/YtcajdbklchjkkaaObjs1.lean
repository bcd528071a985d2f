/-
  More of things side by side: a block of the call's own among them, one thing and a block beside it. Nothing of the program is named here.
-/
import Derived.Test.YtcajdbklchjkkaaObjs
import Derived.Deep.RegionHeld3
namespace Go.Proofs.Ytcajdbklchjkkaa
open Go.RowKit

/-- In the middle of a region one may go on with a condition that says more. -/
theorem held_switch {P : Program} {md : Region.Mode} {ops : Array Oper} {Q : Exit → Act → World → Prop} {S S2 : World → Prop} (hs : ∀ w, S2 w → S w) : ∀ (fuel : Nat) (listed : Array Bool) (a : Act) (w : World), wpAnyH P md ops Q S2 fuel listed a w → wpAnyH P md ops Q S fuel listed a w
  | 0, _, _, _, h => h
  | fuel + 1, _, _, _, h => ⟨h.1, fun i hi => wpOp_mono (fun a' w' h' => ⟨hs w' h'.1, held_switch hs fuel _ a' w' h'.2⟩) (h.2 i hi)⟩
/-- One thing, and a block beside it. -/
def Also (X : World → (Nat → Prop) → Prop) (B : Nat) (ob : Obj) (w : World) (Z : Nat → Prop) : Prop := X w Z ∧ Blk B ob w Z
theorem Also.good {X : World → (Nat → Prop) → Prop} (h : Good X) (B : Nat) (ob : Obj) : Good (Also X B ob) :=
  ⟨fun k f hs => ⟨h.carry k.1 f hs, (Blk.good B ob).carry k.2 f hs⟩, fun k h1 h2 => ⟨h.mono k.1 h1 h2, (Blk.good B ob).mono k.2 h1 h2⟩⟩
theorem Things.goodAt {W w : World} {ts : List (World → (Nat → Prop) → Prop)} (h : Things W w ts) (j : Nat) {X : World → (Nat → Prop) → Prop} (hj : ts[j]? = some X) : Good X := by
  obtain ⟨o, _, _, h3, _⟩ := h
  exact h3 X (List.mem_of_getElem? hj)
theorem Things.also {W w : World} {ts : List (World → (Nat → Prop) → Prop)} (h : Things W w ts) (j : Nat) {X : World → (Nat → Prop) → Prop} (hj : ts[j]? = some X) (ob : Obj) : Things W (w.alloc ob) (ts.set j (Also X w.heap.size ob)) := by
  have hg := h.goodAt j hj
  obtain ⟨U, h1, h0, h2⟩ := h.turn j hj
  have f : Fr (fun _ => False) w (w.alloc ob) := (Fr.refl _ _).alloc ob
  have hlt : ∀ i, (U i ∨ i = w.heap.size) → i < (w.alloc ob).heap.size := fun i hi => by
    rw [World.size_alloc]
    rcases hi with hi | rfl
    · have := (h0 i hi).2; omega
    · omega
  refine h2 (Also X w.heap.size ob) (w.alloc ob) (fun i => U i ∨ i = w.heap.size) (Also.good hg _ _) ⟨hg.mono (hg.kept h1 f) (fun _ => .inl) hlt, heap_alloc_new w ob, .inr rfl, hlt⟩ ⟨fun _ => .inl, fun i hi => ?_, hlt, f.mono fun _ _ e => e.elim⟩
  rcases hi with hi | rfl
  · exact .inl hi
  · exact .inr (Nat.le_refl _)
theorem Things.also_cells {W w : World} {ts : List (World → (Nat → Prop) → Prop)} {X : World → (Nat → Prop) → Prop} {B : Nat} {ob : Obj} (h : Things W w (Also X B ob :: ts)) : w.heap[B]? = some ob := by
  obtain ⟨U, h1, _⟩ := h.get 0 rfl
  exact h1.2.1
theorem Things.cells {W w : World} {ts : List (World → (Nat → Prop) → Prop)} (h : Things W w ts) (j : Nat) {B : Nat} {ob : Obj} (hj : ts[j]? = some (Blk B ob)) : w.heap[B]? = some ob := by
  obtain ⟨U, h1, _⟩ := h.get j hj
  exact h1.1
theorem Things.setAt {W w : World} {ts : List (World → (Nat → Prop) → Prop)} (h : Things W w ts) (j : Nat) {B : Nat} {cs : Array Value} {T : TypeId} (hj : ts[j]? = some (Blk B (.cells cs T (0, 0)))) (i : Nat) (v : Value) : Things W (w.setCell ⟨B, i, none⟩ v) (ts.set j (Blk B (.cells (cs.setIfInBounds i v) T (0, 0)))) := by
  obtain ⟨U, h1, _, h2⟩ := h.turn j hj
  have f : Fr U w (w.setCell ⟨B, i, none⟩ v) := Fr.setCell (p := ⟨B, i, none⟩) (Fr.refl _ _) h1.2.1 v
  refine h2 _ _ U (Blk.good _ _) ⟨?_, h1.2.1, fun i hi => Nat.lt_of_lt_of_le (h1.2.2 i hi) f.size⟩ (Gw.same h1.2.2 f)
  simp [World.setCell, Array.getElem?_modify, h1.1]
theorem Things.blk {W w : World} {ts : List (World → (Nat → Prop) → Prop)} (h : Things W w ts) (ob : Obj) : Things W (w.alloc ob) (ts ++ [Blk w.heap.size ob]) := h.more (Blk.good _ _) (Blk.new w ob) ((Fr.refl _ _).alloc _) fun i hi => by simp only [World.size_alloc]; omega
theorem cell0 {w : World} {B : Nat} {x y : Value} {T : TypeId} (h : w.heap[B]? = some (.cells #[x, y] T (0, 0))) : w.cell? ⟨B, 0, none⟩ = some x := by simp [World.cell?, h]
theorem cell1 {w : World} {B : Nat} {x y : Value} {T : TypeId} (h : w.heap[B]? = some (.cells #[x, y] T (0, 0))) : w.cell? ⟨B, 1, none⟩ = some y := by simp [World.cell?, h]
theorem cellZ {w : World} {B : Nat} {x y : Value} {T : TypeId} (h : w.heap[B]? = some (.cells #[x, y] T (0, 0))) : w.cell? ⟨B, 0, none⟩ = some x ∧ w.cell? ⟨B, 1, none⟩ = some y ∧ ∀ k, w.frozen? ⟨B, k, none⟩ = false := ⟨cell0 h, cell1 h, fun k => by simp [World.frozen?, h]⟩
end Go.Proofs.Ytcajdbklchjkkaa
