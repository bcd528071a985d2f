/-
  The program's pool in memory: a shelf of the colours that somebody has, and eight windows.
-/
import Derived.Test.YthamfljooapkoaaDoorPoKeep
import Derived.Test.YthamfljooapkoaaDoorPoHas
import Derived.Test.YthamfljooapkoaaDoorSfNew
import Derived.OwnWalk
import Derived.LoopTactic
namespace Go.Proofs.YthamfljooapkoaaDoor
open Go.RowKit

/-- What lies in memory from the start: the table that math/bits looks into. -/
def Gr (w : World) : Prop := Sf.Tab w
theorem Gr.fr {w w' : World} (h : Gr w) (f : Fr (fun _ => False) w w') : Gr w' := Sf.Tab.carry h f id
theorem Gr.pos {w : World} (h : Gr w) : 0 < w.heap.size := Sf.Tab.pos h
def upd {α : Type} (A : Nat → α) (j : Nat) (x : α) (i : Nat) : α := if i = j then x else A i
theorem upd_same {α : Type} (A : Nat → α) (j : Nat) (x : α) : upd A j x j = x := if_pos rfl
theorem upd_else {α : Type} (A : Nat → α) {j i : Nat} (x : α) (h : i ≠ j) : upd A j x i = A i := if_neg h
/-- A pool's cells: its shelf, its windows. -/
def pc (sa : Nat) (V : Nat → Value) : List Value := .pointer (some ⟨sa, 0, none⟩) :: (List.range 8).map V
theorem pc_length (sa : Nat) (V : Nat → Value) : (pc sa V).length = 9 := by simp [pc]
theorem pc_set (sa : Nat) (V : Nat → Value) {o : Nat} (_ho : o < 8) (v : Value) : (pc sa V).set (1 + o) v = pc sa (upd V o v) := by
  unfold pc
  rw [Nat.add_comm, List.set_cons_succ]
  congr 1
  apply List.ext_getElem
  · simp
  · intro i h1 h2
    rw [List.getElem_set]
    by_cases e : o = i
    · subst e; simp [upd_same]
    · rw [if_neg e]; simp [upd_else _ _ (Ne.symm e)]
/-- The blocks of a pool. -/
def Blk (a sa sb : Nat) (V : Nat → Value) (x : Nat) : Prop := x = a ∨ x = sa ∨ x = sb ∨ ∃ o, o < 8 ∧ (V o).ownBlock = some x
/-- A pool at block a: 'has' says which colours are taken of its shelf, 'L' what its windows are. -/
structure Pj (w : World) (base a sa sb : Nat) (V : Nat → Value) (has : List Bool) (L : Nat → List Nat) : Prop where
  st : w.heap[a]? = some (.cells (pc sa V).toArray 53 (0, 0))
  sh : Sf.Sh w sa sb has
  row : ∀ o, o < 8 → w.ownsRow base 3 1 (V o) (L o).length (ic (nI (L o)))
  na : sa ≠ a ∧ sb ≠ a
  nv : ∀ o, o < 8 → (V o).ownBlock ≠ some a ∧ (V o).ownBlock ≠ some sa ∧ (V o).ownBlock ≠ some sb
  nn : ∀ o o', o < 8 → o' < 8 → o ≠ o' → ∀ x, (V o).ownBlock = some x → (V o').ownBlock ≠ some x
  lo : base ≤ a ∧ base ≤ sa ∧ base ≤ sb
  b0 : 0 < base
section
variable {w w' : World} {base a sa sb : Nat} {V : Nat → Value} {has : List Bool} {L : Nat → List Nat}
theorem Pj.tab (h : Pj w base a sa sb V has L) : Sf.Tab w := h.sh.tab
theorem Pj.lta (h : Pj w base a sa sb V has L) : a < w.heap.size := (Array.getElem?_eq_some_iff.1 h.st).1
theorem Pj.low (h : Pj w base a sa sb V has L) {x : Nat} (hx : Blk a sa sb V x) : base ≤ x ∧ x < w.heap.size := by
  rcases hx with rfl | rfl | rfl | ⟨o, ho, hx⟩
  · exact ⟨h.lo.1, h.lta⟩
  · exact ⟨h.lo.2.1, h.sh.lta⟩
  · exact ⟨h.lo.2.2, h.sh.ltb⟩
  · exact (h.row o ho).lt x hx
theorem own_carry {S : Nat → Prop} {e : TypeId} {size n : Nat} {v : Value} {xs : List Value} (h : w.ownsRow base e size v n xs) (f : Fr S w w') (hs : ∀ x, v.ownBlock = some x → ¬ S x) : w'.ownsRow base e size v n xs := by
  obtain ⟨h1, h2⟩ := h
  refine ⟨h1, ?_⟩
  rcases h2 with h2 | ⟨g, cap, cur, rfl, hb, hc, rest⟩
  · exact .inl h2
  · exact .inr ⟨g, cap, cur, rfl, hb, by rw [f.block g (Array.getElem?_eq_some_iff.1 hc).1 (hs g rfl)]; exact hc, rest⟩
theorem own_low {base' : Nat} {e : TypeId} {size n : Nat} {v : Value} {xs : List Value} (h : w.ownsRow base e size v n xs) (hb : base' ≤ base) : w.ownsRow base' e size v n xs := by
  obtain ⟨h1, h2⟩ := h
  refine ⟨h1, ?_⟩
  rcases h2 with h2 | ⟨g, cap, cur, rfl, hb', hc, rest⟩
  · exact .inl h2
  · exact .inr ⟨g, cap, cur, rfl, by omega, hc, rest⟩
theorem Pj.carry {S : Nat → Prop} (h : Pj w base a sa sb V has L) (f : Fr S w w') (hs : ∀ x, Blk a sa sb V x → ¬ S x) (h0 : ¬ S 0) : Pj w' base a sa sb V has L :=
  ⟨by rw [f.block a h.lta (hs a (.inl rfl))]; exact h.st, h.sh.carry f (hs _ (.inr (.inl rfl))) (hs _ (.inr (.inr (.inl rfl)))) h0,
   fun o ho => own_carry (h.row o ho) f (fun x hx => hs x (.inr (.inr (.inr ⟨o, ho, hx⟩)))), h.na, h.nv, h.nn, h.lo, h.b0⟩
theorem Pj.kept (h : Pj w base a sa sb V has L) (f : Fr (fun _ => False) w w') : Pj w' base a sa sb V has L := h.carry f (fun _ _ => id) id
theorem Pj.down (h : Pj w base a sa sb V has L) : Pj w 1 a sa sb V has L := by
  have b := h.b0
  exact ⟨h.st, h.sh, fun o ho => own_low (h.row o ho) b, h.na, h.nv, h.nn, by have := h.lo; omega, by omega⟩
theorem Pj.congr {L' : Nat → List Nat} (h : Pj w base a sa sb V has L) (e : ∀ o, o < 8 → L o = L' o) : Pj w base a sa sb V has L' :=
  ⟨h.st, h.sh, fun o ho => by rw [← e o ho]; exact h.row o ho, h.na, h.nv, h.nn, h.lo, h.b0⟩
theorem Pj.n0 (h : Pj w base a sa sb V has L) {x : Nat} (hx : Blk a sa sb V x) : ¬ 0 = x := by have := (h.low hx).1; have := h.b0; omega
/-- The shelf turned. -/
theorem Pj.shelf (h : Pj w base a sa sb V has L) {has' : List Bool} (hs : Sf.Sh w' sa sb has') (f : Fr (fun i => i = sb) w w') : Pj w' base a sa sb V has' L :=
  ⟨by rw [f.block a h.lta (fun e => h.na.2 e.symm)]; exact h.st, hs, fun o ho => own_carry (h.row o ho) f (fun x hx e => (h.nv o ho).2.2 (by rw [hx, e])), h.na, h.nv, h.nn, h.lo, h.b0⟩
/-- A window is another one. -/
theorem Pj.put (h : Pj w base a sa sb V has L) {o : Nat} (ho : o < 8) {w1 : World} (f : Fr (fun x => (V o).ownBlock = some x) w w1) {v : Value} {l : List Nat} (hr : w1.ownsRow base 3 1 v l.length (ic (nI l))) (hv : ∀ x, v.ownBlock = some x → (V o).ownBlock = some x ∨ w.heap.size ≤ x) :
    Pj (w1.setCell ⟨a, 1 + o, none⟩ v) base a sa sb (upd V o v) has (upd L o l) ∧ Fr (fun x => x = a ∨ (V o).ownBlock = some x) w (w1.setCell ⟨a, 1 + o, none⟩ v) := by
  have f3 : Fr (fun x => x = a ∨ (V o).ownBlock = some x) w (w1.setCell ⟨a, 1 + o, none⟩ v) := (f.mono fun x _ e => .inr e).setCell (p := ⟨a, 1 + o, none⟩) (.inl rfl) _
  have f4 : Fr (fun x => x = a) w1 (w1.setCell ⟨a, 1 + o, none⟩ v) := Fr.setCell (S := fun x => x = a) (p := ⟨a, 1 + o, none⟩) (Fr.refl _ _) rfl _
  obtain ⟨v1, v2, v3⟩ := h.nv o ho
  have key : ∀ x, x < w.heap.size → (V o).ownBlock ≠ some x → v.ownBlock ≠ some x := fun x hx hn e => by
    rcases hv x e with e2 | e2
    · exact hn e2
    · omega
  have h0 : ¬ (0 = a ∨ (V o).ownBlock = some 0) := by
    rintro (e | e)
    · exact h.n0 (.inl rfl) e
    · exact h.n0 (.inr (.inr (.inr ⟨o, ho, e⟩))) rfl
  refine ⟨⟨?_, ?_, fun i hi => ?_, h.na, fun i hi => ?_, fun i i' hi hi' hne => ?_, h.lo, h.b0⟩, f3⟩
  · have e2 : w1.heap[a]? = _ := (f.block a h.lta v1).trans h.st
    rw [heap_setCell_same w1 a (1 + o) _ _ _ e2]
    congr 2
    apply Array.ext'
    rw [← pc_set sa V ho v]
    simp
  · refine h.sh.carry f3 ?_ ?_ h0
    · rintro (e | e)
      · exact h.na.1 e
      · exact v2 e
    · rintro (e | e)
      · exact h.na.2 e
      · exact v3 e
  · by_cases e : i = o
    · subst e
      rw [upd_same, upd_same]
      exact own_carry hr f4 (fun x hx e => key a h.lta v1 (by rw [hx, e]))
    · rw [upd_else _ _ e, upd_else _ _ e]
      refine own_carry (h.row i hi) f3 ?_
      rintro x hx (e2 | e2)
      · exact (h.nv i hi).1 (by rw [hx, e2])
      · exact h.nn i o hi ho e x hx e2
  · by_cases e : i = o
    · subst e
      rw [upd_same]
      exact ⟨key a h.lta v1, key sa h.sh.lta v2, key sb h.sh.ltb v3⟩
    · rw [upd_else _ _ e]; exact h.nv i hi
  · by_cases e : i = o
    · subst e
      rw [upd_same, upd_else _ _ (Ne.symm hne)]
      intro x hx hx'
      rcases hv x hx with e2 | e2
      · exact h.nn i i' hi hi' hne x e2 hx'
      · have := ((h.row i' hi').lt x hx').2; omega
    · rw [upd_else _ _ e]
      by_cases e' : i' = o
      · subst e'
        rw [upd_same]
        intro x hx hx'
        rcases hv x hx' with e2 | e2
        · exact h.nn i i' hi hi' hne x hx e2
        · have := ((h.row i hi).lt x hx).2; omega
      · rw [upd_else _ _ e']; exact h.nn i i' hi hi' hne
theorem Pj.c0 (h : Pj w base a sa sb V has L) : w.cell? ⟨a, 0, none⟩ = some (.pointer (some ⟨sa, 0, none⟩)) := by simp [World.cell?, h.st, pc]
theorem Pj.cv (h : Pj w base a sa sb V has L) {o : Nat} (ho : o < 8) : w.cell? ⟨a, 1 + o, none⟩ = some (V o) := by
  rw [Nat.add_comm]
  simp [World.cell?, h.st, pc, ho]
theorem Pj.fz (h : Pj w base a sa sb V has L) (k : Nat) : w.frozen? ⟨a, k, none⟩ = false := by simp [World.frozen?, h.st]
end
/-- The program's pool at block a; its blocks are those of Z. -/
def Pm (w : World) (a : Nat) (Z : Nat → Prop) (own : List Int) : Prop :=
  ∃ sa sb V, Pj w 1 a sa sb V (hs own) (fun o => wN own o) ∧ Own own ∧ (∀ x, Blk a sa sb V x → Z x) ∧ ∀ x, Z x → x < w.heap.size
section
variable {w w' : World} {a : Nat} {Z : Nat → Prop} {own : List Int}
theorem Pm.zlt (h : Pm w a Z own) : ∀ i, Z i → i < w.heap.size := by obtain ⟨sa, sb, V, h1, h2, h3, h4⟩ := h; exact h4
theorem Pm.carry {S : Nat → Prop} (h : Pm w a Z own) (f : Fr S w w') (hn : ∀ i, Z i → ¬ S i) (h0 : ¬ S 0) : Pm w' a Z own := by
  obtain ⟨sa, sb, V, h1, h2, h3, h4⟩ := h
  exact ⟨sa, sb, V, h1.carry f (fun x hx => hn x (h3 x hx)) h0, h2, h3, fun i hi => by have := h4 i hi; have := f.size; omega⟩
theorem Pm.kept (h : Pm w a Z own) (f : Fr (fun _ => False) w w') : Pm w' a Z own := h.carry f (fun _ _ => id) id
end
theorem Pm.own {w : World} {a : Nat} {Z : Nat → Prop} {ow : List Int} (h : Pm w a Z ow) : Own ow := by obtain ⟨sa, sb, V, h1, h2, h3, h4⟩ := h; exact h2
/-- A pool that was made: all that it has is new. -/
theorem Pm.made {w : World} {base a sa sb : Nat} {V : Nat → Value} {own : List Int} (h : Pj w base a sa sb V (hs own) (fun o => wN own o)) (ho : Own own) : ∃ Z : Nat → Prop, (∀ i, Z i → base ≤ i) ∧ Pm w a Z own :=
  ⟨Blk a sa sb V, fun _ hi => (h.low hi).1, sa, sb, V, h.down, ho, fun _ h => h, fun _ hi => (h.low hi).2⟩
end Go.Proofs.YthamfljooapkoaaDoor
