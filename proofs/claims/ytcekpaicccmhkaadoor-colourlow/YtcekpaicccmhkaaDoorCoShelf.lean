/-
  The program's map in memory: a row of shelves, a colour each.
-/
import Derived.Test.YtcekpaicccmhkaaDoorCoNew
import Derived.Test.YtcekpaicccmhkaaDoorCoCols
import Derived.Test.YtcekpaicccmhkaaDoorCoApp
import Derived.Test.YtcekpaicccmhkaaDoorSfNew
import Derived.OwnWalk
import Derived.LoopTactic
namespace Go.Proofs.YtcekpaicccmhkaaDoor
open Go.RowKit

/-- What lies in memory from the start: the table that math/bits looks into. -/
def Gr (w : World) : Prop := Sf.Tab w
theorem Gr.fr {w w' : World} (h : Gr w) (f : Fr (fun _ => False) w w') : Gr w' := Sf.Tab.carry h f id
theorem Gr.pos {w : World} (h : Gr w) : 0 < w.heap.size := Sf.Tab.pos h
theorem ptr_info : ∃ i, Tryd.prog.info? 60 = some i ∧ i.zero = some (.pointer none) ∧ i.size = 1 ∧ i.bytes = 8 := by
  have h : (Tryd.prog.info? 60).map (fun i => (i.zero, i.size, i.bytes)) = some (some (.pointer none), 1, 8) := by kernel_rfl
  cases hq : Tryd.prog.info? 60 with
  | none => rw [hq] at h; cases h
  | some i =>
    rw [hq] at h
    simp only [Option.map_some, Option.some.injEq, Prod.mk.injEq] at h
    exact ⟨i, rfl, h.1, h.2.1, h.2.2⟩
/-- Pointers to shelves. -/
def ptrs (j : Nat) (A : Nat → Nat) : List Value := (List.range j).map fun i => Value.pointer (some ⟨A i, 0, none⟩)
theorem ptrs_length (j : Nat) (A : Nat → Nat) : (ptrs j A).length = j := by simp [ptrs]
def upd {α : Type} (A : Nat → α) (j : Nat) (x : α) (i : Nat) : α := if i = j then x else A i
theorem upd_same {α : Type} (A : Nat → α) (j : Nat) (x : α) : upd A j x j = x := if_pos rfl
theorem upd_low {α : Type} (A : Nat → α) {j i : Nat} (x : α) (h : i < j) : upd A j x i = A i := if_neg (by omega)
theorem ptrs_upd (j : Nat) (A : Nat → Nat) (x : Nat) : ptrs (j + 1) (upd A j x) = ptrs j A ++ [.pointer (some ⟨x, 0, none⟩)] := by
  unfold ptrs
  rw [List.range_succ, List.map_append]
  congr 1
  · apply List.map_congr_left
    intro i hi
    rw [upd_low A x (by simpa using hi)]
  · simp [upd_same]
/-- The blocks of a map. -/
def Blk (a : Nat) (v : Value) (j : Nat) (A B : Nat → Nat) (x : Nat) : Prop := x = a ∨ v.ownBlock = some x ∨ ∃ i, i < j ∧ (x = A i ∨ x = B i)
/-- A map at block a that has j shelves: 'col' says what is taken of each. -/
structure Cj (w : World) (base a : Nat) (v : Value) (m j : Nat) (A B : Nat → Nat) (col : Nat → List Bool) : Prop where
  st : w.heap[a]? = some (.cells #[.int .i64 (m : Int), v] 59 (0, 0))
  row : w.ownsRow base 60 1 v j (ptrs j A)
  sh : ∀ i, i < j → Sf.Sh w (A i) (B i) (col i)
  ne : ∀ i, i < j → A i ≠ a ∧ B i ≠ a ∧ v.ownBlock ≠ some (A i) ∧ v.ownBlock ≠ some (B i) ∧ ∀ i', i' < j → B i ≠ A i' ∧ (i' ≠ i → B i ≠ B i')
  na : v.ownBlock ≠ some a
  lo : base ≤ a ∧ ∀ i, i < j → base ≤ A i ∧ base ≤ B i
  b0 : 0 < base
  tab : Sf.Tab w
section
variable {w w' : World} {base a m j : Nat} {v : Value} {A B : Nat → Nat} {col : Nat → List Bool}
theorem Cj.lta (h : Cj w base a v m j A B col) : a < w.heap.size := (Array.getElem?_eq_some_iff.1 h.st).1
theorem Cj.low (h : Cj w base a v m j A B col) {x : Nat} (hx : Blk a v j A B x) : base ≤ x ∧ x < w.heap.size := by
  rcases hx with rfl | hx | ⟨i, hi, rfl | rfl⟩
  · exact ⟨h.lo.1, h.lta⟩
  · exact h.row.lt x hx
  · exact ⟨(h.lo.2 i hi).1, (h.sh i hi).lta⟩
  · exact ⟨(h.lo.2 i hi).2, (h.sh i hi).ltb⟩
theorem own_carry {S : Nat → Prop} {e : TypeId} {size n : Nat} {xs : List Value} (h : w.ownsRow base e size v n xs) (f : Fr S w w') (hs : ∀ x, v.ownBlock = some x → ¬ S x) : w'.ownsRow base e size v n xs := by
  obtain ⟨h1, h2⟩ := h
  refine ⟨h1, ?_⟩
  rcases h2 with h2 | ⟨g, cap, cur, rfl, hb, hc, rest⟩
  · exact .inl h2
  · exact .inr ⟨g, cap, cur, rfl, hb, by rw [f.block g (Array.getElem?_eq_some_iff.1 hc).1 (hs g rfl)]; exact hc, rest⟩
theorem own_low {base' : Nat} {e : TypeId} {size n : Nat} {xs : List Value} (h : w.ownsRow base e size v n xs) (hb : base' ≤ base) : w.ownsRow base' e size v n xs := by
  obtain ⟨h1, h2⟩ := h
  refine ⟨h1, ?_⟩
  rcases h2 with h2 | ⟨g, cap, cur, rfl, hb', hc, rest⟩
  · exact .inl h2
  · exact .inr ⟨g, cap, cur, rfl, by omega, hc, rest⟩
theorem Cj.carry {S : Nat → Prop} (h : Cj w base a v m j A B col) (f : Fr S w w') (hs : ∀ x, Blk a v j A B x → ¬ S x) (h0 : ¬ S 0) : Cj w' base a v m j A B col :=
  ⟨by rw [f.block a h.lta (hs a (.inl rfl))]; exact h.st, own_carry h.row f (fun x hx => hs x (.inr (.inl hx))),
   fun i hi => (h.sh i hi).carry f (hs _ (.inr (.inr ⟨i, hi, .inl rfl⟩))) (hs _ (.inr (.inr ⟨i, hi, .inr rfl⟩))) h0, h.ne, h.na, h.lo, h.b0, h.tab.carry f h0⟩
theorem Cj.kept (h : Cj w base a v m j A B col) (f : Fr (fun _ => False) w w') : Cj w' base a v m j A B col := h.carry f (fun _ _ => id) id
theorem Cj.down (h : Cj w base a v m j A B col) : Cj w 1 a v m j A B col := by
  have b := h.b0
  exact ⟨h.st, own_low h.row b, h.sh, h.ne, h.na, ⟨by have := h.lo.1; omega, fun i hi => by have := h.lo.2 i hi; omega⟩, by omega, h.tab⟩
/-- One shelf turned. -/
theorem Cj.turn (h : Cj w base a v m j A B col) {c : Nat} (hc : c < j) {l : List Bool} (hs : Sf.Sh w' (A c) (B c) l) (f : Fr (fun i => i = B c) w w') : Cj w' base a v m j A B (upd col c l) := by
  obtain ⟨n1, n2, n3, n4, n5⟩ := h.ne c hc
  have n0 : ¬ 0 = B c := by have := (h.sh c hc).b0; omega
  refine ⟨by rw [f.block a h.lta (fun e => n2 e.symm)]; exact h.st, own_carry h.row f (fun x hx e => n4 (by rw [hx, e])), fun i hi => ?_, h.ne, h.na, h.lo, h.b0, h.tab.carry f n0⟩
  by_cases e : i = c
  · subst e; rw [upd_same]; exact hs
  · rw [show upd col c l i = col i from if_neg e]
    exact (h.sh i hi).carry f (fun e2 => (n5 i hi).1 e2.symm) (fun e2 => (n5 i hi).2 e e2.symm) n0
theorem Cj.congr {col' : Nat → List Bool} (h : Cj w base a v m j A B col) (e : ∀ i, i < j → col i = col' i) : Cj w base a v m j A B col' :=
  ⟨h.st, h.row, fun i hi => by rw [← e i hi]; exact h.sh i hi, h.ne, h.na, h.lo, h.b0, h.tab⟩
theorem Cj.c0 (h : Cj w base a v m j A B col) : w.cell? ⟨a, 0, none⟩ = some (.int .i64 (m : Int)) := by simp [World.cell?, h.st]
theorem Cj.c1 (h : Cj w base a v m j A B col) : w.cell? ⟨a, 1, none⟩ = some v := by simp [World.cell?, h.st]
theorem Cj.f1 (h : Cj w base a v m j A B col) (k : Nat) : w.frozen? ⟨a, k, none⟩ = false := by simp [World.frozen?, h.st]
theorem Cj.cg {g cap : Nat} (h : Cj w base a (.slice (some ⟨g, 0, none⟩) j cap) m j A B col) {i : Nat} (hi : i < j) : w.cell? ⟨g, i, none⟩ = some (.pointer (some ⟨A i, 0, none⟩)) := by
  rw [h.row.cellAt i (by omega)]; simp [ptrs, hi]
/-- One more shelf is put behind them. -/
theorem Cj.grow (h : Cj w base a v m j A B col) {sa sb : Nat} {c : List Bool} (hs : Sf.Sh w sa sb c) (hn : ∀ x, Blk a v j A B x → x ≠ sa ∧ x ≠ sb) (hl : base ≤ sa ∧ base ≤ sb) {o : Obj} {w2 : World} {g cap : Nat}
    (hg : (w.alloc o).grownBy w2 v.ownBlock) (hr : w2.ownsRow base 60 1 (.slice (some ⟨g, 0, none⟩) (j + 1) cap) (j + 1) (ptrs j A ++ [.pointer (some ⟨sa, 0, none⟩)])) (hsep : v.ownBlock = some g ∨ g = (w.alloc o).heap.size) :
    Cj (w2.setCell ⟨a, 1, none⟩ (.slice (some ⟨g, 0, none⟩) (j + 1) cap)) base a (.slice (some ⟨g, 0, none⟩) (j + 1) cap) m (j + 1) (upd A j sa) (upd B j sb) (upd col j c) ∧ Fr (fun x => x = a ∨ v.ownBlock = some x) w (w2.setCell ⟨a, 1, none⟩ (.slice (some ⟨g, 0, none⟩) (j + 1) cap)) := by
  have f2 : Fr (fun x => v.ownBlock = some x) w w2 := ((Fr.refl _ w).alloc o).grown hg fun x e => .inl e
  have f3 : Fr (fun x => x = a ∨ v.ownBlock = some x) w (w2.setCell ⟨a, 1, none⟩ (.slice (some ⟨g, 0, none⟩) (j + 1) cap)) := (f2.mono fun x _ e => .inr e).setCell (p := ⟨a, 1, none⟩) (.inl rfl) _
  have hva : g ≠ a := by
    rcases hsep with e | e
    · exact fun e2 => h.na (by rw [e, e2])
    · have := h.lta; simp at e; omega
  have hgx : ∀ x, x < w.heap.size → v.ownBlock ≠ some x → g ≠ x := fun x hx hne => by
    rcases hsep with e | e
    · exact fun e2 => hne (by rw [e, e2])
    · simp at e; omega
  have hnb := hn a (.inl rfl)
  have h0a : ¬ (0 = a ∨ v.ownBlock = some 0) := by
    rintro (e | e)
    · have := h.lo.1; have := h.b0; omega
    · have := h.row.lt 0 e; have := h.b0; omega
  have hvs : v.ownBlock ≠ some sa ∧ v.ownBlock ≠ some sb := ⟨fun e => (hn sa (.inr (.inl e))).1 rfl, fun e => (hn sb (.inr (.inl e))).2 rfl⟩
  have hab : sb ≠ sa := by obtain ⟨ws, cc, hw⟩ := hs; exact fun e => hw.ne e.symm
  refine ⟨⟨?_, ?_, fun i hi => ?_, fun i hi => ?_, ?_, ⟨h.lo.1, fun i hi => ?_⟩, h.b0, h.tab.carry f3 h0a⟩, f3⟩
  · have e2 : w2.heap[a]? = _ := (f2.block a h.lta h.na).trans h.st
    rw [heap_setCell_same w2 a 1 _ _ _ e2]
    rfl
  · rw [ptrs_upd]
    exact own_carry hr (Fr.setCell (S := fun x => x = a) (p := ⟨a, 1, none⟩) (Fr.refl _ _) rfl _) (fun x hx e => hva (by simp only [Value.ownBlock, Option.some.injEq] at hx; omega))
  · by_cases e : i = j
    · subst e
      rw [upd_same, upd_same, upd_same]
      refine hs.carry f3 ?_ ?_ h0a
      · rintro (e | e)
        · exact hnb.1 e.symm
        · exact hvs.1 e
      · rintro (e | e)
        · exact hnb.2 e.symm
        · exact hvs.2 e
    · have hi' : i < j := by omega
      rw [upd_low A sa hi', upd_low B sb hi', upd_low col c hi']
      obtain ⟨n1, n2, n3, n4, n5⟩ := h.ne i hi'
      refine (h.sh i hi').carry f3 ?_ ?_ h0a
      · rintro (e | e)
        · exact n1 e
        · exact n3 e
      · rintro (e | e)
        · exact n2 e
        · exact n4 e
  · have key : ∀ x, x < w.heap.size → v.ownBlock ≠ some x → (Value.slice (some ⟨g, 0, none⟩) (j + 1) cap).ownBlock ≠ some x := fun x h1 h2 e => hgx x h1 h2 (by simpa [Value.ownBlock] using e)
    by_cases e : i = j
    · subst e
      rw [upd_same, upd_same]
      refine ⟨fun e => hnb.1 e.symm, fun e => hnb.2 e.symm, key _ hs.lta hvs.1, key _ hs.ltb hvs.2, fun i' hi' => ?_⟩
      by_cases e2 : i' = i
      · subst e2
        rw [upd_same]
        exact ⟨hab, fun e => (e rfl).elim⟩
      · have hi2 : i' < i := by omega
        rw [upd_low A sa hi2, upd_low B sb hi2]
        exact ⟨fun e => (hn _ (.inr (.inr ⟨i', hi2, .inl rfl⟩))).2 e.symm, fun _ e => (hn _ (.inr (.inr ⟨i', hi2, .inr rfl⟩))).2 e.symm⟩
    · have hi' : i < j := by omega
      rw [upd_low A sa hi', upd_low B sb hi']
      obtain ⟨n1, n2, n3, n4, n5⟩ := h.ne i hi'
      refine ⟨n1, n2, key _ (h.sh i hi').lta n3, key _ (h.sh i hi').ltb n4, fun i' hi2 => ?_⟩
      by_cases e2 : i' = j
      · subst e2
        rw [upd_same, upd_same]
        have := hn _ (.inr (.inr ⟨i, hi', .inr rfl⟩))
        exact ⟨this.1, fun _ => this.2⟩
      · have hi3 : i' < j := by omega
        rw [upd_low A sa hi3, upd_low B sb hi3]
        exact n5 i' hi3
  · exact fun e => hva (by simpa [Value.ownBlock] using e)
  · by_cases e : i = j
    · subst e; rw [upd_same, upd_same]; exact hl
    · have hi' : i < j := by omega
      rw [upd_low A sa hi', upd_low B sb hi']; exact h.lo.2 i hi'
end
/-- The program's map at block a: 'has' says which of its pages are taken; its blocks are those of Z. -/
def Cm (w : World) (a : Nat) (Z : Nat → Prop) (k : Nat) (has : List Bool) : Prop :=
  ∃ g cap m A B, Cj w 1 a (.slice (some ⟨g, 0, none⟩) k cap) m k A B (colL k m has) ∧ has.length = m * k ∧ 0 < k ∧ k ≤ 32 ∧ has.length ≤ 4096 ∧ (∀ x, Blk a (.slice (some ⟨g, 0, none⟩) k cap) k A B x → Z x) ∧ ∀ x, Z x → x < w.heap.size
section
variable {w w' : World} {a k : Nat} {Z : Nat → Prop} {has : List Bool} {ad : Option Addr} {l : List Int}
theorem Cm.zlt (h : Cm w a Z k has) : ∀ i, Z i → i < w.heap.size := by obtain ⟨g, cap, m, A, B, h1, h2, h3, h4, h5, h6, h7⟩ := h; exact h7
theorem Cm.pos (h : Cm w a Z k has) : 0 < w.heap.size := by obtain ⟨g, cap, m, A, B, h1, _⟩ := h; exact h1.tab.pos
theorem Cm.carry {S : Nat → Prop} (h : Cm w a Z k has) (f : Fr S w w') (hn : ∀ i, Z i → ¬ S i) (h0 : ¬ S 0) : Cm w' a Z k has := by
  obtain ⟨g, cap, m, A, B, h1, h2, h3, h4, h5, h6, h7⟩ := h
  exact ⟨g, cap, m, A, B, h1.carry f (fun x hx => hn x (h6 x hx)) h0, h2, h3, h4, h5, h6, fun i hi => by have := h7 i hi; have := f.size; omega⟩
theorem Cm.kept (h : Cm w a Z k has) (f : Fr (fun _ => False) w w') : Cm w' a Z k has := h.carry f (fun _ _ => id) id
end
/-- A map that was made: all that it has is new. -/
theorem Cm.made {w : World} {a base g cap m k : Nat} {A B : Nat → Nat} {col : Nat → List Bool} {has : List Bool} (h : Cj w base a (.slice (some ⟨g, 0, none⟩) k cap) m k A B col) (hc : ∀ i, i < k → col i = colL k m has i) (hl : has.length = m * k) (hk : 0 < k) (hk2 : k ≤ 32) (h4 : has.length ≤ 4096) :
    ∃ Z : Nat → Prop, (∀ i, Z i → base ≤ i) ∧ Cm w a Z k has :=
  ⟨Blk a (.slice (some ⟨g, 0, none⟩) k cap) k A B, fun _ hi => (h.low hi).1, g, cap, m, A, B, h.down.congr hc, hl, hk, hk2, h4, fun _ h => h, fun _ hi => (h.low hi).2⟩
end Go.Proofs.YtcekpaicccmhkaaDoor
