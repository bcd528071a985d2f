/-
  A pointer to a shelf is put behind a map's shelves.
-/
import Derived.Test.YtcekpaicccmhkaaDoorCoShelf
namespace Go.Proofs.YtcekpaicccmhkaaDoor
open Go.RowKit

/-- What is so when one more shelf is behind a map's shelves, but the map's own slice is still as it was. -/
def Grown (w w2 : World) (base am : Nat) (v : Value) (m j : Nat) (A B : Nat → Nat) (col : Nat → List Bool) (sa sb : Nat) (c : List Bool) (g cap : Nat) : Prop :=
  w2.cell? ⟨am, 1, none⟩ = some v ∧ w2.frozen? ⟨am, 1, none⟩ = false ∧ Cj (w2.setCell ⟨am, 1, none⟩ (.slice (some ⟨g, 0, none⟩) (j + 1) cap)) base am (.slice (some ⟨g, 0, none⟩) (j + 1) cap) m (j + 1) (upd A j sa) (upd B j sb) (upd col j c) ∧ Fr (fun x => x = am ∨ v.ownBlock = some x) w (w2.setCell ⟨am, 1, none⟩ (.slice (some ⟨g, 0, none⟩) (j + 1) cap)) ∧ Fr (fun x => v.ownBlock = some x) w w2
section
variable {w : World} {o : Oper} {a : Act} {Q : Exit → Act → World → Prop} {base am m j : Nat} {v : Value} {A B : Nat → Nat} {col : Nat → List Bool} {sa sb : Nat} {c : List Bool}
theorem wp_ptr {K : Act → World → Prop} (s x : Operand)
    (ho : o.op = .call { callee := .builtin .append, args := #[s, x], argTypes := #[57, 57] })
    (hj : Cj w base am v m j A B col) (hsh : Sf.Sh w sa sb c) (hn : ∀ x, Blk am v j A B x → x ≠ sa ∧ x ≠ sb) (hl : base ≤ sa ∧ base ≤ sb) (hjl : j < 1000) (hs : a.eval s = v) (hx : a.eval x = .slice (some ⟨w.heap.size, 0, none⟩) 1 1)
    (h : ∀ g cap w2, Grown w w2 base am v m j A B col sa sb c g cap → K (a.put o.dst (.slice (some ⟨g, 0, none⟩) (j + 1) cap)) w2) : o.wp Tryd.prog a (w.alloc (.cells #[.pointer (some ⟨sa, 0, none⟩)] 60)) K Q := by
  obtain ⟨i0, hi, hz0, hz1, hz2⟩ := ptr_info
  have hb : base ≤ w.heap.size := by have := hj.lo.1; have := hj.lta; omega
  obtain ⟨g, cap, w2, hr, h2, h3, h4⟩ := run_append_sep (P := Tryd.prog) (w.alloc (.cells #[.pointer (some ⟨sa, 0, none⟩)] 60)) base 57 o.type 60 i0 (.pointer none) 1 8 Tryd.underlying57 hi hz0 hz1 hz2 rfl (by decide) v j (ptrs j A) (hj.row.alloc _) ⟨w.heap.size, 0, none⟩ 1 1 (by decide) [.pointer (some ⟨sa, 0, none⟩)] rfl (fun q u hu => by
      match q, hu with
      | 0, hu => simp at hu; subst hu; simp [Addr.add]) (fun u hu => by simp at hu; subst hu; rfl) (by unfold maxLen; omega) (by omega) (by simp; omega)
  obtain ⟨k1, k2⟩ := hj.grow hsh hn hl h3 h2 h4
  have f2 : Fr (fun x => v.ownBlock = some x) w w2 := ((Fr.refl _ w).alloc _).grown h3 fun x e => .inl e
  have hst := (f2.block am hj.lta hj.na).trans hj.st
  unfold Oper.wp execOp
  simp only [ho, resolve, invoke, builtin, Sem.run_bind, Sem.run_pure, Result.andThen_ok, List.map_toArray, List.map_cons, List.map_nil, hs, hx, hr]
  exact h g cap w2 ⟨by simp [World.cell?, hst], by simp [World.frozen?, hst], k1, k2, f2⟩
theorem wpList_ptr {ops : Array Oper} {rest : List Oper} (hgd : o.guard = none) (s x : Operand)
    (ho : o.op = .call { callee := .builtin .append, args := #[s, x], argTypes := #[57, 57] })
    (hj : Cj w base am v m j A B col) (hsh : Sf.Sh w sa sb c) (hn : ∀ x, Blk am v j A B x → x ≠ sa ∧ x ≠ sb) (hl : base ≤ sa ∧ base ≤ sb) (hjl : j < 1000) (hs : a.eval s = v) (hx : a.eval x = .slice (some ⟨w.heap.size, 0, none⟩) 1 1)
    (h : ∀ g cap w2, Grown w w2 base am v m j A B col sa sb c g cap → wpList Tryd.prog ops Q rest (a.put o.dst (.slice (some ⟨g, 0, none⟩) (j + 1) cap)) w2) : wpList Tryd.prog ops Q (o :: rest) a (w.alloc (.cells #[.pointer (some ⟨sa, 0, none⟩)] 60)) :=
  wpList_plain hgd fun _ hK => wp_ptr s x ho hj hsh hn hl hjl hs hx fun g cap w2 h2 => hK _ _ (h g cap w2 h2)
theorem step_ptr {ops : Array Oper} {K : Act → World → Prop} {E : Prop} (hgd : o.guard = none) (s x : Operand)
    (ho : o.op = .call { callee := .builtin .append, args := #[s, x], argTypes := #[57, 57] })
    (hj : Cj w base am v m j A B col) (hsh : Sf.Sh w sa sb c) (hn : ∀ x, Blk am v j A B x → x ≠ sa ∧ x ≠ sb) (hl : base ≤ sa ∧ base ≤ sb) (hjl : j < 1000) (hs : a.eval s = v) (hx : a.eval x = .slice (some ⟨w.heap.size, 0, none⟩) 1 1)
    (h : ∀ g cap w2, Grown w w2 base am v m j A B col sa sb c g cap → K (a.put o.dst (.slice (some ⟨g, 0, none⟩) (j + 1) cap)) w2) :
    if Region.wanted o (yielded ops a.tmps) = true then Oper.wp Tryd.prog o a (w.alloc (.cells #[.pointer (some ⟨sa, 0, none⟩)] 60)) K Q else E := by
  have hw : Region.wanted o (yielded ops a.tmps) = true := by simp [Region.wanted, hgd]
  rw [if_pos hw]
  exact wp_ptr s x ho hj hsh hn hl hjl hs hx h
end
end Go.Proofs.YtcekpaicccmhkaaDoor
