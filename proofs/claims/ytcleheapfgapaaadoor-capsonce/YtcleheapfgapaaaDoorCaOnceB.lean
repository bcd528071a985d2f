/-
  What the law CapsOnce holds in memory: the table, the handles given out, two sets.
-/
import Derived.Test.YtcleheapfgapaaaDoorCaOnceA
namespace Go.Proofs.YtcleheapfgapaaaDoor
open Go.RowKit

structure On (W w : World) (a : Nat) (Z : Nat → Prop) (c : Ct) (y : Value) (l : List Int) (Bs ns : Nat) (ss : List Int) (Bd nd : Nat) (ds : List Int) : Prop where
  k : Kn W w a Z c
  g : Gv W w Z y l
  s : Om w Bs ns ss
  d : Om w Bd nd ds
  ls : W.heap.size ≤ Bs
  ld : W.heap.size ≤ Bd
  zs : ¬ Z Bs
  zd : ¬ Z Bd
  ne : Bs ≠ Bd
  ys : ∀ q, y.ownBlock = some q → q ≠ Bs ∧ q ≠ Bd
section
variable {W w w' : World} {a : Nat} {Z Z' : Nat → Prop} {c c' : Ct} {y : Value} {l ss ds : List Int} {Bs ns Bd nd : Nat}
theorem On.kept (h : On W w a Z c y l Bs ns ss Bd nd ds) (f : Fr (fun _ => False) w w') : On W w' a Z c y l Bs ns ss Bd nd ds := ⟨h.k.kept f, h.g.kept f, h.s.kept f, h.d.kept f, h.ls, h.ld, h.zs, h.zd, h.ne, h.ys⟩
theorem On.alloc (h : On W w a Z c y l Bs ns ss Bd nd ds) (o : Obj) : On W (w.alloc o) a Z c y l Bs ns ss Bd nd ds := h.kept ((Fr.refl _ _).alloc o)
theorem On.prog (h : On W w a Z c y l Bs ns ss Bd nd ds) (k : Kn W w' a Z' c') (hz : ∀ i, Z' i → Z i ∨ w.heap.size ≤ i) (f : Fr Z w w') : On W w' a Z' c' y l Bs ns ss Bd nd ds := by
  have h1 := h.s.lt
  have h2 := h.d.lt
  refine ⟨k, h.g.on f hz, h.s.carry f h.zs, h.d.carry f h.zd, h.ls, h.ld, fun e => ?_, fun e => ?_, h.ne, h.ys⟩
  · rcases hz Bs e with e | e
    · exact h.zs e
    · omega
  · rcases hz Bd e with e | e
    · exact h.zd e
    · omega
/-- Blocks turn that are no part of it. -/
theorem On.other {S : Nat → Prop} (h : On W w a Z c y l Bs ns ss Bd nd ds) (f : Fr S w w') (hs : ∀ i, S i → W.heap.size ≤ i ∧ ¬ Z i ∧ y.ownBlock ≠ some i ∧ i ≠ Bs ∧ i ≠ Bd) : On W w' a Z c y l Bs ns ss Bd nd ds :=
  ⟨h.k.other f fun i e => ⟨(hs i e).1, (hs i e).2.1⟩, ⟨own_carry h.g.row f (fun q hq e => (hs q e).2.2.1 hq), h.g.off, h.g.wd⟩, h.s.carry f fun e => (hs Bs e).2.2.2.1 rfl, h.d.carry f fun e => (hs Bd e).2.2.2.2 rfl, h.ls, h.ld, h.zs, h.zd, h.ne, h.ys⟩
theorem On.seen {x : Int} (h : On W w a Z c y l Bs ns ss Bd nd ds) (hs : Om w' Bs (ns + 1) (x :: ss)) (f : Fr (fun i => i = Bs) w w') : On W w' a Z c y l Bs (ns + 1) (x :: ss) Bd nd ds :=
  ⟨h.k.other f fun i e => by subst e; exact ⟨h.ls, h.zs⟩, ⟨own_carry h.g.row f (fun q hq e => (h.ys q hq).1 e), h.g.off, h.g.wd⟩, hs, h.d.carry f (fun e => h.ne e.symm), h.ls, h.ld, h.zs, h.zd, h.ne, h.ys⟩
theorem On.died {x : Int} (h : On W w a Z c y l Bs ns ss Bd nd ds) (hs : Om w' Bd (nd + 1) (x :: ds)) (f : Fr (fun i => i = Bd) w w') : On W w' a Z c y l Bs ns ss Bd (nd + 1) (x :: ds) :=
  ⟨h.k.other f fun i e => by subst e; exact ⟨h.ld, h.zd⟩, ⟨own_carry h.g.row f (fun q hq e => (h.ys q hq).2 e), h.g.off, h.g.wd⟩, h.s.carry f h.ne, hs, h.ls, h.ld, h.zs, h.zd, h.ne, h.ys⟩
theorem On.pushed {g cap : Nat} {z : Int} (h : On W w a Z c y l Bs ns ss Bd nd ds) (hG : Gv W w' Z (.slice (some ⟨g, 0, none⟩) (l.length + 1) cap) (l ++ [z])) (hK : Kn W w' a Z c) (f : Fr (fun k => y.ownBlock = some k) w w') (hs : y.ownBlock = some g ∨ w.heap.size ≤ g) : On W w' a Z c (.slice (some ⟨g, 0, none⟩) (l.length + 1) cap) (l ++ [z]) Bs ns ss Bd nd ds := by
  have h1 := h.s.lt
  have h2 := h.d.lt
  refine ⟨hK, hG, h.s.carry f (fun e => (h.ys Bs e).1 rfl), h.d.carry f (fun e => (h.ys Bd e).2 rfl), h.ls, h.ld, h.zs, h.zd, h.ne, fun q hq => ?_⟩
  simp only [Value.ownBlock, Option.some.injEq] at hq
  subst hq
  rcases hs with e | e
  · exact h.ys g e
  · exact ⟨by omega, by omega⟩
/-- A block that is new is no part of it. -/
theorem On.fresh (h : On W w a Z c y l Bs ns ss Bd nd ds) {i : Nat} (hi : w.heap.size ≤ i) : W.heap.size ≤ i ∧ ¬ Z i ∧ y.ownBlock ≠ some i ∧ i ≠ Bs ∧ i ≠ Bd := by
  have h1 := h.s.lt
  have h2 := h.d.lt
  have h3 := h.k.nw.le
  refine ⟨by omega, fun e => by have := h.k.m.zlt i e; omega, fun e => by have := (h.g.row.lt i e).2; omega, by omega, by omega⟩
end
/-- One more is put behind a row that was begun later than the rest. -/
theorem push_h {V w : World} {ops : Array Oper} {rest : List Oper} {o : Oper} {act : Act} {Q : Exit → Act → World → Prop} (hgd : o.guard = none) (s x : Operand)
    (ho : o.op = .call { callee := .builtin .append, args := #[s, x], argTypes := #[31, 31] }) {y : Value} {l : List Int} {z : Int}
    (hG : Gv V w (fun _ => False) y l) (hV : V.heap.size ≤ w.heap.size) (hz : 0 ≤ z ∧ z ≤ 18446744073709551615) (hl : l.length < 100000) (hs : act.eval s = y) (hx : act.eval x = .slice (some ⟨w.heap.size, 0, none⟩) 1 1)
    (h : ∀ g cap w', Gv V w' (fun _ => False) (.slice (some ⟨g, 0, none⟩) (l.length + 1) cap) (l ++ [z]) → Fr (fun k => V.heap.size ≤ k) w w' → wpList Tryd.prog ops Q rest (act.put o.dst (.slice (some ⟨g, 0, none⟩) (l.length + 1) cap)) w') : wpList Tryd.prog ops Q (o :: rest) act (w.alloc (.cells #[.int .u64 z] 32)) := by
  obtain ⟨i0, hi, hz0, hz1, hz2⟩ := u64_info
  refine wpList_append_sep hgd s x 31 ho V.heap.size 32 i0 (.int .u64 0) 1 8 Tryd.underlying31 hi hz0 hz1 hz2 rfl (by decide) y l.length (uc l) hs (hG.alloc _).row ⟨w.heap.size, 0, none⟩ 1 1 (by decide) [.int .u64 z] hx rfl ?_ ?_ (by unfold maxLen; omega) (by omega) (by simp; omega) ?_
  · intro j u hj
    match j, hj with
    | 0, hj => simp at hj; subst hj; simp [Addr.add]
  · intro u hu; simp at hu; subst hu; rfl
  · intro g cap w' hown hg hsep
    have f : Fr (fun k => V.heap.size ≤ k) w w' := ((Fr.refl _ w).alloc _).grown hg fun k e => .inl (hG.row.lt k e).1
    refine h g cap w' ⟨?_, fun g' e hg' => hg', fun v hv => ?_⟩ f
    · rw [show uc (l ++ [z]) = uc l ++ [.int .u64 z] by simp [uc], List.length_append]
      exact hown
    · rcases List.mem_append.1 hv with hv | hv
      · exact hG.wd v hv
      · simp at hv; subst hv; exact hz
theorem Gv.carry {V w w' : World} {S : Nat → Prop} {y : Value} {l : List Int} (h : Gv V w (fun _ => False) y l) (f : Fr S w w') (hs : ∀ i, S i → i < V.heap.size) : Gv V w' (fun _ => False) y l :=
  ⟨own_carry h.row f (fun q hq e => by have := (h.row.lt q hq).1; have := hs q e; omega), h.off, h.wd⟩
end Go.Proofs.YtcleheapfgapaaaDoor
