/-
  Two shelves beside each other, and a list of numbers of the call's own.
-/
import Derived.Test.YtifoeakgefgddaaDoorShOrder
import Derived.Test.YtifoeakgefgddaaDoorShOpen
namespace Go.Proofs.YtifoeakgefgddaaDoor
open Go.RowKit

/-- Two shelves that were made behind W and know nothing of each other. -/
structure Two (W w : World) (a b : Nat) (has : List Bool) (a2 b2 : Nat) (has2 : List Bool) : Prop where
  one : Mine W w a b has
  two : Mine W w a2 b2 has2
  d1 : b ≠ a2
  d2 : b ≠ b2
  d3 : b2 ≠ a

section
variable {W w w' : World} {a b a2 b2 : Nat} {has has' has2 has2' : List Bool}
theorem Two.step1 (h : Two W w a b has a2 b2 has2) (h1 : Sh w' a b has') (hf : Fr (fun i => i = b) w w') : Two W w' a b has' a2 b2 has2 :=
  ⟨h.one.step h1 hf, h.two.kept hf (fun i he => by subst he; exact ⟨h.one.lb, h.d1, h.d2⟩), h.d1, h.d2, h.d3⟩
theorem Two.step2 (h : Two W w a b has a2 b2 has2) (h1 : Sh w' a2 b2 has2') (hf : Fr (fun i => i = b2) w w') : Two W w' a b has a2 b2 has2' :=
  ⟨h.one.kept hf (fun i he => by subst he; exact ⟨h.two.lb, h.d3, fun e => h.d2 e.symm⟩), h.two.step h1 hf, h.d1, h.d2, h.d3⟩
theorem Two.kept {S : Nat → Prop} (h : Two W w a b has a2 b2 has2) (hf : Fr S w w') (h1 : ∀ i, S i → W.heap.size ≤ i ∧ i ≠ a ∧ i ≠ b ∧ i ≠ a2 ∧ i ≠ b2) : Two W w' a b has a2 b2 has2 :=
  ⟨h.one.kept hf (fun i he => ⟨(h1 i he).1, (h1 i he).2.1, (h1 i he).2.2.1⟩), h.two.kept hf (fun i he => ⟨(h1 i he).1, (h1 i he).2.2.2.1, (h1 i he).2.2.2.2⟩), h.d1, h.d2, h.d3⟩
theorem t_take1 (h : Two W w a b has a2 b2 has2) :
    Calls Tryd.prog 13 #[.pointer (some ⟨a, 0, none⟩)] w fun e w' => e = .returned (.tuple #[.int .i64 (takV has), .int .i64 (takE has)]) ∧ Two W w' a b (takS has) a2 b2 has2 :=
  (s_take h.one.sh).mono fun _ _ ⟨he, hs, hf⟩ => ⟨he, h.step1 hs hf⟩
theorem t_take2 (h : Two W w a b has a2 b2 has2) :
    Calls Tryd.prog 13 #[.pointer (some ⟨a2, 0, none⟩)] w fun e w' => e = .returned (.tuple #[.int .i64 (takV has2), .int .i64 (takE has2)]) ∧ Two W w' a b has a2 b2 (takS has2) :=
  (s_take h.two.sh).mono fun _ _ ⟨he, hs, hf⟩ => ⟨he, h.step2 hs hf⟩
theorem m_copy (h : Mine W w a b has) :
    Calls Tryd.prog 12 #[.pointer (some ⟨a, 0, none⟩)] w fun e w' => ∃ a2 b2, e = .returned (.pointer (some ⟨a2, 0, none⟩)) ∧ Two W w' a b has a2 b2 has :=
  (s_copy h.sh).mono fun _ _ ⟨a2, b2, he, hs, hf, l1, l2⟩ => by
    have g1 := h.sh.lta
    have g2 := h.sh.ltb
    have g3 := h.fr.size
    exact ⟨a2, b2, he, h.kept hf (fun _ h => h.elim), ⟨hs, by omega, by omega, h.fr.trans hf, h.pos⟩, by omega, by omega, by omega⟩
end

/-- Numbers as cells. -/
def ic (l : List Int) : List Value := l.map fun x => Value.int .i64 x
theorem ic_length (l : List Int) : (ic l).length = l.length := by simp [ic]
theorem ic_append (l m : List Int) : ic (l ++ m) = ic l ++ ic m := by simp [ic]
/-- Two shelves, and a list of the call's own behind them. -/
structure Three (W w : World) (m a b : Nat) (has : List Bool) (a2 b2 : Nat) (has2 : List Bool) (v : Value) (ks : List Int) : Prop where
  two : Two W w a b has a2 b2 has2
  la : a < m
  lb : b < m
  la2 : a2 < m
  lb2 : b2 < m
  row : w.ownsRow m 3 1 v ks.length (ic ks)
  lm : W.heap.size ≤ m
  lw : m ≤ w.heap.size
section
variable {W w w' : World} {m a b a2 b2 : Nat} {has has' has2 : List Bool} {v : Value} {ks : List Int}
theorem row_kept {S : Nat → Prop} (h : w.ownsRow m 3 1 v ks.length (ic ks)) (hf : Fr S w w') (hs : ∀ i, S i → i < m) : w'.ownsRow m 3 1 v ks.length (ic ks) := by
  refine ⟨h.1, ?_⟩
  rcases h.2 with hn | ⟨g, cap, cur, rfl, hb, hgg, rest⟩
  · exact .inl hn
  · refine .inr ⟨g, cap, cur, rfl, hb, ?_, rest⟩
    rw [hf.block g (Array.getElem?_eq_some_iff.1 hgg).1 (fun h => by have := hs g h; omega)]
    exact hgg
theorem Three.step1 (h : Three W w m a b has a2 b2 has2 v ks) (h1 : Sh w' a b has') (hf : Fr (fun i => i = b) w w') : Three W w' m a b has' a2 b2 has2 v ks :=
  ⟨h.two.step1 h1 hf, h.la, h.lb, h.la2, h.lb2, row_kept h.row hf (fun i he => by have := h.lb; omega), h.lm, by have := h.lw; have := hf.size; omega⟩
theorem r_takeAt (h : Three W w m a b has a2 b2 has2 v ks) (k : Int) :
    Calls Tryd.prog 22 #[.pointer (some ⟨a, 0, none⟩), .int .i64 k] w fun e w' => e = .returned (.int .i64 (taE has k)) ∧ Three W w' m a b (taS has k) a2 b2 has2 v ks :=
  (s_takeAt h.two.one.sh k).mono fun _ _ ⟨he, hs, hf⟩ => ⟨he, h.step1 hs hf⟩
theorem r_give (h : Three W w m a b has a2 b2 has2 v ks) (k : Int) :
    Calls Tryd.prog 23 #[.pointer (some ⟨a, 0, none⟩), .int .i64 k] w fun e w' => e = .returned (.int .i64 (giE has k)) ∧ Three W w' m a b (giS has k) a2 b2 has2 v ks :=
  (s_give h.two.one.sh k).mono fun _ _ ⟨he, hs, hf⟩ => ⟨he, h.step1 hs hf⟩
theorem Three.start (h : Two W w a b has a2 b2 has2) : Three W w w.heap.size a b has a2 b2 has2 (.slice none 0 0) [] :=
  ⟨h, h.one.sh.lta, h.one.sh.ltb, h.two.sh.lta, h.two.sh.ltb, World.ownsRow_nil _ _ _ _, h.one.fr.size, Nat.le_refl _⟩
theorem Three.fr (h : Three W w m a b has a2 b2 has2 v ks) : Fr (fun _ => False) W w := h.two.one.fr
theorem Three.shape (h : Three W w m a b has a2 b2 has2 v ks) : ∃ ad cap, v = .slice ad ks.length cap := by
  rcases h.row.2 with ⟨h1, h2⟩ | ⟨g, cap, cur, h1, _⟩
  · exact ⟨none, 0, by rw [h1, h2]⟩
  · exact ⟨_, _, h1⟩
theorem Three.at' {ad : Option Addr} {cap : Nat} (h : Three W w m a b has a2 b2 has2 (.slice ad ks.length cap) ks) (j : Nat) (hj : j < ks.length) : ∃ g, ad = some ⟨g, 0, none⟩ ∧ w.cell? ⟨g, j, none⟩ = some (.int .i64 ks[j]) := by
  rcases h.row.2 with ⟨h1, h2⟩ | ⟨g, cap', cur, h1, _⟩
  · omega
  · simp only [Value.slice.injEq] at h1
    obtain ⟨rfl, _, rfl⟩ := h1
    refine ⟨g, rfl, ?_⟩
    rw [h.row.cellAt j (by omega)]
    simp [ic, hj]
theorem Three.grown (h : Three W w m a b has a2 b2 has2 v ks) (o : Obj) {g cap : Nat} {k : Int} (hr : w'.ownsRow m 3 1 (.slice (some ⟨g, 0, none⟩) (ks.length + 1) cap) (ks.length + 1) (ic ks ++ [.int .i64 k])) (hg : (w.alloc o).grownBy w' v.ownBlock) : Three W w' m a b has a2 b2 has2 (.slice (some ⟨g, 0, none⟩) (ks.length + 1) cap) (ks ++ [k]) := by
  have hf : Fr (fun i => m ≤ i) w w' := ((Fr.refl _ w).alloc o).grown hg (fun y hy => .inl (h.row.lt y hy).1)
  have e : (ks ++ [k]).length = ks.length + 1 := by simp
  have g1 := h.la; have g2 := h.lb; have g3 := h.la2; have g4 := h.lb2; have g5 := h.lm
  refine ⟨h.two.kept hf (fun i hi => ⟨by omega, by omega, by omega, by omega, by omega⟩), h.la, h.lb, h.la2, h.lb2, ?_, h.lm, by have := h.lw; have := hf.size; omega⟩
  rw [e, ic_append]
  exact hr
end
theorem takeAll_le : ∀ (ks : List Int) (l : List Bool), (takeAll l ks).1.length ≤ ks.length
  | [], _ => Nat.le_refl _
  | k :: r, l => by
    simp only [takeAll]
    split
    · have := takeAll_le r (taS l k); simp; omega
    · have := takeAll_le r l; simp; omega
theorem Tryd.infoInt : (Tryd.prog.info? 3).map (fun i => (i.zero, i.size, i.bytes)) = some (some (.int .i64 0), 1, 8) := by kernel_rfl
end Go.Proofs.YtifoeakgefgddaaDoor
