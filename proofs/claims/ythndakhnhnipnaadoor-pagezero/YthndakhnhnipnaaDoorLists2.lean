/-
  Lists of numbers, more: one more put behind a row, and where it lies; two lists held against each other.
-/
import Derived.Test.YthndakhnhnipnaaDoorLists
import Derived.Deep.QuietTactic
import Derived.BigQuiet
import Derived.LoopTactic
namespace Go.Proofs.YthndakhnhnipnaaDoor
open Go.RowKit

def nI (l : List Nat) : List Int := l.map fun n : Nat => (n : Int)
theorem nI_length (l : List Nat) : (nI l).length = l.length := by simp [nI]
theorem nI_snoc (l : List Nat) (x : Nat) : nI (l ++ [x]) = nI l ++ [(x : Int)] := by simp [nI]
theorem nI_get {l : List Nat} {i : Nat} (h : i < (nI l).length) : (nI l)[i] = ((l[i]'(by rwa [nI_length] at h) : Nat) : Int) := by simp [nI]
/-- One number is put behind a row of the call's own: where the row lies then. -/
theorem push1s {w : World} {ops : Array Oper} {rest : List Oper} {o : Oper} {a : Act} {Q : Exit → Act → World → Prop} (hgd : o.guard = none) (s x : Operand)
    (ho : o.op = .call { callee := .builtin .append, args := #[s, x], argTypes := #[85, 85] })
    (base : Nat) (y : Value) (ys : List Int) (z : Int) (hs : a.eval s = y) (hown : w.ownsRow base 3 1 y ys.length (ic ys))
    (B : Nat) (hx : a.eval x = .slice (some ⟨B, 0, none⟩) 1 1) (hz : w.cell? ⟨B, 0, none⟩ = some (.int .i64 z)) (hl : ys.length < 100000) (hbase : base ≤ w.heap.size)
    (h : ∀ g cap w', w'.ownsRow base 3 1 (.slice (some ⟨g, 0, none⟩) (ys.length + 1) cap) (ys.length + 1) (ic (ys ++ [z])) → w.grownBy w' y.ownBlock → (y.ownBlock = some g ∨ g = w.heap.size) → wpList Tryd.prog ops Q rest (a.put o.dst (.slice (some ⟨g, 0, none⟩) (ys.length + 1) cap)) w') : wpList Tryd.prog ops Q (o :: rest) a w := by
  obtain ⟨i0, hi, hz0, hz1, hz2⟩ := info_parts Tryd.infoInt
  refine wpList_append_sep hgd s x 85 ho base 3 i0 (.int .i64 0) 1 8 Tryd.underlying85 hi hz0 hz1 hz2 rfl (by decide) y ys.length (ic ys) hs hown ⟨B, 0, none⟩ 1 1 (by decide) [.int .i64 z] hx rfl ?_ ?_ (by unfold maxLen; omega) (by omega) hbase ?_
  · intro j u hj
    match j, hj with
    | 0, hj => simp at hj; subst hj; simpa [Addr.add] using hz
  · intro u hu; simp at hu; subst hu; rfl
  · intro g cap w' hown' hg hw
    refine h g cap w' ?_ hg hw
    rw [ic_snoc]
    exact hown'
end Go.Proofs.YthndakhnhnipnaaDoor
