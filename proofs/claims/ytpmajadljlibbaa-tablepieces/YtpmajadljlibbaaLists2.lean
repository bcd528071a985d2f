/-
  Lists of numbers, more: one more put behind a row, and where it lies; two lists held against each other.
-/
import Derived.Test.YtpmajadljlibbaaLists
import Derived.Deep.QuietTactic
import Derived.BigQuiet
import Derived.LoopTactic
namespace Go.Proofs.Ytpmajadljlibbaa
open Go.RowKit

def nI (l : List Nat) : List Int := l.map fun n : Nat => (n : Int)
theorem nI_length (l : List Nat) : (nI l).length = l.length := by simp [nI]
theorem nI_snoc (l : List Nat) (x : Nat) : nI (l ++ [x]) = nI l ++ [(x : Int)] := by simp [nI]
theorem nI_get {l : List Nat} {i : Nat} (h : i < (nI l).length) : (nI l)[i] = ((l[i]'(by rwa [nI_length] at h) : Nat) : Int) := by simp [nI]
/-- One number is put behind a row of the call's own: where the row lies then. -/
theorem push1s {w : World} {ops : Array Oper} {rest : List Oper} {o : Oper} {a : Act} {Q : Exit → Act → World → Prop} (hgd : o.guard = none) (s x : Operand)
    (ho : o.op = .call { callee := .builtin .append, args := #[s, x], argTypes := #[44, 44] })
    (base : Nat) (y : Value) (ys : List Int) (z : Int) (hs : a.eval s = y) (hown : w.ownsRow base 3 1 y ys.length (ic ys))
    (B : Nat) (hx : a.eval x = .slice (some ⟨B, 0, none⟩) 1 1) (hz : w.cell? ⟨B, 0, none⟩ = some (.int .i64 z)) (hl : ys.length < 100000) (hbase : base ≤ w.heap.size)
    (h : ∀ g cap w', w'.ownsRow base 3 1 (.slice (some ⟨g, 0, none⟩) (ys.length + 1) cap) (ys.length + 1) (ic (ys ++ [z])) → w.grownBy w' y.ownBlock → (y.ownBlock = some g ∨ g = w.heap.size) → wpList Try.prog ops Q rest (a.put o.dst (.slice (some ⟨g, 0, none⟩) (ys.length + 1) cap)) w') : wpList Try.prog ops Q (o :: rest) a w := by
  obtain ⟨i0, hi, hz0, hz1, hz2⟩ := info_parts Try.infoInt
  refine wpList_append_sep hgd s x 44 ho base 3 i0 (.int .i64 0) 1 8 Try.underlying44 hi hz0 hz1 hz2 rfl (by decide) y ys.length (ic ys) hs hown ⟨B, 0, none⟩ 1 1 (by decide) [.int .i64 z] hx rfl ?_ ?_ (by unfold maxLen; omega) (by omega) hbase ?_
  · intro j u hj
    match j, hj with
    | 0, hj => simp at hj; subst hj; simpa [Addr.add] using hz
  · intro u hu; simp at hu; subst hu; rfl
  · intro g cap w' hown' hg hw
    refine h g cap w' ?_ hg hw
    rw [ic_snoc]
    exact hown'
set_option maxRecDepth 20000 in
/-- Two lists that are the same. -/
theorem same_yes {w : World} {ad1 ad2 : Option Addr} {l : List Int} (c1 c2 : Nat) (h1 : NumsAt w ad1 l) (h2 : NumsAt w ad2 l) (hl : l.length ≤ 1000) : Calls Try.prog 24 #[.slice ad1 l.length c1, .slice ad2 l.length c2] w fun e w' => e = .returned (.bool true) ∧ Fr (fun _ => False) w w' := by
  have H1 := hid h1
  have H2 := hid h2
  clear h1 h2
  go_enter Try.func24, Try.ntmps24
  go_wp2
  go_loopw [5] (fun i wr => ∃ j : Nat, j ≤ l.length ∧ i = .int .i64 j ∧ Hid (Fr (fun _ => False) w wr)) (fun i _ => l.length - (intOf i).toNat)
  case atStart => exact ⟨0, by omega, rfl, Fr.refl _ _⟩
  case round =>
    obtain ⟨j, hj, rfl, HF⟩ := hrel
    by_cases hlt : j < l.length
    · obtain ⟨b1, o1, rfl, _, k1⟩ := H1.out.fr HF.out j hlt
      obtain ⟨b2, o2, rfl, _, k2⟩ := H2.out.fr HF.out j hlt
      have HF2 := hid (fun n => HF.out.drewN n)
      clear HF H1 H2
      generalize l[j] = x at *
      go_wp2
      go_quiet (fail)
      go_wp2
      go_roundw
      case rel => exact ⟨j + 1, by omega, by go_num, HF2.out _⟩
      case measure => simp [intOf]; omega
    · obtain rfl : j = l.length := by omega
      go_wp2
      go_ret
      exact ⟨by simp, HF.out⟩
end Go.Proofs.Ytpmajadljlibbaa
