/-
  The program's table of handles in memory: a block of 12484 cells, and two shelves.
-/
import Derived.Test.YtcleheapfgapaaaDoorRows
import Derived.Test.YtcleheapfgapaaaDoorCaTab
import Derived.Test.YtcleheapfgapaaaDoorSfMore
namespace Go.Proofs.YtcleheapfgapaaaDoor
open Go.RowKit

/-- What lies in the table's cell of a number. -/
def ckv (T nx : Int) (L : List Sl) (o s : Nat) (i : Nat) : Value :=
  if i < 4 then (if i = 0 then .int .i64 T else if i = 1 then .int .i64 nx else if i = 2 then .pointer (some ⟨o, 0, none⟩) else .pointer (some ⟨s, 0, none⟩))
  else if i % 3 = 1 then .int .i64 (hA L (((i - 4) / 3 : Nat) : Int)) else if i % 3 = 2 then .int .i64 (hR L (((i - 4) / 3 : Nat) : Int)) else .int .i64 (hN L (((i - 4) / 3 : Nat) : Int))
theorem ckv_one (T nx : Int) (L : List Sl) (o s : Nat) (i : Nat) : (ckv T nx L o s i).oneCell' = true := by
  unfold ckv
  repeat' split
  all_goals rfl
section
variable (T nx : Int) (L : List Sl) (o s : Nat) (k : Nat)
theorem ckv_a : ckv T nx L o s (4 + k * 3) = .int .i64 (hA L k) := by unfold ckv; rw [if_neg (by omega), if_pos (by omega), show (4 + k * 3 - 4) / 3 = k by omega]
theorem ckv_r : ckv T nx L o s (4 + k * 3 + 1) = .int .i64 (hR L k) := by unfold ckv; rw [if_neg (by omega), if_neg (by omega), if_pos (by omega), show (4 + k * 3 + 1 - 4) / 3 = k by omega]
theorem ckv_n : ckv T nx L o s (4 + k * 3 + 2) = .int .i64 (hN L k) := by unfold ckv; rw [if_neg (by omega), if_neg (by omega), if_neg (by omega), show (4 + k * 3 + 2 - 4) / 3 = k by omega]
end
/-- Cells that are a table's. -/
structure Ck (cs : Array Value) (T nx : Int) (L : List Sl) (o s : Nat) : Prop where
  sz : cs.size = 12484
  at_ : ∀ i, i < 12484 → cs[i]? = some (ckv T nx L o s i)
/-- In w there lies a table of the program's at block a: its shelves lie at o (and ob), s (and sb). -/
structure Kt (w : World) (a o ob s sb : Nat) (c : Ct) : Prop where
  st : ∃ cs, w.heap[a]? = some (.cells cs 68 (0, 0)) ∧ Ck cs c.T c.nx c.L o s
  sho : Sf.Sh w o ob (tkn c.L 0 4096)
  shs : Sf.Sh w s sb (tkn c.L 4096 64)
  ne : (a ≠ o ∧ a ≠ ob) ∧ (a ≠ s ∧ a ≠ sb) ∧ (o ≠ s ∧ o ≠ sb) ∧ ob ≠ s ∧ ob ≠ sb
  a0 : 0 < a
  ok : c.Ok
section
variable {w w' : World} {a o ob s sb : Nat} {c : Ct}
theorem Kt.lta (h : Kt w a o ob s sb c) : a < w.heap.size := by obtain ⟨cs, h1, _⟩ := h.st; exact (Array.getElem?_eq_some_iff.1 h1).1
theorem Kt.cell (h : Kt w a o ob s sb c) (i : Nat) (hi : i < 12484) : w.cell? ⟨a, i, none⟩ = some (ckv c.T c.nx c.L o s i) := by
  obtain ⟨cs, h1, h2⟩ := h.st
  have := h2.at_ i hi
  simpa [World.cell?, h1] using this
theorem Kt.fz (h : Kt w a o ob s sb c) (i : Nat) : w.frozen? ⟨a, i, none⟩ = false := by obtain ⟨cs, h1, _⟩ := h.st; simp [World.frozen?, h1]
theorem Kt.c0 (h : Kt w a o ob s sb c) : w.cell? ⟨a, 0, none⟩ = some (.int .i64 c.T) := h.cell 0 (by omega)
theorem Kt.c1 (h : Kt w a o ob s sb c) : w.cell? ⟨a, 1, none⟩ = some (.int .i64 c.nx) := h.cell 1 (by omega)
theorem Kt.c2 (h : Kt w a o ob s sb c) : w.cell? ⟨a, 2, none⟩ = some (.pointer (some ⟨o, 0, none⟩)) := h.cell 2 (by omega)
theorem Kt.c3 (h : Kt w a o ob s sb c) : w.cell? ⟨a, 3, none⟩ = some (.pointer (some ⟨s, 0, none⟩)) := h.cell 3 (by omega)
theorem Kt.ca (h : Kt w a o ob s sb c) (k : Nat) (hk : k < 4160) : w.cell? ⟨a, 4 + k * 3, none⟩ = some (.int .i64 (hA c.L k)) := by rw [h.cell _ (by omega), ckv_a]
theorem Kt.cr (h : Kt w a o ob s sb c) (k : Nat) (hk : k < 4160) : w.cell? ⟨a, 4 + k * 3 + 1, none⟩ = some (.int .i64 (hR c.L k)) := by rw [h.cell _ (by omega), ckv_r]
theorem Kt.cn (h : Kt w a o ob s sb c) (k : Nat) (hk : k < 4160) : w.cell? ⟨a, 4 + k * 3 + 2, none⟩ = some (.int .i64 (hN c.L k)) := by rw [h.cell _ (by omega), ckv_n]
theorem Kt.carry {S : Nat → Prop} (h : Kt w a o ob s sb c) (f : Fr S w w') (ha : ¬ S a) (ho : ¬ S o) (hob : ¬ S ob) (hs : ¬ S s) (hsb : ¬ S sb) (h0 : ¬ S 0) : Kt w' a o ob s sb c := by
  obtain ⟨cs, h1, h2⟩ := h.st
  exact ⟨⟨cs, by rw [f.block a h.lta ha]; exact h1, h2⟩, h.sho.carry f ho hob h0, h.shs.carry f hs hsb h0, h.ne, h.a0, h.ok⟩
theorem Kt.kept (h : Kt w a o ob s sb c) (f : Fr (fun _ => False) w w') : Kt w' a o ob s sb c := h.carry f id id id id id id
end
end Go.Proofs.YtcleheapfgapaaaDoor
