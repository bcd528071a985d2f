/-
  Lists of numbers in memory: those that come in, and rows of the call's own. New blocks may turn.
-/
import Derived.Test.YtcajdbklchjkkaaRows
import Derived.Test.YtcajdbklchjkkaaBase
import Derived.Deep.RegionHeld
import Derived.Deep.QuietTactic
import Derived.BigQuiet
import Derived.BigRegion
import Derived.BigFrame
import Derived.Laws.OwnMore
namespace Go.Proofs.Ytcajdbklchjkkaa
open Go.RowKit

theorem frOf {w w' : World} (f : ∃ m, w' = w.drewN m) : Fr (fun _ => False) w w' := by obtain ⟨m, rfl⟩ := f; exact (Fr.refl _ w).drewN m
/-- Numbers that lie where a slice says. -/
def NumsAt (w : World) (ad : Option Addr) (l : List Int) : Prop := ∀ i (h : i < l.length), ∃ b off, ad = some ⟨b, off, none⟩ ∧ b < w.heap.size ∧ w.cell? ⟨b, off + i, none⟩ = some (.int .i64 l[i])
/-- The numbers lie in no block of Z. -/
def Off (Z : Nat → Prop) (ad : Option Addr) (l : List Int) : Prop := ∀ b off, ad = some ⟨b, off, none⟩ → 0 < l.length → ¬ Z b
theorem NumsAt.carry {S : Nat → Prop} {w w' : World} {ad : Option Addr} {l : List Int} (h : NumsAt w ad l) (hf : Fr S w w') (ho : Off S ad l) : NumsAt w' ad l := fun i hi => by
  obtain ⟨b, off, h1, h2, h3⟩ := h i hi
  exact ⟨b, off, h1, by have := hf.size; omega, (World.cell?_of_block (hf.block b h2 (ho b off h1 (by omega)))).trans h3⟩
theorem NumsAt.fr {w w' : World} {ad : Option Addr} {l : List Int} (h : NumsAt w ad l) (hf : Fr (fun _ => False) w w') : NumsAt w' ad l := h.carry hf fun _ _ _ _ e => e
theorem NumsAt.alloc {w : World} {ad : Option Addr} {l : List Int} (h : NumsAt w ad l) (o : Obj) : NumsAt (w.alloc o) ad l := h.fr ((Fr.refl _ _).alloc o)
theorem nums_none (w : World) (ad : Option Addr) : NumsAt w ad [] := fun i hi => by simp at hi
/-- A piece of a list. -/
theorem NumsAt.drop {w : World} {b off : Nat} {l : List Int} (h : NumsAt w (some ⟨b, off, none⟩) l) (k : Nat) : NumsAt w (some ⟨b, off + k, none⟩) (l.drop k) := fun i hi => by
  rw [List.length_drop] at hi
  obtain ⟨b', off', h1, h2, h3⟩ := h (k + i) (by omega)
  simp only [Option.some.injEq, Addr.mk.injEq, and_true] at h1
  obtain ⟨rfl, rfl⟩ := h1
  refine ⟨b, off + k, rfl, h2, ?_⟩
  rw [List.getElem_drop, Nat.add_assoc]
  exact h3
theorem NumsAt.take {w : World} {ad : Option Addr} {l : List Int} (h : NumsAt w ad l) (k : Nat) : NumsAt w ad (l.take k) := fun i hi => by
  rw [List.length_take] at hi
  obtain ⟨b, off, h1, h2, h3⟩ := h i (by omega)
  exact ⟨b, off, h1, h2, by rw [List.getElem_take]; exact h3⟩
/-- Each number of a list lies somewhere that was there ahead. -/
theorem NumsAt.off {w : World} {Z : Nat → Prop} {ad : Option Addr} {l : List Int} (h : NumsAt w ad l) (hz : ∀ i, Z i → w.heap.size ≤ i) : Off Z ad l := fun b off e h0 hb => by
  obtain ⟨b', off', h1, h2, _⟩ := h 0 h0
  rw [e] at h1
  simp only [Option.some.injEq, Addr.mk.injEq, and_true] at h1
  have := hz b hb
  omega
/-- The answer is a list that lies somewhere new; with an error's number beside it. -/
def Ls (W w : World) (l : List Int) (e : Ending) : Prop := ∃ ad cap, e = .returned (.slice ad l.length cap) ∧ NumsAt w ad l ∧ ∀ b off, ad = some ⟨b, off, none⟩ → W.heap.size ≤ b
def LsE (W w : World) (l : List Int) (E : Int) (e : Ending) : Prop := ∃ ad cap, e = .returned (.tuple #[.slice ad l.length cap, .int .i64 E]) ∧ NumsAt w ad l ∧ ∀ b off, ad = some ⟨b, off, none⟩ → W.heap.size ≤ b
/-- New blocks may turn. -/
def Nw (w0 w : World) : Prop := Fr (fun k => w0.heap.size ≤ k) w0 w
theorem Nw.start (w : World) : Nw w w := Fr.refl _ _
theorem Nw.on {S : Nat → Prop} {w0 w w' : World} (h : Nw w0 w) (f : Fr S w w') (hs : ∀ i, S i → w0.heap.size ≤ i) : Nw w0 w' := Fr.trans' h f fun i _ e => hs i e
theorem Nw.kept {w0 w w' : World} (h : Nw w0 w) (f : Fr (fun _ => False) w w') : Nw w0 w' := h.on f fun _ e => e.elim
theorem Nw.alloc {w0 w : World} (h : Nw w0 w) (o : Obj) : Nw w0 (w.alloc o) := Fr.alloc h o
theorem Nw.fr {w0 w : World} (h : Nw w0 w) : Fr (fun _ => False) w0 w := Fr.new h
theorem Nw.le {w0 w : World} (h : Nw w0 w) : w0.heap.size ≤ w.heap.size := h.size
theorem Try.infoInt : (Try.prog.info? 3).map (fun i => (i.zero, i.size, i.bytes)) = some (some (.int .i64 0), 1, 8) := by kernel_rfl
def ic (l : List Int) : List Value := l.map fun x => Value.int .i64 x
theorem ic_length (l : List Int) : (ic l).length = l.length := by simp [ic]
theorem ic_one (l : List Int) : ∀ u ∈ ic l, u.oneCell' = true := by
  intro v hv; simp only [ic, List.mem_map] at hv; obtain ⟨x, _, rfl⟩ := hv; rfl
theorem ic_snoc (l : List Int) (x : Int) : ic (l ++ [x]) = ic l ++ [.int .i64 x] := by simp [ic]
theorem nums_row {w : World} {base g cap : Nat} {l : List Int} (h : w.ownsRow base 3 1 (.slice (some ⟨g, 0, none⟩) l.length cap) l.length (ic l)) : NumsAt w (some ⟨g, 0, none⟩) l := fun i hi => by
  refine ⟨g, 0, rfl, (h.lt g rfl).2, ?_⟩
  have := h.cells (g := g) rfl i (.int .i64 l[i]) (by simp [ic, hi])
  rw [add_plain] at this
  exact this
/-- A row of the call's own, as a list that lies somewhere new. -/
theorem row_list {w : World} {base : Nat} {y : Value} {ys : List Int} (h : w.ownsRow base 3 1 y ys.length (ic ys)) : ∃ yad ycap, y = .slice yad ys.length ycap ∧ NumsAt w yad ys ∧ ∀ b off, yad = some ⟨b, off, none⟩ → base ≤ b := by
  rcases h.2 with ⟨e1, e2⟩ | ⟨g, cap, cur, e1, hb, _⟩
  · have e3 : ys = [] := List.eq_nil_of_length_eq_zero e2
    subst e3
    exact ⟨none, 0, e1, fun i hi => by simp at hi, fun b off e => by cases e⟩
  · subst e1
    exact ⟨_, _, rfl, nums_row h, fun b off e => by simp only [Option.some.injEq, Addr.mk.injEq] at e; omega⟩
theorem row_carry {S : Nat → Prop} {w w' : World} {base : Nat} {e : TypeId} {size : Nat} {v : Value} {n : Nat} {xs : List Value} (h : w.ownsRow base e size v n xs) (f : Fr S w w') (hs : ∀ k, base ≤ k → ¬ S k) : w'.ownsRow base e size v n xs := by
  obtain ⟨h1, h2⟩ := h
  refine ⟨h1, ?_⟩
  rcases h2 with h2 | ⟨g, cap, cur, e1, hb, hc, rest⟩
  · exact .inl h2
  · exact .inr ⟨g, cap, cur, e1, hb, by rw [f.block g (Array.getElem?_eq_some_iff.1 hc).1 (hs g hb)]; exact hc, rest⟩
/-- A list that lies in a new block. -/
theorem nums_new {w w' : World} {B : Nat} {l : List Int} {T : TypeId} (h : w.heap[B]? = some (.cells (ic l).toArray T (0, 0))) (f : Fr (fun _ => False) w w') : NumsAt w' (some ⟨B, 0, none⟩) l := fun i hi => by
  have hb := (Array.getElem?_eq_some_iff.1 h).1
  refine ⟨B, 0, rfl, by have := f.size; omega, ?_⟩
  rw [World.cell?_of_block (f.block B hb id)]
  simp [World.cell?, h, hi, ic]
theorem made_ints (n : Nat) : madeCells #[Value.int .i64 0] n = (ic (List.replicate n 0)).toArray := by
  apply Array.ext'
  rw [toList_madeCells_one]
  simp [ic]
end Go.Proofs.Ytcajdbklchjkkaa
