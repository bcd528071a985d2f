/-
  Slices of numbers and of calls as they come in, opened.
-/
import Derived.Test.YtcfeeeloceeicaaDoorRows
import Derived.Test.YtcfeeeloceeicaaDoorBase
import Derived.ProofKit
import Derived.OpenShut
import Derived.Deep.Slices
import Derived.Deep.Fields
namespace Go.Proofs.YtcfeeeloceeicaaDoor
open Go.ChangeShapes Go.WideShapes Go.ChangeAt Go.RowKit

/-- Numbers that lie where a slice says. -/
def NumsAt (w : World) (ad : Option Addr) (l : List Int) : Prop := ∀ i (h : i < l.length), ∃ b off, ad = some ⟨b, off, none⟩ ∧ b < w.heap.size ∧ w.cell? ⟨b, off + i, none⟩ = some (.int .i64 l[i])
/-- Calls (their kind and number) that lie where a slice says. -/
def OpsAt (w : World) (ad : Option Addr) (l : List (Int × Int)) : Prop := ∀ i (h : i < l.length), ∃ b off, ad = some ⟨b, off, none⟩ ∧ b < w.heap.size ∧ w.cell? ⟨b, off + i * 2, none⟩ = some (.int .i64 l[i].1) ∧ w.cell? ⟨b, off + i * 2 + 1, none⟩ = some (.int .i64 l[i].2)
theorem NumsAt.fr {w w' : World} {ad : Option Addr} {l : List Int} (h : NumsAt w ad l) (hf : Fr (fun _ => False) w w') : NumsAt w' ad l := fun i hi => by
  obtain ⟨b, off, h1, h2, h3⟩ := h i hi
  exact ⟨b, off, h1, by have := hf.size; omega, (World.cell?_of_block (hf.block b h2 (fun h => h))).trans h3⟩
theorem OpsAt.fr {w w' : World} {ad : Option Addr} {l : List (Int × Int)} (h : OpsAt w ad l) (hf : Fr (fun _ => False) w w') : OpsAt w' ad l := fun i hi => by
  obtain ⟨b, off, h1, h2, h3, h4⟩ := h i hi
  exact ⟨b, off, h1, by have := hf.size; omega, (World.cell?_of_block (hf.block b h2 (fun h => h))).trans h3, (World.cell?_of_block (hf.block b h2 (fun h => h))).trans h4⟩

theorem list_of {α : Type} {P : Nat → α → Prop} : ∀ n : Nat, (∀ i, i < n → ∃ o, P i o) → ∃ l : List α, l.length = n ∧ ∀ i (hi : i < l.length), P i l[i]
  | 0, _ => ⟨[], rfl, fun i hi => by simp at hi⟩
  | n + 1, h => by
    obtain ⟨l, hl, hp⟩ := list_of n (fun i hi => h i (by omega))
    obtain ⟨o, ho⟩ := h n (by omega)
    refine ⟨l ++ [o], by simp [hl], fun i hi => ?_⟩
    by_cases hlt : i < l.length
    · rw [List.getElem_append_left hlt]; exact hp i hlt
    · have e : i = l.length := by simp at hi; omega
      subst e
      rw [List.getElem_append_right (Nat.le_refl _)]
      simp only [Nat.sub_self, List.getElem_cons_zero, hl]
      exact ho

theorem Tryd.cellsInt : Tryd.prog.cellsOf 3 = 1 := by kernel_rfl
section
variable {H : Type} {enc : TypeId × Value → H} {w : World} {base : Nat} {spare : Nat → Bool} {held : Bool} {v : Value} {d : DataW H} {p : List MemPlace} {r : Reach} {b0 : Nat}
theorem open_nums (hv : Value.okWide Tryd.prog w r b0 37 v) (h : DataW.Trod enc Tryd.prog w base spare held 37 v d p) :
    ∃ ad cap l, v = .slice ad (List.length l) cap ∧ NumsAt w ad l ∧ l.length ≤ maxLen := by
  obtain ⟨a0, len0, cap0, rfl⟩ := okWide_slice Tryd.underlying37 hv
  obtain ⟨fuel, hf⟩ := h
  rcases Go.Deep.open_slice Tryd.underlying37 hf with ⟨hc, _⟩ | ⟨a, len, cap, m, n, D, Pl, hc, _, hl, hm, hmm, _, hx⟩
  · simp [Value.cells] at hc
    exact ⟨a0, cap0, [], by rw [hc.2.1]; rfl, fun i hi => by simp at hi, by simp⟩
  · simp [Value.cells] at hc
    obtain ⟨rfl, rfl, rfl⟩ := hc
    have hle : len0 ≤ m := by rw [hmm]; split <;> omega
    rw [Tryd.cellsInt] at hx
    obtain ⟨b, off, spot⟩ := a
    have key : ∀ i, i < len0 → ∃ o : Int, w.cell? ((⟨b, off, spot⟩ : Addr).add i) = some (.int .i64 o) := by
      intro i hi
      obtain ⟨cs, h1, h2⟩ := hx i (by omega)
      obtain ⟨_, _, hcell⟩ := World.cells?_some h1
      obtain ⟨o, e, _, _⟩ := DataW.trod_int Tryd.underlying3 h2
      have h3 := hcell 0 (by omega)
      rw [e] at h3
      have h4 : ((⟨b, off, spot⟩ : Addr).add (i * 1)).add 0 = (⟨b, off, spot⟩ : Addr).add i := by
        unfold Addr.add; split <;> simp_all
      rw [h4] at h3
      exact ⟨o, by simpa using h3⟩
    obtain ⟨l, hlen, hops⟩ := list_of len0 key
    refine ⟨_, _, l, by rw [hlen], fun i hi => ?_, by rw [hlen]; omega⟩
    have h1 := hops i hi
    have hsp : spot = none := by
      have h3 := World.cell?_spot (hops 0 (by omega))
      simpa [Addr.add] using h3
    subst hsp
    rw [add_plain] at h1
    exact ⟨b, off, rfl, World.block_lt_of_cell? w _ h1, h1⟩
end
end Go.Proofs.YtcfeeeloceeicaaDoor
