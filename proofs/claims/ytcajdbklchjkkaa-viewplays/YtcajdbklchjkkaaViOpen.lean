/-
  Calls (structs of 5 numbers) as they come in, in a slice and by value, opened.
-/
import Derived.Test.YtcajdbklchjkkaaRows
import Derived.Test.YtcajdbklchjkkaaTaOpen
import Derived.ProofKit
import Derived.OpenShut
import Derived.Deep.Slices
import Derived.Deep.Fields
namespace Go.Proofs.Ytcajdbklchjkkaa
open Go.ChangeShapes Go.WideShapes Go.ChangeAt Go.RowKit

/-- Calls that lie where a slice says. -/
def OpsAtV (w : World) (ad : Option Addr) (l : List (Int × Int × Int × Int × ByteArray)) : Prop := ∀ i (h : i < l.length), ∃ b off, ad = some ⟨b, off, none⟩ ∧ b < w.heap.size ∧ w.cell? ⟨b, off + i * 5, none⟩ = some (.int .i64 l[i].1) ∧ w.cell? ⟨b, off + i * 5 + 1, none⟩ = some (.int .i64 l[i].2.1) ∧ w.cell? ⟨b, off + i * 5 + 2, none⟩ = some (.int .i64 l[i].2.2.1) ∧ w.cell? ⟨b, off + i * 5 + 3, none⟩ = some (.int .i64 l[i].2.2.2.1) ∧ w.cell? ⟨b, off + i * 5 + 4, none⟩ = some (.string l[i].2.2.2.2) ∧ (-9223372036854775808 ≤ l[i].1 ∧ l[i].1 ≤ 9223372036854775807) ∧ (-9223372036854775808 ≤ l[i].2.1 ∧ l[i].2.1 ≤ 9223372036854775807) ∧ (-9223372036854775808 ≤ l[i].2.2.1 ∧ l[i].2.2.1 ≤ 9223372036854775807) ∧ (-9223372036854775808 ≤ l[i].2.2.2.1 ∧ l[i].2.2.2.1 ≤ 9223372036854775807) ∧ l[i].2.2.2.2.size ≤ maxLen
theorem OpsAtV.fr {w w' : World} {ad : Option Addr} {l : List (Int × Int × Int × Int × ByteArray)} (h : OpsAtV w ad l) (hf : Fr (fun _ => False) w w') : OpsAtV w' ad l := fun i hi => by
  obtain ⟨b, off, h1, h2, h3, h4, h5, h6, h7, hB⟩ := h i hi
  exact ⟨b, off, h1, by have := hf.size; omega, (World.cell?_of_block (hf.block b h2 (fun h => h))).trans h3, (World.cell?_of_block (hf.block b h2 (fun h => h))).trans h4, (World.cell?_of_block (hf.block b h2 (fun h => h))).trans h5, (World.cell?_of_block (hf.block b h2 (fun h => h))).trans h6, (World.cell?_of_block (hf.block b h2 (fun h => h))).trans h7, hB⟩

theorem Try.cellsStr : Try.prog.cellsOf 9 = 1 := by kernel_rfl
theorem Try.cellsOpV : Try.prog.cellsOf 43 = 5 := by kernel_rfl
section
variable {H : Type} {enc : TypeId × Value → H} {w : World} {base : Nat} {spare : Nat → Bool} {held : Bool} {v : Value} {d : DataW H} {p : List MemPlace} {r : Reach} {b0 : Nat}
set_option maxRecDepth 20000 in
theorem open_opV {fuel : Nat} {cs : List Value} {x : DataW H × List MemPlace} (h : DataW.trod enc Try.prog w base spare held fuel 43 cs = some x) : ∃ o : Int × Int × Int × Int × ByteArray, cs = [.int .i64 o.1, .int .i64 o.2.1, .int .i64 o.2.2.1, .int .i64 o.2.2.2.1, .string o.2.2.2.2] ∧ (-9223372036854775808 ≤ o.1 ∧ o.1 ≤ 9223372036854775807) ∧ (-9223372036854775808 ≤ o.2.1 ∧ o.2.1 ≤ 9223372036854775807) ∧ (-9223372036854775808 ≤ o.2.2.1 ∧ o.2.2.1 ≤ 9223372036854775807) ∧ (-9223372036854775808 ≤ o.2.2.2.1 ∧ o.2.2.2.1 ≤ 9223372036854775807) ∧ o.2.2.2.2.size ≤ maxLen := by
  obtain ⟨xs, n, _, _, hl, hxl, hf⟩ := DataW.trod_struct Try.underlying43 h
  rw [Try.cellsOpV] at hl
  obtain ⟨a, b, c, d, e, rfl⟩ : ∃ a b c d e, cs = [a, b, c, d, e] := by
    match cs, hl with
    | [a, b, c, d, e], _ => exact ⟨a, b, c, d, e, rfl⟩
  have h0 : DataW.trod enc Try.prog w base spare held n 3 (List.take (Try.prog.cellsOf 3) (List.drop 0 [a, b, c, d, e])) = xs[0]? := hf 0 _ rfl
  have h1 : DataW.trod enc Try.prog w base spare held n 3 (List.take (Try.prog.cellsOf 3) (List.drop 1 [a, b, c, d, e])) = xs[1]? := hf 1 _ rfl
  have h2 : DataW.trod enc Try.prog w base spare held n 3 (List.take (Try.prog.cellsOf 3) (List.drop 2 [a, b, c, d, e])) = xs[2]? := hf 2 _ rfl
  have h3 : DataW.trod enc Try.prog w base spare held n 3 (List.take (Try.prog.cellsOf 3) (List.drop 3 [a, b, c, d, e])) = xs[3]? := hf 3 _ rfl
  have h4 : DataW.trod enc Try.prog w base spare held n 9 (List.take (Try.prog.cellsOf 9) (List.drop 4 [a, b, c, d, e])) = xs[4]? := hf 4 _ rfl
  rw [Try.cellsInt] at h0 h1 h2 h3
  rw [Try.cellsStr] at h4
  have hx : ∀ i, i < 5 → ∃ y, xs[i]? = some y := fun i hi => ⟨_, List.getElem?_eq_getElem (by rw [hxl]; exact hi)⟩
  obtain ⟨y0, e0⟩ := hx 0 (by omega)
  rw [e0] at h0
  obtain ⟨n0, g0, _, q0⟩ := DataW.trod_int Try.underlying3 h0
  obtain ⟨y1, e1⟩ := hx 1 (by omega)
  rw [e1] at h1
  obtain ⟨n1, g1, _, q1⟩ := DataW.trod_int Try.underlying3 h1
  obtain ⟨y2, e2⟩ := hx 2 (by omega)
  rw [e2] at h2
  obtain ⟨n2, g2, _, q2⟩ := DataW.trod_int Try.underlying3 h2
  obtain ⟨y3, e3⟩ := hx 3 (by omega)
  rw [e3] at h3
  obtain ⟨n3, g3, _, q3⟩ := DataW.trod_int Try.underlying3 h3
  obtain ⟨y4, e4⟩ := hx 4 (by omega)
  rw [e4] at h4
  obtain ⟨n4, g4, _, q4⟩ := DataW.trod_string Try.underlying9 h4
  simp at g0 g1 g2 g3 g4
  subst g0 g1 g2 g3 g4
  exact ⟨(n0, n1, n2, n3, n4), rfl, bounds_i64 q0, bounds_i64 q1, bounds_i64 q2, bounds_i64 q3, q4⟩
set_option maxRecDepth 20000 in
theorem open_scriptV (hv : Value.okWide Try.prog w r b0 22 v) (h : DataW.Trod enc Try.prog w base spare held 22 v d p) :
    ∃ ad cap l, v = .slice ad (List.length l) cap ∧ OpsAtV w ad l ∧ l.length ≤ maxLen := by
  obtain ⟨a0, len0, cap0, rfl⟩ := okWide_slice Try.underlying22 hv
  obtain ⟨fuel, hf⟩ := h
  rcases Go.Deep.open_slice Try.underlying22 hf with ⟨hc, _⟩ | ⟨a, len, cap, m, n, D, Pl, hc, _, hl, hm, hmm, _, hx⟩
  · simp [Value.cells] at hc
    exact ⟨a0, cap0, [], by rw [hc.2.1]; rfl, fun i hi => by simp at hi, by simp⟩
  · simp [Value.cells] at hc
    obtain ⟨rfl, rfl, rfl⟩ := hc
    have hle : len0 ≤ m := by rw [hmm]; split <;> omega
    rw [Try.cellsOpV] at hx
    obtain ⟨b, off, spot⟩ := a
    have key : ∀ i, i < len0 → ∃ o : Int × Int × Int × Int × ByteArray, (w.cell? (((⟨b, off, spot⟩ : Addr).add (i * 5)).add 0) = some (.int .i64 o.1) ∧ w.cell? (((⟨b, off, spot⟩ : Addr).add (i * 5)).add 1) = some (.int .i64 o.2.1) ∧ w.cell? (((⟨b, off, spot⟩ : Addr).add (i * 5)).add 2) = some (.int .i64 o.2.2.1) ∧ w.cell? (((⟨b, off, spot⟩ : Addr).add (i * 5)).add 3) = some (.int .i64 o.2.2.2.1) ∧ w.cell? (((⟨b, off, spot⟩ : Addr).add (i * 5)).add 4) = some (.string o.2.2.2.2)) ∧ (-9223372036854775808 ≤ o.1 ∧ o.1 ≤ 9223372036854775807) ∧ (-9223372036854775808 ≤ o.2.1 ∧ o.2.1 ≤ 9223372036854775807) ∧ (-9223372036854775808 ≤ o.2.2.1 ∧ o.2.2.1 ≤ 9223372036854775807) ∧ (-9223372036854775808 ≤ o.2.2.2.1 ∧ o.2.2.2.1 ≤ 9223372036854775807) ∧ o.2.2.2.2.size ≤ maxLen := by
      intro i hi
      obtain ⟨cs, h1, h2⟩ := hx i (by omega)
      obtain ⟨_, _, hcell⟩ := World.cells?_some h1
      obtain ⟨o, e, hB⟩ := open_opV h2
      have h3 := hcell 0 (by omega)
      have h4 := hcell 1 (by omega)
      have h5 := hcell 2 (by omega)
      have h6 := hcell 3 (by omega)
      have h7 := hcell 4 (by omega)
      rw [e] at h3 h4 h5 h6 h7
      exact ⟨o, ⟨by simpa using h3, by simpa using h4, by simpa using h5, by simpa using h6, by simpa using h7⟩, hB⟩
    obtain ⟨l, hlen, hops⟩ := list_of len0 key
    refine ⟨_, _, l, by rw [hlen], fun i hi => ?_, by rw [hlen]; omega⟩
    obtain ⟨⟨h3, h4, h5, h6, h7⟩, hB⟩ := hops i hi
    have hsp : spot = none := by
      have h3 := World.cell?_spot (hops 0 (by omega)).1.1
      simpa [Addr.add] using h3
    subst hsp
    rw [add_plain, add_plain] at h3 h4 h5 h6 h7
    exact ⟨b, off, rfl, World.block_lt_of_cell? w _ h3, h3, h4, h5, h6, h7, hB⟩
end
end Go.Proofs.Ytcajdbklchjkkaa
