/-
  What is asked and what is picked, as they come in, opened; the law DemandEnough for whatever comes in.
-/
import Derived.Test.YtcfeeeloceeicaaDoorDmLoop
import Derived.Test.YtcfeeeloceeicaaDoorShOpen
namespace Go.Proofs.YtcfeeeloceeicaaDoor
open Go.ChangeShapes Go.WideShapes Go.ChangeAt Go.RowKit

theorem cellsAsk : Tryd.prog.cellsOf 41 = 2 := by kernel_rfl
theorem cellsByte : Tryd.prog.cellsOf 5 = 1 := by kernel_rfl
section
variable {H : Type} {enc : TypeId × Value → H} {w : World} {base : Nat} {spare : Nat → Bool} {held : Bool} {v : Value} {d : DataW H} {p : List MemPlace} {r : Reach} {b0 : Nat}
theorem open_picks (hv : Value.okWide Tryd.prog w r b0 36 v) (h : DataW.Trod enc Tryd.prog w base spare held 36 v d p) :
    ∃ ad cap l, v = .slice ad (List.length l) cap ∧ BytesAt w ad l ∧ l.length ≤ maxLen := by
  obtain ⟨a0, len0, cap0, rfl⟩ := okWide_slice Tryd.underlying36 hv
  obtain ⟨fuel, hf⟩ := h
  rcases Go.Deep.open_slice Tryd.underlying36 hf with ⟨hc, _⟩ | ⟨a, len, cap, m, n, D, Pl, hc, _, hl, hm, hmm, _, hx⟩
  · simp [Value.cells] at hc
    exact ⟨a0, cap0, [], by rw [hc.2.1]; rfl, fun i hi => by simp at hi, by simp⟩
  · simp [Value.cells] at hc
    obtain ⟨rfl, rfl, rfl⟩ := hc
    have hle : len0 ≤ m := by rw [hmm]; split <;> omega
    rw [cellsByte] at hx
    obtain ⟨b, off, spot⟩ := a
    have key : ∀ i, i < len0 → ∃ o : Int, (0 ≤ o ∧ o ≤ 255) ∧ w.cell? ((⟨b, off, spot⟩ : Addr).add i) = some (.int .u8 o) := by
      intro i hi
      obtain ⟨cs, h1, h2⟩ := hx i (by omega)
      obtain ⟨_, _, hcell⟩ := World.cells?_some h1
      obtain ⟨o, e, _, hw⟩ := DataW.trod_int Tryd.underlying5 h2
      have h3 := hcell 0 (by omega)
      rw [e] at h3
      have h4 : ((⟨b, off, spot⟩ : Addr).add (i * 1)).add 0 = (⟨b, off, spot⟩ : Addr).add i := by
        unfold Addr.add; split <;> simp_all
      rw [h4] at h3
      exact ⟨o, bounds_u8 hw, by simpa using h3⟩
    obtain ⟨l, hlen, hops⟩ := list_of len0 key
    refine ⟨_, _, l, by rw [hlen], fun i hi => ?_, by rw [hlen]; omega⟩
    obtain ⟨hb, h1⟩ := hops i hi
    have hsp : spot = none := by
      have h3 := World.cell?_spot (hops 0 (by omega)).2
      simpa [Addr.add] using h3
    subst hsp
    rw [add_plain] at h1
    exact ⟨hb.1, hb.2, b, off, rfl, World.block_lt_of_cell? w _ h1, h1⟩
theorem open_ask {fuel : Nat} {cs : List Value} {x : DataW H × List MemPlace} (h : DataW.trod enc Tryd.prog w base spare held fuel 41 cs = some x) : ∃ o : Int × Int, cs = [.int .i64 o.1, .int .i64 o.2] := by
  obtain ⟨xs, n, _, _, hl, hxl, hf⟩ := DataW.trod_struct Tryd.underlying41 h
  rw [cellsAsk] at hl
  obtain ⟨a, b, rfl⟩ : ∃ a b, cs = [a, b] := by
    match cs, hl with
    | [a, b], _ => exact ⟨a, b, rfl⟩
  have h0 : DataW.trod enc Tryd.prog w base spare held n 3 (List.take (Tryd.prog.cellsOf 3) (List.drop 0 [a, b])) = xs[0]? := hf 0 _ rfl
  have h1 : DataW.trod enc Tryd.prog w base spare held n 3 (List.take (Tryd.prog.cellsOf 3) (List.drop 1 [a, b])) = xs[1]? := hf 1 _ rfl
  rw [Tryd.cellsInt] at h0 h1
  have hx : ∀ i, i < 2 → ∃ y, xs[i]? = some y := fun i hi => ⟨_, List.getElem?_eq_getElem (by rw [hxl]; exact hi)⟩
  obtain ⟨y0, e0⟩ := hx 0 (by omega)
  obtain ⟨y1, e1⟩ := hx 1 (by omega)
  rw [e0] at h0; rw [e1] at h1
  obtain ⟨n0, g0, _, _⟩ := DataW.trod_int Tryd.underlying3 h0
  obtain ⟨n1, g1, _, _⟩ := DataW.trod_int Tryd.underlying3 h1
  simp at g0 g1
  subst g0 g1
  exact ⟨(n0, n1), rfl⟩
theorem open_asks (hv : Value.okWide Tryd.prog w r b0 35 v) (h : DataW.Trod enc Tryd.prog w base spare held 35 v d p) :
    ∃ ad cap l, v = .slice ad (List.length l) cap ∧ AsksAt w ad l ∧ l.length ≤ maxLen := by
  obtain ⟨a0, len0, cap0, rfl⟩ := okWide_slice Tryd.underlying35 hv
  obtain ⟨fuel, hf⟩ := h
  rcases Go.Deep.open_slice Tryd.underlying35 hf with ⟨hc, _⟩ | ⟨a, len, cap, m, n, D, Pl, hc, _, hl, hm, hmm, _, hx⟩
  · simp [Value.cells] at hc
    exact ⟨a0, cap0, [], by rw [hc.2.1]; rfl, fun i hi => by simp at hi, by simp⟩
  · simp [Value.cells] at hc
    obtain ⟨rfl, rfl, rfl⟩ := hc
    have hle : len0 ≤ m := by rw [hmm]; split <;> omega
    rw [cellsAsk] at hx
    obtain ⟨b, off, spot⟩ := a
    have key : ∀ i, i < len0 → ∃ o : Int × Int, w.cell? (((⟨b, off, spot⟩ : Addr).add (i * 2)).add 0) = some (.int .i64 o.1) ∧ w.cell? (((⟨b, off, spot⟩ : Addr).add (i * 2)).add 1) = some (.int .i64 o.2) := by
      intro i hi
      obtain ⟨cs, h1, h2⟩ := hx i (by omega)
      obtain ⟨_, _, hcell⟩ := World.cells?_some h1
      obtain ⟨o, e⟩ := open_ask h2
      have h3 := hcell 0 (by omega)
      have h4 := hcell 1 (by omega)
      rw [e] at h3 h4
      exact ⟨o, by simpa using h3, by simpa using h4⟩
    obtain ⟨l, hlen, hops⟩ := list_of len0 key
    refine ⟨_, _, l, by rw [hlen], fun i hi => ?_, by rw [hlen]; omega⟩
    obtain ⟨h1, h2⟩ := hops i hi
    have hsp : spot = none := by
      have h3 := World.cell?_spot (hops 0 (by omega)).1
      simpa [Addr.add] using h3
    subst hsp
    rw [add_plain, add_plain] at h1 h2
    exact ⟨b, off, rfl, World.block_lt_of_cell? w _ h1, h1, h2⟩
end
theorem enough_all (q : Int) (v1 v2 : Value) (w : World) (s1 : ∃ ad cap l, v1 = .slice ad (List.length l) cap ∧ AsksAt w ad l ∧ l.length ≤ maxLen) (s2 : ∃ ad cap l, v2 = .slice ad (List.length l) cap ∧ BytesAt w ad l ∧ l.length ≤ maxLen) (hT : Tab w) :
    Calls Tryd.prog 5 #[.int .i64 q, v1, v2] w fun e w' => e = .returned (.bool true) ∧ Fr (fun _ => False) w w' := by
  obtain ⟨a1, c1, l1, rfl, h1, k1⟩ := s1
  obtain ⟨a2, c2, l2, rfl, h2, k2⟩ := s2
  by_cases hq : May q
  · by_cases hb : l1.length ≤ 2000
    · by_cases hp : l2.length ≤ 1000
      · exact enough_walk q w hT h1 h2 hq hb hp
      · exact enough_none q w hT k1 k2 (.inr (.inr ⟨hq, hb, by omega⟩))
    · exact enough_none q w hT k1 k2 (.inr (.inl ⟨hq, by omega⟩))
  · exact enough_none q w hT k1 k2 (.inl hq)
end Go.Proofs.YtcfeeeloceeicaaDoor
