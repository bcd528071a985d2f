/-
  A configuration, lists of numbers and scripts of calls with windows as they come in, opened.
-/
import Derived.Test.YtcekpaicccmhkaaDoorCoOps
import Derived.ProofKit
import Derived.OpenShut
import Derived.Deep.Slices
import Derived.Deep.Fields
import Derived.SizedLaws
namespace Go.Proofs.YtcekpaicccmhkaaDoor
open Go.ChangeShapes Go.WideShapes Go.ChangeAt Go.RowKit

theorem list_of {α : Type} {P : Nat → α → Prop} : ∀ n : Nat, (∀ i, i < n → ∃ o, P i o) → ∃ l : List α, l.length = n ∧ ∀ i (hi : i < l.length), P i l[i]
  | 0, _ => ⟨[], rfl, fun i hi => by simp at hi⟩
  | n + 1, h => by
    obtain ⟨l, hl, hp⟩ := list_of n (fun i hi => h i (by omega))
    obtain ⟨o, ho⟩ := h n (by omega)
    refine ⟨l ++ [o], by simp [hl], fun i hi => ?_⟩
    by_cases hlt : i < l.length
    · rw [List.getElem_append_left hlt]; exact hp i hlt
    · have e : i = l.length := by simp at hi; omega
      subst e
      rw [List.getElem_append_right (Nat.le_refl _)]
      simp only [Nat.sub_self, List.getElem_cons_zero, hl]
      exact ho
theorem weightsAll_mem {H : Type} {P : Program} {e : TypeId} : ∀ {l : List (DataW H)} {d : DataW H}, d ∈ l → ∀ n ∈ d.weights P e, n ∈ DataW.weightsAll P e l
  | d0 :: r, d, hd, n, hn => by
    simp only [DataW.weightsAll, List.mem_append]
    rcases List.mem_cons.1 hd with rfl | hd
    · exact .inl hn
    · exact .inr (weightsAll_mem hd n hn)
theorem Tryd.cellsInt : Tryd.prog.cellsOf 3 = 1 := by kernel_rfl
theorem Tryd.cellsCfg : Tryd.prog.cellsOf 23 = 2 := by kernel_rfl
theorem Tryd.cellsOp : Tryd.prog.cellsOf 37 = 3 := by kernel_rfl
theorem Tryd.cellsNums : Tryd.prog.cellsOf 35 = 1 := by kernel_rfl
section
variable {H : Type} {enc : TypeId × Value → H} {w : World} {base : Nat} {spare : Nat → Bool} {held : Bool} {v : Value} {d : DataW H} {p : List MemPlace} {r : Reach} {b0 : Nat}
/-- A list of numbers, by its cell. -/
theorem open_nums' {fuel : Nat} {cs : List Value} {x : DataW H × List MemPlace} (h : DataW.trod enc Tryd.prog w base spare held fuel 35 cs = some x) :
    ∃ ad cap l, cs = [.slice ad (List.length l) cap] ∧ NumsAt w ad l ∧ l.length ≤ maxLen ∧ ((∀ n ∈ x.1.weights Tryd.prog 35, n ≤ reachBytes) → l.length ≤ reachBytes) ∧ ∀ y ∈ l, (Lit.int .i64 y).wf = true := by
  rcases Go.Deep.open_slice Tryd.underlying35 h with ⟨hc, _⟩ | ⟨a, len0, cap0, m, n, D, Pl, hc, _, hl, hm, hmm, hxe, hx⟩
  · exact ⟨none, 0, [], hc, fun i hi => by simp at hi, by simp, fun _ => by simp, fun y hy => by simp at hy⟩
  · have hle : len0 ≤ m := by rw [hmm]; split <;> omega
    rw [Tryd.cellsInt] at hx
    obtain ⟨b, off, spot⟩ := a
    have key : ∀ i, i < len0 → ∃ o : Int, w.cell? ((⟨b, off, spot⟩ : Addr).add i) = some (.int .i64 o) ∧ (Lit.int .i64 o).wf = true := by
      intro i hi
      obtain ⟨cs', h1, h2⟩ := hx i (by omega)
      obtain ⟨_, _, hcell⟩ := World.cells?_some h1
      obtain ⟨o, e, _, hwf⟩ := DataW.trod_int Tryd.underlying3 h2
      have h3 := hcell 0 (by omega)
      rw [e] at h3
      have h4 : ((⟨b, off, spot⟩ : Addr).add (i * 1)).add 0 = (⟨b, off, spot⟩ : Addr).add i := by
        unfold Addr.add; split <;> simp_all
      rw [h4] at h3
      exact ⟨o, by simpa using h3, hwf⟩
    obtain ⟨l, hlen, hops⟩ := list_of len0 key
    refine ⟨_, _, l, by rw [hlen]; exact hc, fun i hi => ?_, by rw [hlen]; omega, fun hwt => ?_, fun y hy => by obtain ⟨i, hi, rfl⟩ := List.mem_iff_getElem.1 hy; exact (hops i hi).2⟩
    case refine_2 =>
      have := hwt (((List.range len0).map D).length * 8 + ((List.range (m - len0)).map fun j => D (len0 + j)).length * 8) (by
        rw [hxe]
        simp only [DataW.weights, Tryd.underlying35, List.mem_cons]
        left
        rw [← Nat.add_mul]
        rfl)
      simp at this
      omega
    have h1 := (hops i hi).1
    have hsp : spot = none := by
      have h3 := World.cell?_spot (hops 0 (by omega)).1
      simpa [Addr.add] using h3
    subst hsp
    rw [add_plain] at h1
    exact ⟨b, off, rfl, World.block_lt_of_cell? w _ h1, h1⟩
theorem open_numsW (hv : Value.okWide Tryd.prog w r b0 35 v) (h : DataW.Trod enc Tryd.prog w base spare held 35 v d p) :
    ∃ ad cap l, v = .slice ad (List.length l) cap ∧ NumsAt w ad l ∧ l.length ≤ maxLen ∧ ∀ y ∈ l, (Lit.int .i64 y).wf = true := by
  obtain ⟨a0, len0, cap0, rfl⟩ := okWide_slice Tryd.underlying35 hv
  obtain ⟨fuel, hf⟩ := h
  obtain ⟨ad, cap, l, hc, h1, h2, _, h3⟩ := open_nums' hf
  simp [Value.cells] at hc
  obtain ⟨rfl, rfl, rfl⟩ := hc
  exact ⟨_, _, l, rfl, h1, h2, h3⟩
theorem open_nums (hv : Value.okWide Tryd.prog w r b0 35 v) (h : DataW.Trod enc Tryd.prog w base spare held 35 v d p) :
    ∃ ad cap l, v = .slice ad (List.length l) cap ∧ NumsAt w ad l ∧ l.length ≤ maxLen := by
  obtain ⟨ad, cap, l, h1, h2, h3, _⟩ := open_numsW hv h
  exact ⟨ad, cap, l, h1, h2, h3⟩
theorem open_cfg (hv : Value.okWide Tryd.prog w r b0 23 v) (h : DataW.Trod enc Tryd.prog w base spare held 23 v d p) :
    ∃ o : Int × Int, v = .agg #[.int .i64 o.1, .int .i64 o.2] := by
  obtain ⟨cs, rfl, _⟩ := okWide_struct Tryd.underlying23 hv
  obtain ⟨fuel, hf⟩ := h
  obtain ⟨xs, n, _, _, hl, hxl, hf⟩ := DataW.trod_struct Tryd.underlying23 hf
  rw [Tryd.cellsCfg] at hl
  obtain ⟨l⟩ := cs
  simp only [Value.cells] at hl hf
  obtain ⟨a, b, rfl⟩ : ∃ a b, l = [a, b] := by
    match l, hl with
    | [a, b], _ => exact ⟨a, b, rfl⟩
  have h0 : DataW.trod enc Tryd.prog w base spare held n 3 (List.take (Tryd.prog.cellsOf 3) (List.drop 0 [a, b])) = xs[0]? := hf 0 _ rfl
  have h1 : DataW.trod enc Tryd.prog w base spare held n 3 (List.take (Tryd.prog.cellsOf 3) (List.drop 1 [a, b])) = xs[1]? := hf 1 _ rfl
  rw [Tryd.cellsInt] at h0 h1
  have hx : ∀ i, i < 2 → ∃ y, xs[i]? = some y := fun i hi => ⟨_, List.getElem?_eq_getElem (by rw [hxl]; exact hi)⟩
  obtain ⟨y0, e0⟩ := hx 0 (by omega)
  obtain ⟨y1, e1⟩ := hx 1 (by omega)
  rw [e0] at h0
  rw [e1] at h1
  obtain ⟨n0, g0, _, _⟩ := DataW.trod_int Tryd.underlying3 h0
  obtain ⟨n1, g1, _, _⟩ := DataW.trod_int Tryd.underlying3 h1
  simp at g0 g1
  subst g0 g1
  exact ⟨(n0, n1), rfl⟩
theorem open_op {fuel : Nat} {cs : List Value} {x : DataW H × List MemPlace} (h : DataW.trod enc Tryd.prog w base spare held fuel 37 cs = some x) : ∃ o : OpV, cs = [.int .i64 o.kind, .int .i64 o.page, .slice o.ad o.win.length o.cap] ∧ NumsAt w o.ad o.win ∧ o.win.length ≤ maxLen ∧ (∀ y ∈ o.win, (Lit.int .i64 y).wf = true) ∧ ((∀ n ∈ x.1.weights Tryd.prog 37, n ≤ reachBytes) → o.win.length ≤ reachBytes) := by
  obtain ⟨xs, n, _, hxe, hl, hxl, hf⟩ := DataW.trod_struct Tryd.underlying37 h
  rw [Tryd.cellsOp] at hl
  obtain ⟨a, b, c, rfl⟩ : ∃ a b c, cs = [a, b, c] := by
    match cs, hl with
    | [a, b, c], _ => exact ⟨a, b, c, rfl⟩
  have h0 : DataW.trod enc Tryd.prog w base spare held n 3 (List.take (Tryd.prog.cellsOf 3) (List.drop 0 [a, b, c])) = xs[0]? := hf 0 _ rfl
  have h1 : DataW.trod enc Tryd.prog w base spare held n 3 (List.take (Tryd.prog.cellsOf 3) (List.drop 1 [a, b, c])) = xs[1]? := hf 1 _ rfl
  have h2 : DataW.trod enc Tryd.prog w base spare held n 35 (List.take (Tryd.prog.cellsOf 35) (List.drop 2 [a, b, c])) = xs[2]? := hf 2 _ rfl
  rw [Tryd.cellsInt] at h0 h1
  rw [Tryd.cellsNums] at h2
  have hx : ∀ i, i < 3 → ∃ y, xs[i]? = some y := fun i hi => ⟨_, List.getElem?_eq_getElem (by rw [hxl]; exact hi)⟩
  obtain ⟨y0, e0⟩ := hx 0 (by omega)
  obtain ⟨y1, e1⟩ := hx 1 (by omega)
  obtain ⟨y2, e2⟩ := hx 2 (by omega)
  rw [e0] at h0
  rw [e1] at h1
  rw [e2] at h2
  obtain ⟨n0, g0, _, _⟩ := DataW.trod_int Tryd.underlying3 h0
  obtain ⟨n1, g1, _, _⟩ := DataW.trod_int Tryd.underlying3 h1
  obtain ⟨ad, cap, l, g2, k1, k2, k3, k4⟩ := open_nums' h2
  simp at g0 g1 g2
  subst g0 g1 g2
  refine ⟨⟨n0, n1, ad, l, cap⟩, rfl, k1, k2, k4, fun hwt => k3 fun m hm => hwt m ?_⟩
  rw [hxe]
  simp only [DataW.weights, Tryd.underlying37]
  exact DataW.weights_mem_each (j := 2) (t := 35) (d := y2.1) rfl (by simp [e2]) m hm
theorem open_scriptW (hv : Value.okWide Tryd.prog w r b0 24 v) (h : DataW.Trod enc Tryd.prog w base spare held 24 v d p) :
    ∃ ad cap ops, v = .slice ad (List.length ops) cap ∧ OpsAt w ad ops ∧ ((∀ n ∈ d.weights Tryd.prog 24, n ≤ reachBytes) → ∀ i (h : i < ops.length), ops[i].win.length ≤ reachBytes) ∧ ops.length ≤ maxLen ∧ ∀ i (h : i < ops.length), ∀ y ∈ ops[i].win, (Lit.int .i64 y).wf = true := by
  obtain ⟨a0, len0, cap0, rfl⟩ := okWide_slice Tryd.underlying24 hv
  obtain ⟨fuel, hf⟩ := h
  rcases Go.Deep.open_slice Tryd.underlying24 hf with ⟨hc, _⟩ | ⟨a, len, cap, m, n, D, Pl, hc, _, hl, hm, hmm, hxe, hx⟩
  · simp [Value.cells] at hc
    exact ⟨a0, cap0, [], by rw [hc.2.1]; rfl, fun i hi => by simp at hi, fun _ i hi => by simp at hi, by simp, fun i hi => by simp at hi⟩
  · simp [Value.cells] at hc
    obtain ⟨rfl, rfl, rfl⟩ := hc
    have hle : len0 ≤ m := by rw [hmm]; split <;> omega
    rw [Tryd.cellsOp] at hx
    obtain ⟨b, off, spot⟩ := a
    have key : ∀ i, i < len0 → ∃ o : OpV, w.cell? (((⟨b, off, spot⟩ : Addr).add (i * 3)).add 0) = some (.int .i64 o.kind) ∧ w.cell? (((⟨b, off, spot⟩ : Addr).add (i * 3)).add 1) = some (.int .i64 o.page) ∧ w.cell? (((⟨b, off, spot⟩ : Addr).add (i * 3)).add 2) = some (.slice o.ad o.win.length o.cap) ∧ NumsAt w o.ad o.win ∧ (∀ y ∈ o.win, (Lit.int .i64 y).wf = true) ∧ ((∀ n ∈ (D i).weights Tryd.prog 37, n ≤ reachBytes) → o.win.length ≤ reachBytes) := by
      intro i hi
      obtain ⟨cs, h1, h2⟩ := hx i (by omega)
      obtain ⟨_, _, hcell⟩ := World.cells?_some h1
      obtain ⟨o, e, k1, _, k3, k2⟩ := open_op h2
      have h3 := hcell 0 (by omega)
      have h4 := hcell 1 (by omega)
      have h5 := hcell 2 (by omega)
      rw [e] at h3 h4 h5
      exact ⟨o, by simpa using h3, by simpa using h4, by simpa using h5, k1, k3, k2⟩
    obtain ⟨l, hlen, hops⟩ := list_of len0 key
    refine ⟨_, _, l, by rw [hlen], fun i hi => ?_, fun hwt i hi => (hops i hi).2.2.2.2.2 fun n hn => hwt n ?_, by rw [hlen]; omega, fun i hi => (hops i hi).2.2.2.2.1⟩
    case refine_2 =>
      have hd : d = _ := congrArg Prod.fst hxe
      rw [hd]
      simp only [DataW.weights, Tryd.underlying24, List.mem_cons, List.mem_append]
      exact .inr (.inl (weightsAll_mem (List.mem_map.2 ⟨i, by simp; omega, rfl⟩) n hn))
    obtain ⟨h1, h2, h3, h4, _⟩ := hops i hi
    have hsp : spot = none := by
      have h3 := World.cell?_spot (hops 0 (by omega)).1
      simpa [Addr.add] using h3
    subst hsp
    rw [add_plain, add_plain] at h1 h2 h3
    exact ⟨b, off, rfl, World.block_lt_of_cell? w _ h1, h1, h2, h3, h4⟩
theorem open_script (hv : Value.okWide Tryd.prog w r b0 24 v) (h : DataW.Trod enc Tryd.prog w base spare held 24 v d p) :
    ∃ ad cap ops, v = .slice ad (List.length ops) cap ∧ OpsAt w ad ops ∧ ((∀ n ∈ d.weights Tryd.prog 24, n ≤ reachBytes) → ∀ i (h : i < ops.length), ops[i].win.length ≤ reachBytes) ∧ ops.length ≤ maxLen := by
  obtain ⟨ad, cap, ops, h1, h2, h3, h4, _⟩ := open_scriptW hv h
  exact ⟨ad, cap, ops, h1, h2, h3, h4⟩
theorem small_opsW (s : ∃ ad cap ops, v = .slice ad (List.length ops) cap ∧ OpsAt w ad ops ∧ ((∀ n ∈ d.weights Tryd.prog 24, n ≤ reachBytes) → ∀ i (h : i < ops.length), ops[i].win.length ≤ reachBytes) ∧ ops.length ≤ maxLen ∧ ∀ i (h : i < ops.length), ∀ y ∈ ops[i].win, (Lit.int .i64 y).wf = true) (z : ∀ n ∈ d.weights Tryd.prog 24, n ≤ reachBytes) :
    ∃ ad cap ops, v = .slice ad (List.length ops) cap ∧ OpsAt w ad ops ∧ (∀ i (h : i < ops.length), ops[i].win.length ≤ 1152921504606846976) ∧ ops.length ≤ maxLen ∧ ∀ i (h : i < ops.length), ∀ y ∈ ops[i].win, (Lit.int .i64 y).wf = true := by
  obtain ⟨ad, cap, ops, h1, h2, h3, h4, h5⟩ := s
  exact ⟨ad, cap, ops, h1, h2, fun i hi => Nat.le_trans (h3 z i hi) (by decide), h4, h5⟩
/-- The windows are of a size that some machine has. -/
theorem small_ops (s : ∃ ad cap ops, v = .slice ad (List.length ops) cap ∧ OpsAt w ad ops ∧ ((∀ n ∈ d.weights Tryd.prog 24, n ≤ reachBytes) → ∀ i (h : i < ops.length), ops[i].win.length ≤ reachBytes) ∧ ops.length ≤ maxLen) (z : ∀ n ∈ d.weights Tryd.prog 24, n ≤ reachBytes) :
    ∃ ad cap ops, v = .slice ad (List.length ops) cap ∧ OpsAt w ad ops ∧ (∀ i (h : i < ops.length), ops[i].win.length ≤ 1152921504606846976) ∧ ops.length ≤ maxLen := by
  obtain ⟨ad, cap, ops, h1, h2, h3, h4⟩ := s
  exact ⟨ad, cap, ops, h1, h2, fun i hi => Nat.le_trans (h3 z i hi) (by decide), h4⟩
end
end Go.Proofs.YtcekpaicccmhkaaDoor
