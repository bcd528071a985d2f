/-
  Calls of heaps, windows and configurations as they come in, opened; a list that lies in memory takes fewer than 2^47 bytes.
  HeapApart's walk, of a script as it comes in.
  From the row's condition, what both tables (class.units, math/bits) read as when the call begins, to what the walks ask of them.
-/
import Derived.Test.YtejbdbjccjkfdaaGreatDoorHpMade
import Derived.ProofKit
import Derived.OpenShut
import Derived.Deep.Slices
import Derived.Deep.Fields
import Derived.SizedLaws
import Derived.Test.YtejbdbjccjkfdaaGreatDoorHpApartLaw
import Derived.Test.YtejbdbjccjkfdaaGreatDoorClCalls
import Derived.Test.YtejbdbjccjkfdaaGreatDoorSfCalls
import Derived.LaidMore
import Derived.Stop.Joined
import Derived.Lib.LaidTab
namespace Go.Proofs.YtejbdbjccjkfdaaGreatDoor
open Go.ChangeShapes Go.WideShapes Go.ChangeAt Go.RowKit

theorem hp_list_of {α : Type} {P : Nat → α → Prop} : ∀ n : Nat, (∀ i, i < n → ∃ o, P i o) → ∃ l : List α, l.length = n ∧ ∀ i (hi : i < l.length), P i l[i]
  | 0, _ => ⟨[], rfl, fun i hi => by simp at hi⟩
  | n + 1, h => by
    obtain ⟨l, hl, hp⟩ := hp_list_of n (fun i hi => h i (by omega))
    obtain ⟨o, ho⟩ := h n (by omega)
    refine ⟨l ++ [o], by simp [hl], fun i hi => ?_⟩
    by_cases hlt : i < l.length
    · rw [List.getElem_append_left hlt]; exact hp i hlt
    · have e : i = l.length := by simp at hi; omega
      subst e
      rw [List.getElem_append_right (Nat.le_refl _)]
      simp only [Nat.sub_self, List.getElem_cons_zero, hl]
      exact ho
theorem hp_weights {H : Type} {P : Program} {e : TypeId} : ∀ {l : List (DataW H)} {d : DataW H}, d ∈ l → ∀ n ∈ d.weights P e, n ∈ DataW.weightsAll P e l
  | d0 :: r, d, hd, n, hn => by
    simp only [DataW.weightsAll, List.mem_append]
    rcases List.mem_cons.1 hd with rfl | hd
    · exact .inl hn
    · exact .inr (hp_weights hd n hn)
theorem hp_cInt : Tryz.prog.cellsOf 3 = 1 := by kernel_rfl
theorem hp_cBool : Tryz.prog.cellsOf 4 = 1 := by kernel_rfl
theorem hp_cCfg : Tryz.prog.cellsOf 23 = 2 := by kernel_rfl
theorem hp_cCon : Tryz.prog.cellsOf 26 = 4 := by kernel_rfl
theorem hp_cOp : Tryz.prog.cellsOf 44 = 4 := by kernel_rfl
theorem hp_cNums : Tryz.prog.cellsOf 24 = 1 := by kernel_rfl
section
variable {H : Type} {enc : TypeId × Value → H} {w : World} {base : Nat} {spare : Nat → Bool} {held : Bool} {v : Value} {d : DataW H} {p : List MemPlace} {r : Reach} {b0 : Nat}
set_option maxRecDepth 40000 in
/-- A list of numbers, by its cell. -/
theorem hp_nums {fuel : Nat} {cs : List Value} {x : DataW H × List MemPlace} (h : DataW.trod enc Tryz.prog w base spare held fuel 24 cs = some x) :
    ∃ ad cap l, cs = [.slice ad (List.length l) cap] ∧ NumsAt w ad l ∧ l.length ≤ maxLen ∧ ((∀ n ∈ x.1.weights Tryz.prog 24, n ≤ reachBytes) → l.length ≤ 17592186044416) := by
  rcases Go.Deep.open_slice Tryz.underlying24 h with ⟨hc, _⟩ | ⟨a, len0, cap0, m, n, D, Pl, hc, _, hl, hm, hmm, hxe, hx⟩
  · exact ⟨none, 0, [], hc, fun i hi => by simp at hi, by simp, fun _ => by simp⟩
  · have hle : len0 ≤ m := by rw [hmm]; split <;> omega
    rw [hp_cInt] at hx
    obtain ⟨b, off, spot⟩ := a
    have key : ∀ i, i < len0 → ∃ o : Int, w.cell? ((⟨b, off, spot⟩ : Addr).add i) = some (.int .i64 o) := by
      intro i hi
      obtain ⟨cs', h1, h2⟩ := hx i (by omega)
      obtain ⟨_, _, hcell⟩ := World.cells?_some h1
      obtain ⟨o, e, _, _⟩ := DataW.trod_int Tryz.underlying3 h2
      have h3 := hcell 0 (by omega)
      rw [e] at h3
      have h4 : ((⟨b, off, spot⟩ : Addr).add (i * 1)).add 0 = (⟨b, off, spot⟩ : Addr).add i := by
        unfold Addr.add; split <;> simp_all
      rw [h4] at h3
      exact ⟨o, by simpa using h3⟩
    obtain ⟨l, hlen, hops⟩ := hp_list_of len0 key
    refine ⟨_, _, l, by rw [hlen]; exact hc, fun i hi => ?_, by rw [hlen]; omega, fun hwt => ?_⟩
    case refine_2 =>
      have := hwt (((List.range len0).map D).length * 8 + ((List.range (m - len0)).map fun j => D (len0 + j)).length * 8) (by
        rw [hxe]
        simp only [DataW.weights, Tryz.underlying24, List.mem_cons]
        left
        rw [← Nat.add_mul]
        rfl)
      simp [reachBytes] at this
      omega
    have h1 := hops i hi
    have hsp : spot = none := by
      have h3 := World.cell?_spot (hops 0 (by omega))
      simpa [Addr.add] using h3
    subst hsp
    rw [add_plain] at h1
    exact ⟨b, off, rfl, World.block_lt_of_cell? w _ h1, h1⟩
set_option maxRecDepth 40000 in
theorem open_config17 (hv : Value.okWide Tryz.prog w r b0 26 v) (h : DataW.Trod enc Tryz.prog w base spare held 26 v d p) (z : ∀ n ∈ d.weights Tryz.prog 26, n ≤ reachBytes) :
    ∃ c : C17, v = c.val ∧ CfgH w c := by
  obtain ⟨cs, rfl, _⟩ := okWide_struct Tryz.underlying26 hv
  obtain ⟨fuel, hf⟩ := h
  obtain ⟨xs, n, _, hxe, hl, hxl, hf⟩ := DataW.trod_struct Tryz.underlying26 hf
  rw [hp_cCon] at hl
  obtain ⟨l⟩ := cs
  simp only [Value.cells] at hl hf
  obtain ⟨a, b, c, e, rfl⟩ : ∃ a b c e, l = [a, b, c, e] := by
    match l, hl with
    | [a, b, c, e], _ => exact ⟨a, b, c, e, rfl⟩
  have h0 : DataW.trod enc Tryz.prog w base spare held n 23 (List.take (Tryz.prog.cellsOf 23) (List.drop 0 [a, b, c, e])) = xs[0]? := hf 0 _ rfl
  have h1 : DataW.trod enc Tryz.prog w base spare held n 24 (List.take (Tryz.prog.cellsOf 24) (List.drop 2 [a, b, c, e])) = xs[1]? := hf 1 _ rfl
  have h2 : DataW.trod enc Tryz.prog w base spare held n 24 (List.take (Tryz.prog.cellsOf 24) (List.drop 3 [a, b, c, e])) = xs[2]? := hf 2 _ rfl
  rw [hp_cCfg] at h0
  rw [hp_cNums] at h1 h2
  have hx : ∀ i, i < 3 → ∃ y, xs[i]? = some y := fun i hi => ⟨_, List.getElem?_eq_getElem (by rw [hxl]; exact hi)⟩
  obtain ⟨y0, e0⟩ := hx 0 (by omega)
  obtain ⟨y1, e1⟩ := hx 1 (by omega)
  obtain ⟨y2, e2⟩ := hx 2 (by omega)
  rw [e0] at h0
  rw [e1] at h1
  rw [e2] at h2
  obtain ⟨zs, n', _, _, hl', hzl, hg⟩ := DataW.trod_struct Tryz.underlying23 h0
  have g0 : DataW.trod enc Tryz.prog w base spare held n' 3 (List.take (Tryz.prog.cellsOf 3) (List.drop 0 [a, b])) = zs[0]? := hg 0 _ rfl
  have g1 : DataW.trod enc Tryz.prog w base spare held n' 3 (List.take (Tryz.prog.cellsOf 3) (List.drop 1 [a, b])) = zs[1]? := hg 1 _ rfl
  rw [hp_cInt] at g0 g1
  have hz : ∀ i, i < 2 → ∃ y, zs[i]? = some y := fun i hi => ⟨_, List.getElem?_eq_getElem (by rw [hzl]; exact hi)⟩
  obtain ⟨u0, f0⟩ := hz 0 (by omega)
  obtain ⟨u1, f1⟩ := hz 1 (by omega)
  rw [f0] at g0
  rw [f1] at g1
  obtain ⟨n0, q0, _, b0⟩ := DataW.trod_int Tryz.underlying3 g0
  obtain ⟨n1, q1, _, b1⟩ := DataW.trod_int Tryz.underlying3 g1
  obtain ⟨ad, cap, l, q2, k1, _, k3⟩ := hp_nums h1
  obtain ⟨ad', cap', l', q3, k1', _, k3'⟩ := hp_nums h2
  simp at q0 q1 q2 q3
  subst q0 q1 q2 q3
  have hd : d = _ := congrArg Prod.fst hxe
  refine ⟨⟨n0, n1, ad, cap, l, ad', cap', l'⟩, rfl, bounds_i64 b0, bounds_i64 b1, k1, k1', k3 fun m hm => z m ?_, k3' fun m hm => z m ?_⟩
  · rw [hd]
    simp only [DataW.weights, Tryz.underlying26]
    exact DataW.weights_mem_each (j := 1) (t := 24) (d := y1.1) rfl (by simp [e1]) m hm
  · rw [hd]
    simp only [DataW.weights, Tryz.underlying26]
    exact DataW.weights_mem_each (j := 2) (t := 24) (d := y2.1) rfl (by simp [e2]) m hm
set_option maxRecDepth 40000 in
theorem hp_op {fuel : Nat} {cs : List Value} {x : DataW H × List MemPlace} (h : DataW.trod enc Tryz.prog w base spare held fuel 44 cs = some x) : ∃ o : O17, cs = [.int .i64 o.kd, .int .i64 o.n, .bool o.two, .slice o.ad o.W.length o.cap] ∧ I64 o.kd ∧ I64 o.n ∧ NumsAt w o.ad o.W ∧ ((∀ n ∈ x.1.weights Tryz.prog 44, n ≤ reachBytes) → o.W.length ≤ 17592186044416) := by
  obtain ⟨xs, n, _, hxe, hl, hxl, hf⟩ := DataW.trod_struct Tryz.underlying44 h
  rw [hp_cOp] at hl
  obtain ⟨a, b, c, e, rfl⟩ : ∃ a b c e, cs = [a, b, c, e] := by
    match cs, hl with
    | [a, b, c, e], _ => exact ⟨a, b, c, e, rfl⟩
  have h0 : DataW.trod enc Tryz.prog w base spare held n 3 (List.take (Tryz.prog.cellsOf 3) (List.drop 0 [a, b, c, e])) = xs[0]? := hf 0 _ rfl
  have h1 : DataW.trod enc Tryz.prog w base spare held n 3 (List.take (Tryz.prog.cellsOf 3) (List.drop 1 [a, b, c, e])) = xs[1]? := hf 1 _ rfl
  have h2 : DataW.trod enc Tryz.prog w base spare held n 4 (List.take (Tryz.prog.cellsOf 4) (List.drop 2 [a, b, c, e])) = xs[2]? := hf 2 _ rfl
  have h3 : DataW.trod enc Tryz.prog w base spare held n 24 (List.take (Tryz.prog.cellsOf 24) (List.drop 3 [a, b, c, e])) = xs[3]? := hf 3 _ rfl
  rw [hp_cInt] at h0 h1
  rw [hp_cBool] at h2
  rw [hp_cNums] at h3
  have hx : ∀ i, i < 4 → ∃ y, xs[i]? = some y := fun i hi => ⟨_, List.getElem?_eq_getElem (by rw [hxl]; exact hi)⟩
  obtain ⟨y0, e0⟩ := hx 0 (by omega)
  obtain ⟨y1, e1⟩ := hx 1 (by omega)
  obtain ⟨y2, e2⟩ := hx 2 (by omega)
  obtain ⟨y3, e3⟩ := hx 3 (by omega)
  rw [e0] at h0
  rw [e1] at h1
  rw [e2] at h2
  rw [e3] at h3
  obtain ⟨n0, g0, _, b0⟩ := DataW.trod_int Tryz.underlying3 h0
  obtain ⟨n1, g1, _, b1⟩ := DataW.trod_int Tryz.underlying3 h1
  obtain ⟨t, g2, _⟩ := DataW.trod_bool Tryz.underlying4 h2
  obtain ⟨ad, cap, l, g3, k1, _, k3⟩ := hp_nums h3
  simp at g0 g1 g2 g3
  subst g0 g1 g2 g3
  refine ⟨⟨n0, n1, t, ad, cap, l⟩, rfl, bounds_i64 b0, bounds_i64 b1, k1, fun hwt => k3 fun m hm => hwt m ?_⟩
  rw [hxe]
  simp only [DataW.weights, Tryz.underlying44]
  exact DataW.weights_mem_each (j := 3) (t := 24) (d := y3.1) rfl (by simp [e3]) m hm
set_option maxRecDepth 40000 in
theorem open_script17 (hv : Value.okWide Tryz.prog w r b0 27 v) (h : DataW.Trod enc Tryz.prog w base spare held 27 v d p) (z : ∀ n ∈ d.weights Tryz.prog 27, n ≤ reachBytes) :
    ∃ ad cap ops, v = .slice ad (List.length ops) cap ∧ OpsH w ad ops ∧ ops.length ≤ maxLen := by
  obtain ⟨a0, len0, cap0, rfl⟩ := okWide_slice Tryz.underlying27 hv
  obtain ⟨fuel, hf⟩ := h
  rcases Go.Deep.open_slice Tryz.underlying27 hf with ⟨hc, _⟩ | ⟨a, len, cap, m, n, D, Pl, hc, _, hl, hm, hmm, hxe, hx⟩
  · simp [Value.cells] at hc
    exact ⟨a0, cap0, [], by rw [hc.2.1]; rfl, fun i hi => by simp at hi, by simp⟩
  · simp [Value.cells] at hc
    obtain ⟨rfl, rfl, rfl⟩ := hc
    have hle : len0 ≤ m := by rw [hmm]; split <;> omega
    rw [hp_cOp] at hx
    obtain ⟨b, off, spot⟩ := a
    have key : ∀ i, i < len0 → ∃ o : O17, w.cell? (((⟨b, off, spot⟩ : Addr).add (i * 4)).add 0) = some (.int .i64 o.kd) ∧ w.cell? (((⟨b, off, spot⟩ : Addr).add (i * 4)).add 1) = some (.int .i64 o.n) ∧ w.cell? (((⟨b, off, spot⟩ : Addr).add (i * 4)).add 2) = some (.bool o.two) ∧ w.cell? (((⟨b, off, spot⟩ : Addr).add (i * 4)).add 3) = some (.slice o.ad o.W.length o.cap) ∧ I64 o.kd ∧ I64 o.n ∧ NumsAt w o.ad o.W ∧ o.W.length ≤ 17592186044416 := by
      intro i hi
      obtain ⟨cs, h1, h2⟩ := hx i (by omega)
      obtain ⟨_, _, hcell⟩ := World.cells?_some h1
      obtain ⟨o, e, k1, k2, k3, k4⟩ := hp_op h2
      have h3 := hcell 0 (by omega)
      have h4 := hcell 1 (by omega)
      have h5 := hcell 2 (by omega)
      have h6 := hcell 3 (by omega)
      rw [e] at h3 h4 h5 h6
      refine ⟨o, by simpa using h3, by simpa using h4, by simpa using h5, by simpa using h6, k1, k2, k3, k4 fun n hn => z n ?_⟩
      have hd : d = _ := congrArg Prod.fst hxe
      rw [hd]
      simp only [DataW.weights, Tryz.underlying27, List.mem_cons, List.mem_append]
      exact .inr (.inl (hp_weights (List.mem_map.2 ⟨i, by simp; omega, rfl⟩) n hn))
    obtain ⟨l, hlen, hops⟩ := hp_list_of len0 key
    refine ⟨_, _, l, by rw [hlen], fun i hi => ?_, by rw [hlen]; omega⟩
    obtain ⟨h1, h2, h3, h4, h5, h6, h7, h8⟩ := hops i hi
    have hsp : spot = none := by
      have h3 := World.cell?_spot (hops 0 (by omega)).1
      simpa [Addr.add] using h3
    subst hsp
    rw [add_plain, add_plain] at h1 h2 h3 h4
    exact ⟨b, off, rfl, World.block_lt_of_cell? w _ h1, h1, h2, h3, h4, h5, h6, h7, h8⟩
end
end Go.Proofs.YtejbdbjccjkfdaaGreatDoor

namespace Go.Proofs.YtejbdbjccjkfdaaGreatDoor
open Go.RowKit

theorem apart_any {W : World} (gr : G17 W) {c : C17} {v : Value} (hc : CfgH W c) (s : ∃ ad cap ops, v = .slice ad (List.length ops) cap ∧ OpsH W ad ops ∧ ops.length ≤ maxLen) : Calls Tryz.prog 3 #[c.val, v] W fun e W' => e = .returned (.bool true) ∧ Fr (fun _ => False) W W' := by
  obtain ⟨ad, cap, ops, rfl, ho, hm⟩ := s
  exact (apart_walk gr hc ho hm).mono fun _ _ h => ⟨h.1, h.2.fr⟩
end Go.Proofs.YtejbdbjccjkfdaaGreatDoor

namespace Go.Proofs.YtejbdbjccjkfdaaGreatDoor
open Go.RowKit

def laidL : List (String × DataW Unit) := [("garth/class.units", Rows.laid_garth_class_units), ("math/bits.deBruijn64tab", Rows.laid_math_bits_deBruijn64tab)]
theorem own : ownKnob Tryz.prog.godebug = none := by kernel_rfl
theorem laidOut : laidOutB Tryz.prog = true := by kernel_rfl
theorem laidMet_tail {P : Program} {W : World} {n : String} {d : DataW Unit} {r : List (String × DataW Unit)} (h : laidMet P ((n, d) :: r) W) : laidMet P r W := by
  obtain ⟨ps, ⟨g, t, cs, fuel, p, q, _, _, _, _, hr, rfl⟩, hn, hc⟩ := h
  exact ⟨q, hr, (List.nodup_append.1 hn).2.1, fun b off hm => hc b off (by simp [hm])⟩
theorem gTab : Tryz.prog.globalNamed "garth/class.units" = some 0 := by kernel_rfl
theorem tTab : (Tryz.prog.globals[0]?).map (·.type) = some 116 := by kernel_rfl
theorem cTab : Tryz.prog.cellsOf 116 = 8 := by kernel_rfl
theorem cInt : Tryz.prog.cellsOf 3 = 1 := by kernel_rfl
def tabZ : List Int := [16, 32, 48, 64, 96, 128, 192, 256]
theorem laid_is : (Rows.laid_garth_class_units : DataW Unit) = Lib.tabData .i64 tabZ := rfl
theorem gTabB : Tryz.prog.globalNamed "math/bits.deBruijn64tab" = some 1 := by kernel_rfl
theorem tTabB : (Tryz.prog.globals[1]?).map (·.type) = some 239 := by kernel_rfl
theorem cTabB : Tryz.prog.cellsOf 239 = 64 := by kernel_rfl
theorem cByteB : Tryz.prog.cellsOf 5 = 1 := by kernel_rfl
def tabB : List Int := Lib.deBruijn64tab.map fun n : Nat => (n : Int)
theorem laid_isB : (Rows.laid_math_bits_deBruijn64tab : DataW Unit) = Lib.tabData .u8 tabB := rfl
theorem tab_of {W : World} (h : laidMetH Tryz.prog laidL W) : Tab W ∧ Sf.Tab W := by
  rw [MakeChecks.laidMetH_plain _ _ _ (by kernel_rfl)] at h
  unfold laidL at h
  rw [laid_is, laid_isB] at h
  have ht := Lib.tabIs_of_head gTab tTab Tryz.underlying116 Tryz.underlying3 cInt cTab h
  have hb := Lib.tabIs_of_head gTabB tTabB Tryz.underlying239 Tryz.underlying5 cByteB cTabB (laidMet_tail h)
  refine ⟨fun j hj => ?_, fun j hj => ?_⟩
  · have := ht.cell gTab j (by simpa [tabZ] using hj)
    rw [this]
    have key : ∀ a : Fin 8, tabZ.getD a.val 0 = unitI (a.val : Int) := by decide
    rw [key ⟨j, hj⟩]
  · have := hb.cell gTabB j (by simpa [tabB, Lib.deBruijn64tab] using hj)
    rw [this]
    have hl : j < Lib.deBruijn64tab.length := by simpa [Lib.deBruijn64tab] using hj
    simp [tabB, List.getD_eq_getElem?_getD, List.getElem?_eq_getElem hl]
theorem door_met (os : Os) (args : Array Value) : laidMetH Tryz.prog laidL ((World.doorLaid Tryz.prog 14 os).forCall (fun _ _ => 0) ⟨#[], args, []⟩).memory :=
  laidMetH_of_parts3 (fuel := 8) (laidMet_of_run' 8 (by kernel_rfl) (by kernel_rfl)) (by kernel_rfl) (by kernel_rfl)
end Go.Proofs.YtejbdbjccjkfdaaGreatDoor
