/-
  From the row's condition, what both tables (class.units, op.words) read as when the call begins, to what the walks ask of them.
-/
import Derived.Test.YtdjpkpgajifjiaaDoorOpCalls
import Derived.ProofKit
import Derived.OpenShut
import Derived.LaidMore
import Derived.Stop.Joined
import Derived.Lib.LaidTab
namespace Go.Proofs.YtdjpkpgajifjiaaDoor
open Go.RowKit

def laidL : List (String × DataW Unit) := [("garth/class.units", Rows.laid_garth_class_units), ("garth/op.words", Rows.laid_garth_op_words)]
theorem own : ownKnob Tryd.prog.godebug = none := by kernel_rfl
theorem laidOut : laidOutB Tryd.prog = true := by kernel_rfl
theorem laidMet_tail {P : Program} {W : World} {n : String} {d : DataW Unit} {r : List (String × DataW Unit)} (h : laidMet P ((n, d) :: r) W) : laidMet P r W := by
  obtain ⟨ps, ⟨g, t, cs, fuel, p, q, _, _, _, _, hr, rfl⟩, hn, hc⟩ := h
  exact ⟨q, hr, (List.nodup_append.1 hn).2.1, fun b off hm => hc b off (by simp [hm])⟩
/-- An array of strings that reads as the table holds these strings, cell for cell. -/
theorem cells_of_words {H : Type} {enc : TypeId × Value → H} {P : Program} {w : World} {base : Nat} {sp : Nat → Bool} {held : Bool} {fuel : Nat} {t e : TypeId} {n : Nat} {cs : List Value} {zs : List ByteArray} {p : List MemPlace}
    (ht : P.underlying t = some (.array n e)) (he : P.underlying e = some .string) (hce : P.cellsOf e = 1) (hct : P.cellsOf t = n)
    (h : DataW.trod enc P w base sp held fuel t cs = some (.agg (zs.map fun z => .lit (.string z.data.toList)), p)) : cs = zs.map fun z => Value.string z := by
  cases fuel with
  | zero => simp [DataW.trod] at h
  | succ fuel =>
    simp only [DataW.trod, ht, hce, hct, Nat.mul_one] at h
    split at h
    · rename_i hl
      obtain ⟨xs, hm, hx⟩ := Option.map_eq_some_iff.1 h
      have hxs : xs.map (·.1) = zs.map fun z => (DataW.lit (.string z.data.toList) : DataW H) := by
        have := congrArg Prod.fst hx
        simpa using this
      have hxl : xs.length = n := by simpa using Lib.mapM_length hm
      have hzl : zs.length = n := by
        have := congrArg List.length hxs
        simp at this
        omega
      apply List.ext_getElem?
      intro i
      by_cases hi : i < n
      · obtain ⟨b, hb, hf⟩ := Lib.mapM_at hm i i (by simp [hi])
        obtain ⟨z, hc, rfl, _⟩ := DataW.trod_string he hf
        have h1 : cs[i]? = some (.string z) := by
          have := congrArg (·[0]?) hc
          simpa [List.getElem?_take, List.getElem?_drop] using this
        have h2 : (xs.map (·.1))[i]? = some (DataW.lit (.string z.data.toList) : DataW H) := by simp [hb]
        rw [hxs] at h2
        simp only [List.getElem?_map, Option.map_eq_some_iff, DataW.lit.injEq, Lit.string.injEq] at h2
        obtain ⟨z', hz', hzz⟩ := h2
        have : z' = z := by
          cases z'
          cases z
          simp only at hzz
          rw [Array.toList_inj] at hzz
          rw [hzz]
        subst this
        simp [h1, hz']
      · rw [List.getElem?_eq_none (by omega), List.getElem?_eq_none (by simp; omega)]
    · cases h
theorem words_of_head {P : Program} {W : World} {name : String} {zs : List ByteArray} {rest : List (String × DataW Unit)} {g : Nat} {t e : TypeId} {n : Nat}
    (hg : P.globalNamed name = some g) (hty : (P.globals[g]?).map (·.type) = some t) (ht : P.underlying t = some (.array n e)) (he : P.underlying e = some .string) (hce : P.cellsOf e = 1) (hct : P.cellsOf t = n)
    (h : laidMet P ((name, .agg (zs.map fun z => .lit (.string z.data.toList))) :: rest) W) (i : Nat) (hi : i < zs.length) : W.cell? ⟨g, i, none⟩ = some (.string (zs.getD i ⟨#[]⟩)) := by
  obtain ⟨ps, ⟨g', t', cs, fuel, p, q, hg', ht', hvar, hd, _, _⟩, _⟩ := h
  obtain rfl := Option.some.inj (hg.symm.trans hg')
  obtain rfl := Option.some.inj (hty.symm.trans ht')
  have hz := cells_of_words ht he hce hct hd
  have hv : W.var? P name = some (zs.map fun z => Value.string z).toArray := by rw [hvar, ← hz]
  have := World.var?_cell hg hv i
  simpa [List.getD, hi] using this
theorem gTab : Tryd.prog.globalNamed "garth/class.units" = some 1 := by kernel_rfl
theorem tTab : (Tryd.prog.globals[1]?).map (·.type) = some 39 := by kernel_rfl
theorem cTab : Tryd.prog.cellsOf 39 = 8 := by kernel_rfl
theorem cInt : Tryd.prog.cellsOf 3 = 1 := by kernel_rfl
def tabZ : List Int := [16, 32, 48, 64, 96, 128, 192, 256]
theorem laid_is : (Rows.laid_garth_class_units : DataW Unit) = Lib.tabData .i64 tabZ := rfl
theorem gTabW : Tryd.prog.globalNamed "garth/op.words" = some 0 := by kernel_rfl
theorem tTabW : (Tryd.prog.globals[0]?).map (·.type) = some 36 := by kernel_rfl
theorem cTabW : Tryd.prog.cellsOf 36 = 11 := by kernel_rfl
theorem cStrW : Tryd.prog.cellsOf 9 = 1 := by kernel_rfl
def tabW : List ByteArray := [wdS 1, wdS 2, wdS 3, wdS 4, wdS 5, wdS 6, wdS 7, wdS 8, wdS 9, wdS 10, wdS 11]
theorem laid_isW : (Rows.laid_garth_op_words : DataW Unit) = .agg (tabW.map fun z => .lit (.string z.data.toList)) := rfl
theorem tab_of {W : World} (h : laidMetH Tryd.prog laidL W) : Tab W ∧ Wt W := by
  rw [MakeChecks.laidMetH_plain _ _ _ (by kernel_rfl)] at h
  unfold laidL at h
  rw [laid_is, laid_isW] at h
  have ht := Lib.tabIs_of_head gTab tTab Tryd.underlying39 Tryd.underlying3 cInt cTab h
  refine ⟨fun j hj => ?_, fun j hj => ?_⟩
  · have := ht.cell gTab j (by simpa [tabZ] using hj)
    rw [this]
    have key : ∀ a : Fin 8, tabZ.getD a.val 0 = unitI (a.val : Int) := by decide
    rw [key ⟨j, hj⟩]
  · rw [words_of_head gTabW tTabW Tryd.underlying36 Tryd.underlying9 cStrW cTabW (laidMet_tail h) j hj]
    rcases (by omega : j = 0 ∨ j = 1 ∨ j = 2 ∨ j = 3 ∨ j = 4 ∨ j = 5 ∨ j = 6 ∨ j = 7 ∨ j = 8 ∨ j = 9 ∨ j = 10) with rfl | rfl | rfl | rfl | rfl | rfl | rfl | rfl | rfl | rfl | rfl <;> rfl
theorem door_met (os : Os) (args : Array Value) : laidMetH Tryd.prog laidL ((World.doorLaid Tryd.prog 14 os).forCall (fun _ _ => 0) ⟨#[], args, []⟩).memory :=
  laidMetH_of_parts3 (fuel := 8) (laidMet_of_run' 8 (by kernel_rfl) (by kernel_rfl)) (by kernel_rfl) (by kernel_rfl)
end Go.Proofs.YtdjpkpgajifjiaaDoor
