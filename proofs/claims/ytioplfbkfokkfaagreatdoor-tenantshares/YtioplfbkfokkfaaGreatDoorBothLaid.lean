/-
  From the row's condition, what both tables (class.units, math/bits) read as when the call begins, to what the walks ask of them.
-/
import Derived.Test.YtioplfbkfokkfaaGreatDoorDmCalls
import Derived.Test.YtioplfbkfokkfaaGreatDoorSfCalls
import Derived.ProofKit
import Derived.OpenShut
import Derived.LaidMore
import Derived.Stop.Joined
import Derived.Lib.LaidTab
namespace Go.Proofs.YtioplfbkfokkfaaGreatDoor
open Go.RowKit

def laidL : List (String × DataW Unit) := [("garth/class.units", Rows.laid_garth_class_units), ("math/bits.deBruijn64tab", Rows.laid_math_bits_deBruijn64tab)]
theorem own : ownKnob Tryz.prog.godebug = none := by kernel_rfl
theorem laidOut : laidOutB Tryz.prog = true := by kernel_rfl
theorem laidMet_tail {P : Program} {W : World} {n : String} {d : DataW Unit} {r : List (String × DataW Unit)} (h : laidMet P ((n, d) :: r) W) : laidMet P r W := by
  obtain ⟨ps, ⟨g, t, cs, fuel, p, q, _, _, _, _, hr, rfl⟩, hn, hc⟩ := h
  exact ⟨q, hr, (List.nodup_append.1 hn).2.1, fun b off hm => hc b off (by simp [hm])⟩
theorem gTab : Tryz.prog.globalNamed "garth/class.units" = some 0 := by kernel_rfl
theorem tTab : (Tryz.prog.globals[0]?).map (·.type) = some 165 := by kernel_rfl
theorem cTab : Tryz.prog.cellsOf 165 = 8 := by kernel_rfl
theorem cInt : Tryz.prog.cellsOf 3 = 1 := by kernel_rfl
def tabZ : List Int := [16, 32, 48, 64, 96, 128, 192, 256]
theorem laid_is : (Rows.laid_garth_class_units : DataW Unit) = Lib.tabData .i64 tabZ := rfl
theorem gTabB : Tryz.prog.globalNamed "math/bits.deBruijn64tab" = some 2 := by kernel_rfl
theorem tTabB : (Tryz.prog.globals[2]?).map (·.type) = some 262 := by kernel_rfl
theorem cTabB : Tryz.prog.cellsOf 262 = 64 := by kernel_rfl
theorem cByteB : Tryz.prog.cellsOf 5 = 1 := by kernel_rfl
def tabB : List Int := Lib.deBruijn64tab.map fun n : Nat => (n : Int)
theorem laid_isB : (Rows.laid_math_bits_deBruijn64tab : DataW Unit) = Lib.tabData .u8 tabB := rfl
theorem tab_of {W : World} (h : laidMetH Tryz.prog laidL W) : Tab W ∧ Sf.Tab W := by
  rw [MakeChecks.laidMetH_plain _ _ _ (by kernel_rfl)] at h
  unfold laidL at h
  rw [laid_is, laid_isB] at h
  have ht := Lib.tabIs_of_head gTab tTab Tryz.underlying165 Tryz.underlying3 cInt cTab h
  have hb := Lib.tabIs_of_head gTabB tTabB Tryz.underlying262 Tryz.underlying5 cByteB cTabB (laidMet_tail h)
  refine ⟨fun j hj => ?_, fun j hj => ?_⟩
  · have := ht.cell gTab j (by simpa [tabZ] using hj)
    rw [this]
    have key : ∀ a : Fin 8, tabZ.getD a.val 0 = unitI (a.val : Int) := by decide
    rw [key ⟨j, hj⟩]
  · have := hb.cell gTabB j (by simpa [tabB, Lib.deBruijn64tab] using hj)
    rw [this]
    have hl : j < Lib.deBruijn64tab.length := by simpa [Lib.deBruijn64tab] using hj
    simp [tabB, List.getD_eq_getElem?_getD, List.getElem?_eq_getElem hl]
theorem door_met (os : Os) (args : Array Value) : laidMetH Tryz.prog laidL ((World.doorLaid Tryz.prog 14 os).forCall (fun _ _ => 0) ⟨#[], args, []⟩).memory :=
  laidMetH_of_parts3 (fuel := 8) (laidMet_of_run' 8 (by kernel_rfl) (by kernel_rfl)) (by kernel_rfl) (by kernel_rfl)
end Go.Proofs.YtioplfbkfokkfaaGreatDoor
