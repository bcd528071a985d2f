/-
  The law DemandEnough, walked.
-/
import Derived.Test.YtcfeeeloceeicaaDoorDmApp
import Derived.Deep.RegionHeld3
import Derived.Deep.LoopGhost
import Derived.Deep.DeepCutAuto
namespace Go.Proofs.YtcfeeeloceeicaaDoor
open Go.RowKit

/-- What is asked, where a slice says. -/
def AsksAt (w : World) (ad : Option Addr) (l : List (Int × Int)) : Prop := ∀ i (h : i < l.length), ∃ b off, ad = some ⟨b, off, none⟩ ∧ b < w.heap.size ∧ w.cell? ⟨b, off + i * 2, none⟩ = some (.int .i64 l[i].1) ∧ w.cell? ⟨b, off + i * 2 + 1, none⟩ = some (.int .i64 l[i].2)
/-- Bytes, where a slice says. -/
def BytesAt (w : World) (ad : Option Addr) (l : List Int) : Prop := ∀ i (h : i < l.length), 0 ≤ l[i] ∧ l[i] ≤ 255 ∧ ∃ b off, ad = some ⟨b, off, none⟩ ∧ b < w.heap.size ∧ w.cell? ⟨b, off + i, none⟩ = some (.int .u8 l[i])
theorem BytesAt.fr {w w' : World} {ad : Option Addr} {l : List Int} (h : BytesAt w ad l) (hf : Fr (fun _ => False) w w') : BytesAt w' ad l := fun i hi => by
  obtain ⟨a0, a1, b, off, h1, h2, h3⟩ := h i hi
  exact ⟨a0, a1, b, off, h1, by have := hf.size; omega, (World.cell?_of_block (hf.block b h2 (fun h => h))).trans h3⟩
theorem pick_any {w : World} {ad : Option Addr} {cap : Nat} {l : List Int} (h : BytesAt w ad l) (hl : l.length ≤ 1000) (i : Nat) (hi : i ≤ 5000) : Calls Tryd.prog 24 #[.slice ad l.length cap, .int .i64 (i : Int)] w fun e w' => (∃ r : Int, e = .returned (.int .i64 r) ∧ 0 ≤ r ∧ r ≤ 255) ∧ w' = w := by
  by_cases h0 : l.length = 0
  · rw [h0]
    go_enter Tryd.func24, Tryd.ntmps24
    go_wp2
    go_ret
    exact ⟨⟨0, rfl, by omega, by omega⟩, rfl⟩
  · obtain ⟨idx, hidx⟩ : ∃ idx, idx = i % l.length := ⟨_, rfl⟩
    have hil : idx < l.length := by rw [hidx]; exact Nat.mod_lt _ (by omega)
    have ht : Int.tmod (i : Int) (l.length : Int) = (idx : Int) := by
      rw [Int.tmod_eq_emod_of_nonneg (by omega), hidx, Int.natCast_emod]
    obtain ⟨a0, a1, b, off, had, _, hc⟩ := h idx hil
    subst had
    clear h hidx
    have hne : (l.length : Int) ≠ 0 := by omega
    generalize l[idx] = x at *
    generalize l.length = n at *
    go_enter Tryd.func24, Tryd.ntmps24
    go_wp2
    go_ret
    exact ⟨⟨x, by go_num, a0, a1⟩, rfl⟩

set_option maxRecDepth 20000 in
theorem enough_none (q : Int) {ab ap : Option Addr} {cb cp nb np : Nat} (w0 : World) (hT : Tab w0) (hnb : nb ≤ maxLen) (hnp : np ≤ maxLen) (h : ¬ May q ∨ (May q ∧ 2000 < nb) ∨ (May q ∧ nb ≤ 2000 ∧ 1000 < np)) : Calls Tryd.prog 5 #[.int .i64 q, .slice ab nb cb, .slice ap np cp] w0 fun e w' => e = .returned (.bool true) ∧ Fr (fun _ => False) w0 w' := by
  have HK0 := hid (K.start hT)
  have H1 : Hid _ := fun w (k : K w0 w) => d_of q k
  have HA : Hid _ := fun w (k : K w0 w) => awake_any k
  clear hT
  unfold maxLen at hnb hnp
  rcases h with hq | ⟨hq, h1⟩ | ⟨hq, h1, h2⟩
  · rw [(qu_no hq).2.1] at H1
    clear hq
    generalize fb (quA q) = x at *
    generalize fb (takesI q) = y at *
    go_enter Tryd.func5, Tryd.ntmps5
    go_wp2_with fail
    refine (H1.out _ HK0.out).mono ?_
    rintro e w1 ⟨rfl, hk⟩
    have HK1 := hid hk
    clear hk HK0
    go_wp2_with fail
    refine (HA.out _ HK1.out).mono ?_
    rintro e w2 ⟨rfl, hk⟩
    have HK2 := hid hk
    clear hk HK1
    go_wp2_with fail
    refine (HA.out _ HK2.out).mono ?_
    rintro e w3 ⟨rfl, hk⟩
    have HK3 := hid hk
    clear hk HK2
    go_wp2
    go_ret
    exact ⟨rfl, HK3.out.fr⟩
  all_goals
    rw [(qu_yes hq).2] at H1
    clear hq
    generalize fb (quA q) = x at *
    generalize fb (takesI q) = y at *
    go_enter Tryd.func5, Tryd.ntmps5
    go_wp2_with fail
    refine (H1.out _ HK0.out).mono ?_
    rintro e w1 ⟨rfl, hk⟩
    have HK1 := hid hk
    clear hk HK0
    go_wp2_with fail
    refine (HA.out _ HK1.out).mono ?_
    rintro e w2 ⟨rfl, hk⟩
    have HK2 := hid hk
    clear hk HK1
    go_wp2_with fail
    refine (HA.out _ HK2.out).mono ?_
    rintro e w3 ⟨rfl, hk⟩
    have HK3 := hid hk
    clear hk HK2
    go_wp2
    go_ret
    exact ⟨rfl, HK3.out.fr⟩
end Go.Proofs.YtcfeeeloceeicaaDoor
