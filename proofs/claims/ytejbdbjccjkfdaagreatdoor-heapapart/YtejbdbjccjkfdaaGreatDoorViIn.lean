/-
  What the document's own answers are, each for every number.
  The document's page in memory.
  Three and more things as one: one of them rests while the others turn. Nothing of the program is named here.
  More of things side by side: a block of the call's own among them, one thing and a block beside it. Nothing of the program is named here.
  A thing that has come in, and all that was there beside it: as things side by side.
-/
import Derived.Test.YtejbdbjccjkfdaaGreatDoorClCalls
import Derived.Test.YtejbdbjccjkfdaaGreatDoorPaWin
import Derived.Test.YtejbdbjccjkfdaaGreatDoorChMem
import Derived.Deep.RegionHeld3
namespace Go.Proofs.YtejbdbjccjkfdaaGreatDoor
open Go.RowKit

theorem unitI_zero (c : Int) (h : c < 0 ∨ 23 < c) : unitI c = 0 := by
  unfold unitI; repeat' split
  all_goals omega
theorem unitI_runs (c : Int) (h1 : 8 ≤ c) (h2 : c ≤ 23) : unitI c = (c - 7) * 512 := by
  have := unitI_run (c - 7) (by omega) (by omega)
  rwa [show 7 + (c - 7) = c by omega] at this
set_option maxRecDepth 20000 in
set_option maxHeartbeats 1000000 in
theorem r_unit_small (c : Int) {w0 w : World} (k : K w0 w) (hs : 0 ≤ c ∧ c ≤ 7) : Calls Tryz.prog 51 #[.int .i64 c] w fun e w' => e = .returned (.int .i64 (unitI c)) ∧ K w0 w' := by
  have HK := hid k
  clear k
  have hc : c = 0 ∨ c = 1 ∨ c = 2 ∨ c = 3 ∨ c = 4 ∨ c = 5 ∨ c = 6 ∨ c = 7 := by omega
  clear hs
  rcases hc with rfl | rfl | rfl | rfl | rfl | rfl | rfl | rfl
  all_goals
    go_enter Tryz.func51, Tryz.ntmps51
    go_wp2
    go_ret
    exact ⟨rfl, HK.out.on ((Fr.refl _ _).alloc _)⟩
set_option maxRecDepth 20000 in
theorem r_unit (c : Int) {w0 w : World} (k : K w0 w) : Calls Tryz.prog 51 #[.int .i64 c] w fun e w' => e = .returned (.int .i64 (unitI c)) ∧ K w0 w' := by
  have HK := hid k
  clear k
  by_cases hs : 0 ≤ c ∧ c ≤ 7
  · exact r_unit_small c HK.out hs
  · by_cases hr : 8 ≤ c ∧ c ≤ 23
    · have hu : Hid (unitI c = (c - 7) * 512) := unitI_runs c hr.1 hr.2
      clear hs
      obtain ⟨h1, h2⟩ := hr
      have h0 : ¬ c < 0 := by omega
      have h8 : ¬ c < 8 := by omega
      go_enter Tryz.func51, Tryz.ntmps51
      go_wp2
      go_ret
      exact ⟨by rw [hu.out]; go_num, HK.out.on ((Fr.refl _ _).alloc _)⟩
    · have hu : Hid (unitI c = 0) := unitI_zero c (by omega)
      by_cases h0 : c < 0
      · clear hs hr
        go_enter Tryz.func51, Tryz.ntmps51
        go_wp2
        go_ret
        exact ⟨by rw [hu.out]; rfl, HK.out.on ((Fr.refl _ _).alloc _)⟩
      · have h1 : 23 < c := by omega
        clear hs hr
        go_enter Tryz.func51, Tryz.ntmps51
        go_wp2
        go_ret
        exact ⟨by rw [hu.out]; rfl, HK.out.on ((Fr.refl _ _).alloc _)⟩

set_option maxRecDepth 20000 in
theorem r_of (n : Int) {w0 w : World} (k : K w0 w) : Calls Tryz.prog 50 #[.int .i64 n] w fun e w' => e = .returned (.int .i64 (ofI n)) ∧ K w0 w' := by
  have HK := hid k
  clear k
  by_cases h1 : n < 1
  · have he : Hid (ofI n = -1) := (ofI_none n).2 (.inl h1)
    go_enter Tryz.func50, Tryz.ntmps50
    go_wp2
    go_ret
    exact ⟨by rw [he.out]; rfl, HK.out⟩
  · go_enter Tryz.func50, Tryz.ntmps50
    go_wp2
    go_loopw [3] (fun i wr => ∃ j : Nat, j ≤ 24 ∧ i = .int .i64 j ∧ K w0 wr ∧ ∀ d : Int, 0 ≤ d → d < j → unitI d < n) (fun i _ => 24 - (intOf i).toNat)
    case atStart => exact ⟨0, by omega, rfl, HK.out, fun d h0 hd => by omega⟩
    case round =>
      obtain ⟨j, hj, rfl, hk, hb⟩ := hrel
      have HC := hid (r_unit j hk)
      have HB := hid hb
      have HR := hid hk
      clear hb hk HK
      by_cases hlt : j < 24
      · by_cases hu : unitI j < n
        · have hb' : Hid (∀ d : Int, 0 ≤ d → d < ((j + 1 : Nat) : Int) → unitI d < n) := fun d h0 hd => by
            rcases Int.lt_or_le d j with h | h
            · exact HB.out d h0 h
            · obtain rfl : d = j := by omega
              exact hu
          generalize unitI j = u at *
          go_wp2_with fail
          refine HC.out.mono ?_
          rintro e w2 ⟨rfl, hk⟩
          have HK := hid hk
          clear hk
          go_wp2
          go_roundw
          case rel => exact ⟨j + 1, by omega, by go_num, HK.out, hb'.out⟩
          case measure => simp [intOf]; omega
        · have he : Hid (ofI n = j) := ofI_unique n j (by omega) (by omega) (by omega) (by omega) HB.out
          generalize unitI j = u at *
          go_wp2_with fail
          refine HC.out.mono ?_
          rintro e w2 ⟨rfl, hk⟩
          have HK := hid hk
          clear hk
          go_wp2
          go_ret
          exact ⟨by rw [he.out]; rfl, HK.out⟩
      · obtain rfl : j = 24 := by omega
        have he : Hid (ofI n = -1) := (ofI_none n).2 (.inr (by have := HB.out 23 (by omega) (by omega); have e : unitI 23 = 8192 := rfl; omega))
        clear HC HB hlt
        go_wp2
        go_ret
        exact ⟨by rw [he.out]; rfl, HR.out⟩

set_option maxRecDepth 20000 in
theorem r_per (c : Int) {w0 w : World} (k : K w0 w) : Calls Tryz.prog 75 #[.int .i64 c] w fun e w' => e = .returned (.int .i64 (perI c)) ∧ K w0 w' := by
  have HU := hid (r_unit c k)
  have HK := hid k
  clear k
  by_cases hs : 0 ≤ c ∧ c ≤ 7
  · have hc : c = 0 ∨ c = 1 ∨ c = 2 ∨ c = 3 ∨ c = 4 ∨ c = 5 ∨ c = 6 ∨ c = 7 := by omega
    clear hs
    have u0 : unitI 0 = 16 := rfl
    have u1 : unitI 1 = 32 := rfl
    have u2 : unitI 2 = 48 := rfl
    have u3 : unitI 3 = 64 := rfl
    have u4 : unitI 4 = 96 := rfl
    have u5 : unitI 5 = 128 := rfl
    have u6 : unitI 6 = 192 := rfl
    have u7 : unitI 7 = 256 := rfl
    rcases hc with rfl | rfl | rfl | rfl | rfl | rfl | rfl | rfl
    all_goals
      simp only [u0, u1, u2, u3, u4, u5, u6, u7] at HU
      clear u0 u1 u2 u3 u4 u5 u6 u7
      go_enter Tryz.func75, Tryz.ntmps75
      go_wp2_with fail
      refine HU.out.mono ?_
      rintro e w2 ⟨rfl, hk⟩
      have HK2 := hid hk
      clear hk
      go_wp2
      go_ret
      exact ⟨rfl, HK2.out⟩
  · have hu : Hid (perI c = 0) := show perI c = 0 by
      unfold perI; repeat' split
      all_goals omega
    by_cases h0 : c < 0
    · clear hs HU
      go_enter Tryz.func75, Tryz.ntmps75
      go_wp2
      go_ret
      exact ⟨by rw [hu.out]; rfl, HK.out⟩
    · have h1 : 7 < c := by omega
      clear hs HU
      go_enter Tryz.func75, Tryz.ntmps75
      go_wp2
      go_ret
      exact ⟨by rw [hu.out]; rfl, HK.out⟩
theorem align_step (c : Int) (h0 : 0 ≤ c) (h1 : c ≤ 23) (j : Nat) (hj : j ≤ 9) (hle : (2 : Int) ^ j ≤ alignI c) :
    ((2 : Int) ^ j < 512 ∧ unitI c % (2 * 2 ^ j) = 0 → 2 * (2 : Int) ^ j ≤ alignI c ∧ j < 9) ∧ (¬ ((2 : Int) ^ j < 512 ∧ unitI c % (2 * 2 ^ j) = 0) → alignI c = 2 ^ j) := by
  have key : ∀ (a : Fin 24) (j : Fin 10), (2 : Int) ^ j.val ≤ alignI (a.val : Int) → ((2 : Int) ^ j.val < 512 ∧ unitI (a.val : Int) % (2 * 2 ^ j.val) = 0 → 2 * (2 : Int) ^ j.val ≤ alignI (a.val : Int) ∧ j.val < 9) ∧ (¬ ((2 : Int) ^ j.val < 512 ∧ unitI (a.val : Int) % (2 * 2 ^ j.val) = 0) → alignI (a.val : Int) = 2 ^ j.val) := by decide +kernel
  obtain ⟨a, rfl⟩ := fin24 c h0 h1
  exact key a ⟨j, by omega⟩ hle
set_option maxRecDepth 20000 in
theorem r_align (c : Int) {w0 w : World} (k : K w0 w) : Calls Tryz.prog 13 #[.int .i64 c] w fun e w' => e = .returned (.int .i64 (alignI c)) ∧ K w0 w' := by
  have HK := hid k
  clear k
  by_cases h0 : c < 0
  · have hu : Hid (alignI c = 0) := show alignI c = 0 by unfold alignI; rw [if_pos h0]
    go_enter Tryz.func13, Tryz.ntmps13
    go_wp2
    go_ret
    exact ⟨by rw [hu.out]; rfl, HK.out⟩
  · by_cases h1 : 23 < c
    · have hu : Hid (alignI c = 0) := show alignI c = 0 by
        unfold alignI; repeat' split
        all_goals omega
      go_enter Tryz.func13, Tryz.ntmps13
      go_wp2
      go_ret
      exact ⟨by rw [hu.out]; rfl, HK.out⟩
    · have HA : Hid (∀ (j : Nat) (_ : j ≤ 9) (_ : (2 : Int) ^ j ≤ alignI c), ((2 : Int) ^ j < 512 ∧ unitI c % (2 * 2 ^ j) = 0 → 2 * (2 : Int) ^ j ≤ alignI c ∧ j < 9) ∧ (¬ ((2 : Int) ^ j < 512 ∧ unitI c % (2 * 2 ^ j) = 0) → alignI c = 2 ^ j)) := fun j hj hle => align_step c (by omega) (by omega) j hj hle
      have HU : Hid (∀ {w : World}, K w0 w → Calls Tryz.prog 51 #[.int .i64 c] w fun e w' => e = .returned (.int .i64 (unitI c)) ∧ K w0 w') := fun h => r_unit _ h
      have h8 : 8 ≤ alignI c := (alignI_divides c (by omega) (by omega)).1
      have hur := unitI_range c (by omega) (by omega)
      generalize unitI c = u at *
      generalize alignI c = al at *
      obtain ⟨hu1, hu2⟩ := hur
      go_enter Tryz.func13, Tryz.ntmps13
      go_wp2
      go_loopw [3] (fun i wr => ∃ j : Nat, j ≤ 9 ∧ i = .int .i64 (2 ^ j) ∧ K w0 wr ∧ (2 : Int) ^ j ≤ al) (fun i _ => 512 - (intOf i).toNat)
      case atStart => exact ⟨0, by omega, rfl, HK.out, by omega⟩
      case round =>
        obtain ⟨j, hj, rfl, hk, hle⟩ := hrel
        have hpow : 1 ≤ (2 : Int) ^ j ∧ (2 : Int) ^ j ≤ 512 := by
          have : ∀ j : Fin 10, 1 ≤ (2 : Int) ^ j.val ∧ (2 : Int) ^ j.val ≤ 512 := by decide
          exact this ⟨j, by omega⟩
        have hs : Hid ((2 : Int) ^ (j + 1) = 2 * 2 ^ j) := show (2 : Int) ^ (j + 1) = 2 * 2 ^ j by rw [Int.pow_succ]; omega
        obtain ⟨hA, hB⟩ := HA.out j hj hle
        have HR := hid hk
        have HC := hid (HU.out hk)
        clear hk HK HA HU h0 h1
        have hrel2 : Hid (∀ wr, K w0 wr → 2 * (2 : Int) ^ j ≤ al ∧ j < 9 → ∃ i : Nat, i ≤ 9 ∧ Value.int .i64 (2 * 2 ^ j) = .int .i64 (2 ^ i) ∧ K w0 wr ∧ (2 : Int) ^ i ≤ al) := fun wr hk h => ⟨j + 1, by omega, by rw [hs.out], hk, by rw [hs.out]; exact h.1⟩
        clear hs
        generalize (2 : Int) ^ j = p at *
        obtain ⟨hp1, hp2⟩ := hpow
        have hm : u.tmod (2 * p) = u % (2 * p) := Int.tmod_eq_emod_of_nonneg (by omega)
        by_cases hlt : p < 512
        · by_cases hz : u % (2 * p) = 0
          · have hA := hid (hA ⟨hlt, hz⟩)
            rw [hz] at hm
            clear hz hB
            go_wp2_with fail
            refine HC.out.mono ?_
            rintro e w2 ⟨rfl, hk⟩
            have HK := hid hk
            clear hk HR HC
            go_wp2
            go_roundw
            case rel => exact hrel2.out _ HK.out hA.out
            case measure => simp [intOf]; omega
          · have he := hid (hB fun h => hz h.2)
            have hz' : (u % (2 * p) == 0) = false := by simpa using hz
            clear hA hB hm hz
            go_wp2_with fail
            refine HC.out.mono ?_
            rintro e w2 ⟨rfl, hk⟩
            have HK := hid hk
            clear hk HR HC
            go_wp2
            go_ret
            exact ⟨by rw [he.out]; rfl, HK.out⟩
        · have he := hid (hB fun h => hlt h.1)
          clear hA hB hm HC
          go_wp2
          go_ret
          exact ⟨by rw [he.out]; rfl, HR.out⟩
set_option maxRecDepth 20000 in
theorem r_charge (n : Int) {w0 w : World} (k : K w0 w) : Calls Tryz.prog 12 #[.int .i64 n] w fun e w' => e = .returned (.int .i64 (chargeI n)) ∧ K w0 w' := by
  have HO := hid (r_of n k)
  clear k
  by_cases h0 : ofI n < 0
  · have hu : Hid (chargeI n = 0) := show chargeI n = 0 by unfold chargeI; rw [if_pos h0]
    generalize ofI n = o at *
    go_enter Tryz.func12, Tryz.ntmps12
    go_wp2_with fail
    refine HO.out.mono ?_
    rintro e w2 ⟨rfl, hk⟩
    have HK2 := hid hk
    clear hk
    go_wp2
    go_ret
    exact ⟨by rw [hu.out]; rfl, HK2.out⟩
  · have hu : Hid (chargeI n = unitI (ofI n)) := show chargeI n = unitI (ofI n) by unfold chargeI; rw [if_neg h0]
    rw [hu.out]
    have HR : Hid (∀ {w : World}, K w0 w → Calls Tryz.prog 50 #[.int .i64 n] w fun e w' => e = .returned (.int .i64 (ofI n)) ∧ K w0 w') := fun h => r_of n h
    have HU : Hid (∀ {w : World}, K w0 w → Calls Tryz.prog 51 #[.int .i64 (ofI n)] w fun e w' => e = .returned (.int .i64 (unitI (ofI n))) ∧ K w0 w') := fun h => r_unit _ h
    clear hu
    generalize unitI (ofI n) = u at *
    generalize ofI n = o at *
    go_enter Tryz.func12, Tryz.ntmps12
    go_wp2_with fail
    refine HO.out.mono ?_
    rintro e w2 ⟨rfl, hk⟩
    have HK2 := hid hk
    clear hk
    go_wp2_with fail
    refine (HR.out HK2.out).mono ?_
    rintro e w3 ⟨rfl, hk⟩
    have HK3 := hid hk
    clear hk
    go_wp2_with fail
    refine (HU.out HK3.out).mono ?_
    rintro e w4 ⟨rfl, hk⟩
    have HK4 := hid hk
    clear hk
    go_wp2
    go_ret
    exact ⟨rfl, HK4.out⟩
end Go.Proofs.YtejbdbjccjkfdaaGreatDoor

namespace Go.Proofs.YtejbdbjccjkfdaaGreatDoor
open Go.RowKit
open An

/-- Two things as one. -/
def Both (P Q : World → (Nat → Prop) → Prop) (w : World) (U : Nat → Prop) : Prop := ∃ Z Y, P w Z ∧ Q w Y ∧ (∀ i, Z i → ¬ Y i) ∧ (∀ i, Z i → U i) ∧ (∀ i, Y i → U i) ∧ ∀ i, U i → i < w.heap.size
theorem Both.good {P Q : World → (Nat → Prop) → Prop} (hP : Good P) (hQ : Good Q) : Good (Both P Q) :=
  ⟨fun ⟨Z, Y, h1, h2, h3, h4, h5, h6⟩ f hs => ⟨Z, Y, hP.carry h1 f fun i hi => hs i (h4 i hi), hQ.carry h2 f fun i hi => hs i (h5 i hi), h3, h4, h5, fun i hi => Nat.lt_of_lt_of_le (h6 i hi) f.size⟩,
   fun ⟨Z, Y, h1, h2, h3, h4, h5, _⟩ k1 k2 => ⟨Z, Y, h1, h2, h3, fun i hi => k1 i (h4 i hi), fun i hi => k1 i (h5 i hi), k2⟩⟩
/-- A page's cells. -/
def pgc (r : Nat) (at_ of_ fresh : Int) (hd : List Bool) (rd wt : Nat) : List Value := [.pointer (some ⟨r, 0, none⟩), .int .i64 at_, .int .i64 of_, .int .i64 fresh] ++ (hd.map Value.bool ++ [.pointer (some ⟨rd, 0, none⟩), .pointer (some ⟨wt, 0, none⟩)])
structure Rw12 (w : World) (p r : Nat) (at_ of_ fresh : Int) (hd : List Bool) (rd wt : Nat) : Prop where
  st : w.heap[p]? = some (.cells (pgc r at_ of_ fresh hd rd wt).toArray 188 (0, 0))
  len : hd.length = 32
section
variable {w w' : World} {p r rd wt : Nat} {at_ of_ fresh : Int} {hd : List Bool}
theorem Rw12.lt (h : Rw12 w p r at_ of_ fresh hd rd wt) : p < w.heap.size := (Array.getElem?_eq_some_iff.1 h.st).1
theorem Rw12.carry {S : Nat → Prop} (h : Rw12 w p r at_ of_ fresh hd rd wt) (f : Fr S w w') (hn : ¬ S p) : Rw12 w' p r at_ of_ fresh hd rd wt := ⟨by rw [f.block p h.lt hn]; exact h.st, h.len⟩
theorem Rw12.cell (h : Rw12 w p r at_ of_ fresh hd rd wt) (j : Nat) : w.cell? ⟨p, j, none⟩ = (pgc r at_ of_ fresh hd rd wt)[j]? := by simp [World.cell?, h.st]
theorem Rw12.c0 (h : Rw12 w p r at_ of_ fresh hd rd wt) : w.cell? ⟨p, 0, none⟩ = some (.pointer (some ⟨r, 0, none⟩)) := by rw [h.cell]; rfl
theorem Rw12.c1 (h : Rw12 w p r at_ of_ fresh hd rd wt) : w.cell? ⟨p, 1, none⟩ = some (.int .i64 at_) := by rw [h.cell]; rfl
theorem Rw12.c2 (h : Rw12 w p r at_ of_ fresh hd rd wt) : w.cell? ⟨p, 2, none⟩ = some (.int .i64 of_) := by rw [h.cell]; rfl
theorem Rw12.c3 (h : Rw12 w p r at_ of_ fresh hd rd wt) : w.cell? ⟨p, 3, none⟩ = some (.int .i64 fresh) := by rw [h.cell]; rfl
theorem Rw12.had (h : Rw12 w p r at_ of_ fresh hd rd wt) (j : Nat) (hj : j < 32) : w.cell? ⟨p, 4 + j, none⟩ = some (.bool (hd[j]'(by rw [h.len]; exact hj))) := by
  have hl := h.len
  rw [h.cell]
  unfold pgc
  rw [List.getElem?_append_right (by simp)]
  simp only [List.length_cons, List.length_nil, Nat.zero_add, Nat.reduceAdd, Nat.add_sub_cancel_left]
  rw [List.getElem?_append_left (by simp; omega)]
  simp [hl, hj]
theorem Rw12.c36 (h : Rw12 w p r at_ of_ fresh hd rd wt) : w.cell? ⟨p, 36, none⟩ = some (.pointer (some ⟨rd, 0, none⟩)) := by
  have hl := h.len
  rw [h.cell]
  unfold pgc
  rw [List.getElem?_append_right (by simp), List.getElem?_append_right (by simp; omega)]
  simp [hl]
theorem Rw12.c37 (h : Rw12 w p r at_ of_ fresh hd rd wt) : w.cell? ⟨p, 37, none⟩ = some (.pointer (some ⟨wt, 0, none⟩)) := by
  have hl := h.len
  rw [h.cell]
  unfold pgc
  rw [List.getElem?_append_right (by simp), List.getElem?_append_right (by simp; omega)]
  simp [hl]
theorem Rw12.fz (h : Rw12 w p r at_ of_ fresh hd rd wt) (j : Nat) : w.frozen? ⟨p, j, none⟩ = false := by simp [World.frozen?, h.st]
theorem Rw12.setFresh (h : Rw12 w p r at_ of_ fresh hd rd wt) (x : Int) : Rw12 (w.setCell ⟨p, 3, none⟩ (.int .i64 x)) p r at_ of_ x hd rd wt := ⟨by simp [World.setCell, Array.getElem?_modify, h.st, pgc], h.len⟩
theorem Rw12.setAt (h : Rw12 w p r at_ of_ fresh hd rd wt) (x : Int) : Rw12 (w.setCell ⟨p, 1, none⟩ (.int .i64 x)) p r x of_ fresh hd rd wt := ⟨by simp [World.setCell, Array.getElem?_modify, h.st, pgc], h.len⟩
theorem Rw12.setHad (h : Rw12 w p r at_ of_ fresh hd rd wt) (j : Nat) (hj : j < 32) (b : Bool) : Rw12 (w.setCell ⟨p, 4 + j, none⟩ (.bool b)) p r at_ of_ fresh (hd.set j b) rd wt := by
  have hl := h.len
  refine ⟨?_, by rw [List.length_set]; exact h.len⟩
  have e : (pgc r at_ of_ fresh (hd.set j b) rd wt) = (pgc r at_ of_ fresh hd rd wt).set (4 + j) (.bool b) := by
    unfold pgc
    rw [List.set_append_right _ _ (by simp), List.map_set, List.set_append_left _ _ (by simp; omega)]
    simp
  rw [e]
  simp [World.setCell, Array.getElem?_modify, h.st]
end
end Go.Proofs.YtejbdbjccjkfdaaGreatDoor

namespace Go.Proofs.YtejbdbjccjkfdaaGreatDoor
open Go.RowKit

section
variable {P Q R P' Q' : World → (Nat → Prop) → Prop} {w w' : World} {U V' : Nat → Prop}
theorem Both.swap (h : Both P Q w U) : Both Q P w U := by
  obtain ⟨Z, Y, h1, h2, h3, h4, h5, h6⟩ := h
  exact ⟨Y, Z, h2, h1, fun i a b => h3 i b a, h5, h4, h6⟩
theorem Both.lt (h : Both P Q w U) : ∀ i, U i → i < w.heap.size := by obtain ⟨Z, Y, _, _, _, _, _, h6⟩ := h; exact h6
theorem Both.imp (h : Both P Q w U) (hq : ∀ Y, Q w Y → Q' w Y) : Both P Q' w U := by
  obtain ⟨Z, Y, h1, h2, h3⟩ := h
  exact ⟨Z, Y, h1, hq Y h2, h3⟩
/-- The third one rests. -/
theorem Both.rest (h : Both P (Both Q R) w U) (hR : Good R) : ∃ V, Both P Q w V ∧ (∀ i, V i → U i) ∧ ∀ {P' Q' : World → (Nat → Prop) → Prop} {w' : World} {V' : Nat → Prop}, Both P' Q' w' V' → Gw w w' V V' → ∃ U', Both P' (Both Q' R) w' U' ∧ Gw w w' U U' := by
  obtain ⟨Z, Y, h1, ⟨Z2, Y2, g1, g2, g3, g4, g5, g6⟩, h3, h4, h5, h6⟩ := h
  refine ⟨fun i => Z i ∨ Z2 i, ⟨Z, Z2, h1, g1, fun i a b => h3 i a (g4 i b), fun i a => .inl a, fun i a => .inr a, fun i a => a.elim (fun a => h6 i (h4 i a)) fun a => h6 i (h5 i (g4 i a))⟩, fun i a => a.elim (h4 i) fun a => h5 i (g4 i a), ?_⟩
  rintro P' Q' w' V' ⟨Z', Y', k1, k2, k3, k4, k5, k6⟩ g
  have hr : ∀ i, Y2 i → ¬ (Z i ∨ Z2 i) := fun i a b => b.elim (fun b => h3 i b (g5 i a)) fun b => g3 i b a
  have hR' : R w' Y2 := hR.carry g2 g.fr fun i a => hr i a
  have hs := g.fr.size
  have hold : ∀ i, Y2 i → i < w.heap.size := fun i a => h6 i (h5 i (g5 i a))
  have hnv : ∀ i, V' i → ¬ Y2 i := fun i a b => by
    rcases g.new i a with e | e
    · exact hr i b e
    · have := hold i b; omega
  refine ⟨fun i => V' i ∨ U i, ⟨Z', fun i => Y' i ∨ Y2 i, k1, ⟨Y', Y2, k2, hR', fun i a b => hnv i (k5 i a) b, fun i a => .inl a, fun i a => .inr a, fun i a => a.elim (fun a => k6 i (k5 i a)) fun a => Nat.lt_of_lt_of_le (hold i a) hs⟩, fun i a b => b.elim (k3 i a) (hnv i (k4 i a)), fun i a => .inl (k4 i a), fun i a => a.elim (fun a => .inl (k5 i a)) fun a => .inr (h5 i (g5 i a)), fun i a => a.elim (k6 i) fun a => Nat.lt_of_lt_of_le (h6 i a) hs⟩, ⟨fun i a => .inr a, fun i a => ?_, fun i a => a.elim (k6 i) fun a => Nat.lt_of_lt_of_le (h6 i a) hs, g.fr.mono fun i _ a => a.elim (h4 i) fun a => h5 i (g4 i a)⟩⟩
  rcases a with a | a
  · rcases g.new i a with e | e
    · exact .inl (e.elim (h4 i) fun e => h5 i (g4 i e))
    · exact .inr e
  · exact .inl a
/-- The second one rests. -/
theorem Both.rest2 (h : Both P (Both Q R) w U) (hQ : Good Q) : ∃ V, Both P R w V ∧ (∀ i, V i → U i) ∧ ∀ {P' R' : World → (Nat → Prop) → Prop} {w' : World} {V' : Nat → Prop}, Both P' R' w' V' → Gw w w' V V' → ∃ U', Both P' (Both Q R') w' U' ∧ Gw w w' U U' := by
  obtain ⟨V, h1, h2, h3⟩ := Both.rest (h.imp fun _ => Both.swap) hQ
  refine ⟨V, h1, h2, fun {P' R' w' V'} k1 k2 => ?_⟩
  obtain ⟨U', a1, a2⟩ := h3 k1 k2
  exact ⟨U', a1.imp fun _ => Both.swap, a2⟩
/-- Two of three, where the third is written behind. -/
theorem Both.assoc (h : Both (Both P Q) R w U) : Both P (Both Q R) w U := by
  obtain ⟨Z, Y, ⟨Z2, Y2, g1, g2, g3, g4, g5, g6⟩, h2, h3, h4, h5, h6⟩ := h
  exact ⟨Z2, fun i => Y2 i ∨ Y i, g1, ⟨Y2, Y, g2, h2, fun i a b => h3 i (g5 i a) b, fun i a => .inl a, fun i a => .inr a, fun i a => a.elim (fun a => h6 i (h4 i (g5 i a))) fun a => h6 i (h5 i a)⟩, fun i a b => b.elim (g3 i a) (h3 i (g4 i a)), fun i a => h4 i (g4 i a), fun i a => a.elim (fun a => h4 i (g5 i a)) (h5 i), h6⟩
/-- One of two is looked at. -/
theorem Both.snd (h : Both P Q w U) : ∃ Y, Q w Y ∧ ∀ i, Y i → U i := by obtain ⟨Z, Y, _, h2, _, _, h5, _⟩ := h; exact ⟨Y, h2, h5⟩
theorem Both.fst' (h : Both P Q w U) : ∃ Z, P w Z ∧ ∀ i, Z i → U i := by obtain ⟨Z, Y, h1, _, _, h4, _⟩ := h; exact ⟨Z, h1, h4⟩
/-- One of two is given away. -/
theorem Both.left (h : Both P Q w U) (hQ : Good Q) : ∃ Z, P w Z ∧ (∀ i, Z i → U i) ∧ ∀ {P' : World → (Nat → Prop) → Prop} {w' : World} {Z' : Nat → Prop}, P' w' Z' → Gw w w' Z Z' → ∃ U', Both P' Q w' U' ∧ Gw w w' U U' := by
  obtain ⟨Z, Y, h1, h2, h3, h4, h5, h6⟩ := h
  refine ⟨Z, h1, h4, fun {P' w' Z'} k1 g => ?_⟩
  have hs := g.fr.size
  refine ⟨fun i => Z' i ∨ U i, ⟨Z', Y, k1, hQ.carry h2 g.fr fun i a b => h3 i b a, fun i a b => ?_, fun i a => .inl a, fun i a => .inr (h5 i a), fun i a => a.elim (g.lt i) fun a => Nat.lt_of_lt_of_le (h6 i a) hs⟩, ⟨fun i a => .inr a, fun i a => ?_, fun i a => a.elim (g.lt i) fun a => Nat.lt_of_lt_of_le (h6 i a) hs, g.fr.mono fun i _ => h4 i⟩⟩
  · rcases g.new i a with e | e
    · exact h3 i e b
    · have := h6 i (h5 i b); omega
  · rcases a with a | a
    · rcases g.new i a with e | e
      · exact .inl (h4 i e)
      · exact .inr e
    · exact .inl a
end
end Go.Proofs.YtejbdbjccjkfdaaGreatDoor

namespace Go.Proofs.YtejbdbjccjkfdaaGreatDoor
open Go.RowKit

/-- One thing, and a block beside it. -/
def Also (X : World → (Nat → Prop) → Prop) (B : Nat) (ob : Obj) (w : World) (Z : Nat → Prop) : Prop := X w Z ∧ Blk B ob w Z
theorem Also.good {X : World → (Nat → Prop) → Prop} (h : Good X) (B : Nat) (ob : Obj) : Good (Also X B ob) :=
  ⟨fun k f hs => ⟨h.carry k.1 f hs, (Blk.good B ob).carry k.2 f hs⟩, fun k h1 h2 => ⟨h.mono k.1 h1 h2, (Blk.good B ob).mono k.2 h1 h2⟩⟩
theorem Things.cells {W w : World} {ts : List (World → (Nat → Prop) → Prop)} (h : Things W w ts) (j : Nat) {B : Nat} {ob : Obj} (hj : ts[j]? = some (Blk B ob)) : w.heap[B]? = some ob := by
  obtain ⟨U, h1, _⟩ := h.get j hj
  exact h1.1
theorem Things.setAt {W w : World} {ts : List (World → (Nat → Prop) → Prop)} (h : Things W w ts) (j : Nat) {B : Nat} {cs : Array Value} {T : TypeId} (hj : ts[j]? = some (Blk B (.cells cs T (0, 0)))) (i : Nat) (v : Value) : Things W (w.setCell ⟨B, i, none⟩ v) (ts.set j (Blk B (.cells (cs.setIfInBounds i v) T (0, 0)))) := by
  obtain ⟨U, h1, _, h2⟩ := h.turn j hj
  have f : Fr U w (w.setCell ⟨B, i, none⟩ v) := Fr.setCell (p := ⟨B, i, none⟩) (Fr.refl _ _) h1.2.1 v
  refine h2 _ _ U (Blk.good _ _) ⟨?_, h1.2.1, fun i hi => Nat.lt_of_lt_of_le (h1.2.2 i hi) f.size⟩ (Gw.same h1.2.2 f)
  simp [World.setCell, Array.getElem?_modify, h1.1]
theorem Things.blk {W w : World} {ts : List (World → (Nat → Prop) → Prop)} (h : Things W w ts) (ob : Obj) : Things W (w.alloc ob) (ts ++ [Blk w.heap.size ob]) := h.more (Blk.good _ _) (Blk.new w ob) ((Fr.refl _ _).alloc _) fun i hi => by simp only [World.size_alloc]; omega
end Go.Proofs.YtejbdbjccjkfdaaGreatDoor

namespace Go.Proofs.YtejbdbjccjkfdaaGreatDoor
open Go.RowKit

/-- The world with nothing in it. -/
def Bare (w : World) : World := { w with heap := #[] }
theorem Bare.nw (w : World) : Nw (Bare w) w := ⟨rfl, rfl, rfl, Nat.zero_le _, fun i hi => by simp [Bare] at hi⟩
/-- All that was in w but for Z, as it was. -/
def Old (w : World) (Z : Nat → Prop) (w' : World) (U : Nat → Prop) : Prop := w.heap.size ≤ w'.heap.size ∧ (∀ i, i < w.heap.size → ¬ Z i → U i ∧ w'.heap[i]? = w.heap[i]?) ∧ ∀ i, U i → i < w'.heap.size
theorem Old.good (w : World) (Z : Nat → Prop) : Good (Old w Z) :=
  ⟨fun ⟨h0, h1, h2⟩ f hs => ⟨Nat.le_trans h0 f.size, fun i hi hn => ⟨(h1 i hi hn).1, (f.block i (h2 i (h1 i hi hn).1) (hs i (h1 i hi hn).1)).trans (h1 i hi hn).2⟩, fun i hi => Nat.lt_of_lt_of_le (h2 i hi) f.size⟩,
   fun ⟨h0, h1, _⟩ k1 k2 => ⟨h0, fun i hi hn => ⟨k1 i (h1 i hi hn).1, (h1 i hi hn).2⟩, k2⟩⟩
theorem Things.begin {w : World} {P : World → (Nat → Prop) → Prop} {Z : Nat → Prop} (hP : Good P) (hp : P w Z) (hz : ∀ i, Z i → i < w.heap.size) : Things (Bare w) w [P, Old w Z] := by
  classical
  refine ⟨fun i => if Z i then 1 else if i < w.heap.size then 2 else 0, ⟨Bare.nw w, fun i hi => ⟨Nat.zero_le _, ?_⟩⟩, fun i => ?_, fun R hR => ?_, fun j R hj => ?_⟩
  · by_cases h1 : Z i
    · exact hz i h1
    · by_cases h2 : i < w.heap.size
      · exact h2
      · simp [h1, h2] at hi
  · show (if Z i then 1 else if i < w.heap.size then 2 else 0) ≤ 2
    split
    · omega
    · split <;> omega
  · simp only [List.mem_cons, List.not_mem_nil, or_false] at hR
    rcases hR with rfl | rfl
    · exact hP
    · exact Old.good w Z
  · rcases j with _ | _ | j
    · simp only [List.getElem?_cons_zero, Option.some.injEq] at hj
      subst hj
      refine hP.mono hp (fun i hi => by simp [lab, hi]) fun i hi => ?_
      by_cases h1 : Z i
      · exact hz i h1
      · exfalso
        simp only [lab, if_neg h1] at hi
        split at hi <;> omega
    · simp only [Nat.zero_add, List.getElem?_cons_succ, List.getElem?_cons_zero, Option.some.injEq] at hj
      subst hj
      refine ⟨Nat.le_refl _, fun i hi hn => ⟨by simp [lab, hi, hn], rfl⟩, fun i hi => ?_⟩
      by_cases h1 : Z i
      · exact hz i h1
      · by_cases h2 : i < w.heap.size
        · exact h2
        · simp [lab, h1, h2] at hi
    · simp at hj
theorem Things.finish {w w' : World} {P : World → (Nat → Prop) → Prop} {Z : Nat → Prop} {ts : List (World → (Nat → Prop) → Prop)} (h : Things (Bare w) w' (P :: Old w Z :: ts)) (hz : ∀ i, Z i → i < w.heap.size) : ∃ Z', P w' Z' ∧ Gw w w' Z Z' := by
  obtain ⟨o, h1, h2, h3, h4⟩ := h
  have hP := h4 0 P rfl
  obtain ⟨s1, s2, s3⟩ := h4 1 _ rfl
  have hg := h3 P (List.mem_cons_self ..)
  have hlt : ∀ i, (lab o 1 i ∨ Z i) → i < w'.heap.size := fun i hi => by
    rcases hi with hi | hi
    · exact h1.lt (j := 1) (by omega) i hi
    · exact Nat.lt_of_lt_of_le (hz i hi) s1
  refine ⟨fun i => lab o 1 i ∨ Z i, hg.mono hP (fun _ => .inl) hlt, ⟨fun _ => .inr, fun i hi => ?_, hlt, ⟨h1.nw.os, h1.nw.tape, h1.nw.output, s1, fun i hi hn => (s2 i hi hn).2⟩⟩⟩
  rcases hi with hi | hi
  · by_cases h5 : i < w.heap.size
    · by_cases h6 : Z i
      · exact .inl h6
      · have e2 := (s2 i h5 h6).1
        unfold lab at hi e2
        omega
    · exact .inr (by omega)
  · exact .inl hi
end Go.Proofs.YtejbdbjccjkfdaaGreatDoor
