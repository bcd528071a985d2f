/-
  A tenant that is none, and one without an arena, has nothing: the walk of the law TenantNil.
  From the row's condition, what both tables (class.units, math/bits) read as when the call begins, to what the walks ask of them.
-/
import Derived.Test.YtioplfbkfokkfaaGreatDoorTnNil
import Derived.Test.YtioplfbkfokkfaaGreatDoorDmCalls
import Derived.Test.YtioplfbkfokkfaaGreatDoorSfCalls
import Derived.ProofKit
import Derived.OpenShut
import Derived.LaidMore
import Derived.Stop.Joined
import Derived.Lib.LaidTab
namespace Go.Proofs.YtioplfbkfokkfaaGreatDoor
open Go.RowKit
open An

set_option maxRecDepth 20000 in
set_option maxHeartbeats 4000000 in
theorem nil_walk' {w : World} (gr : G17 w) {P K q id se kd n m pk tu hh : Int} {ad0 ad : Option Addr} {cap0 cap : Nat} {W0 W1 : List Int} {d : ByteArray} (hc : CfgT w ⟨P, K, q, id, se, ad0, cap0, W0⟩) (hR : OpR18 w ⟨kd, n, m, pk, tu, d, ad, cap, W1⟩) : Calls Tryz.prog 3 #[.agg #[.int .i64 P, .int .i64 K, .int .i64 q, .int .i64 id, .int .i64 se, .slice ad0 W0.length cap0], .agg #[.int .i64 kd, .int .i64 n, .int .i64 m, .int .i64 pk, .int .u64 tu, .string d, .slice ad W1.length cap], .int .u64 hh] w fun e w' => e = .returned (.bool true) ∧ Nw w w' := by
  have HA : Hid (∀ w1 ts, Things w w1 ts → Calls Tryz.prog 6 #[] w1 fun e w' => e = .returned (.bool true) ∧ Things w w' ts) := fun w1 ts h => (awake_any (Nw.start w1) (gr.fr h.nw.fr)).mono fun e w' ⟨he, f⟩ => ⟨he, h.kept f.fr⟩
  have T0 : Things w ((w.alloc (.cells #[.int .i64 P, .int .i64 K, .int .i64 q, .int .i64 id, .int .i64 se, .slice ad0 W0.length cap0] 26)).alloc (.cells #[.int .i64 kd, .int .i64 n, .int .i64 m, .int .i64 pk, .int .u64 tu, .string d, .slice ad W1.length cap] 29)) [Blk w.heap.size (.cells #[.int .i64 P, .int .i64 K, .int .i64 q, .int .i64 id, .int .i64 se, .slice ad0 W0.length cap0] 26 (0, 0)), Blk (w.heap.size + 1) (.cells #[.int .i64 kd, .int .i64 n, .int .i64 m, .int .i64 pk, .int .u64 tu, .string d, .slice ad W1.length cap] 29 (0, 0))] := by
    have h := ((Things.start (Nw.start w)).blk (.cells #[.int .i64 P, .int .i64 K, .int .i64 q, .int .i64 id, .int .i64 se, .slice ad0 W0.length cap0] 26)).blk (.cells #[.int .i64 kd, .int .i64 n, .int .i64 m, .int .i64 pk, .int .u64 tu, .string d, .slice ad W1.length cap] 29)
    rw [World.size_alloc] at h
    exact h
  have hlong : Calls Tryz.prog 5 #[.agg #[.int .i64 P, .int .i64 K, .int .i64 q, .int .i64 id, .int .i64 se, .slice ad0 W0.length cap0], .slice (some ⟨w.heap.size + 1 + 1, 0, none⟩) 1 1] (((w.alloc (.cells #[.int .i64 P, .int .i64 K, .int .i64 q, .int .i64 id, .int .i64 se, .slice ad0 W0.length cap0] 26)).alloc (.cells #[.int .i64 kd, .int .i64 n, .int .i64 m, .int .i64 pk, .int .u64 tu, .string d, .slice ad W1.length cap] 29)).alloc (.cells #[.int .i64 kd, .int .i64 n, .int .i64 m, .int .i64 pk, .int .u64 tu, .string d, .slice ad W1.length cap] 29)) fun e w' => (∃ b : Bool, e = .returned (.bool b)) ∧ Things w w' [Blk w.heap.size (.cells #[.int .i64 P, .int .i64 K, .int .i64 q, .int .i64 id, .int .i64 se, .slice ad0 W0.length cap0] 26 (0, 0)), Blk (w.heap.size + 1) (.cells #[.int .i64 kd, .int .i64 n, .int .i64 m, .int .i64 pk, .int .u64 tu, .string d, .slice ad W1.length cap] 29 (0, 0))] := by
    have f3 : Fr (fun _ => False) w (((w.alloc (.cells #[.int .i64 P, .int .i64 K, .int .i64 q, .int .i64 id, .int .i64 se, .slice ad0 W0.length cap0] 26)).alloc (.cells #[.int .i64 kd, .int .i64 n, .int .i64 m, .int .i64 pk, .int .u64 tu, .string d, .slice ad W1.length cap] 29)).alloc (.cells #[.int .i64 kd, .int .i64 n, .int .i64 m, .int .i64 pk, .int .u64 tu, .string d, .slice ad W1.length cap] 29)) := (((Fr.refl _ _).alloc _).alloc _).alloc _
    refine (long_any (l := [⟨kd, n, m, pk, tu, d, ad, cap, W1⟩]) (c := ⟨P, K, q, id, se, ad0, cap0, W0⟩) (fun i hi => ?_) (hc.fr f3) (by simp [maxLen])).mono fun e w' ⟨⟨b, he, _⟩, hf⟩ => ⟨⟨b, he⟩, (T0.kept ((Fr.refl _ _).alloc _)).kept hf⟩
    obtain rfl : i = 0 := by simp at hi; omega
    have hb : (((w.alloc (.cells #[.int .i64 P, .int .i64 K, .int .i64 q, .int .i64 id, .int .i64 se, .slice ad0 W0.length cap0] 26)).alloc (.cells #[.int .i64 kd, .int .i64 n, .int .i64 m, .int .i64 pk, .int .u64 tu, .string d, .slice ad W1.length cap] 29)).alloc (.cells #[.int .i64 kd, .int .i64 n, .int .i64 m, .int .i64 pk, .int .u64 tu, .string d, .slice ad W1.length cap] 29)).heap[w.heap.size + 1 + 1]? = some (.cells #[.int .i64 kd, .int .i64 n, .int .i64 m, .int .i64 pk, .int .u64 tu, .string d, .slice ad W1.length cap] 29 (0, 0)) := by
      have h := heap_alloc_new ((w.alloc (.cells #[.int .i64 P, .int .i64 K, .int .i64 q, .int .i64 id, .int .i64 se, .slice ad0 W0.length cap0] 26)).alloc (.cells #[.int .i64 kd, .int .i64 n, .int .i64 m, .int .i64 pk, .int .u64 tu, .string d, .slice ad W1.length cap] 29)) (.cells #[.int .i64 kd, .int .i64 n, .int .i64 m, .int .i64 pk, .int .u64 tu, .string d, .slice ad W1.length cap] 29)
      rw [World.size_alloc, World.size_alloc] at h
      exact h
    exact ⟨w.heap.size + 1 + 1, 0, rfl, by simp, box_cellT hb 0 rfl, box_cellT hb 1 rfl, box_cellT hb 2 rfl, box_cellT hb 3 rfl, box_cellT hb 4 rfl, box_cellT hb 5 rfl, box_cellT hb 6 rfl, hR.fr f3⟩
  have HL := hid hlong
  have HD : Hid (∀ w1 ts, Things w w1 ts → ∃ ad' cap' w', (Builtin.append_ #[24, 24] 24 #[.slice (some ⟨w1.heap.size, 0, none⟩) 0 0, .slice ad0 W0.length cap0]).run Tryz.prog (w1.alloc (.cells #[] 3)) = .ok (.slice ad' W0.length cap') w' ∧ Things w w' ts) := fun w1 ts h => by
    obtain ⟨ad', cap', w', h1, _, h3, _⟩ := run_dup (w := w1) 24 cap0 (hc.W.fr h.nw.fr) hc.lW
    exact ⟨ad', cap', w', h1, h.kept h3⟩
  have HN : Hid (∀ w1 v ts, Things w w1 ts → Calls Tryz.prog 7 #[.pointer none, .pointer none, .int .i64 id, .int .i64 se, .int .i64 q, v] w1 fun e w' => e = .returned (.tuple #[.pointer none, .int .i64 11]) ∧ Things w w' ts) := fun w1 v ts h => (n_new_nil id se q v w1).mono fun e w' ⟨he, f⟩ => ⟨he, h.kept f⟩
  have HC : Hid (∀ w1 ts, Things w w1 ts → Calls Tryz.prog 8 #[.pointer none, .agg #[.int .i64 kd, .int .i64 n, .int .i64 m, .int .i64 pk, .int .u64 tu, .string d, .slice ad W1.length cap], .int .u64 hh] w1 fun e w' => e = .returned (ans (if kd = 10 then 0 else 11) 0 0 0 ⟨#[]⟩ 0) ∧ Things w w' ts) := fun w1 ts h => call_nil h hh (o := ⟨kd, n, m, pk, tu, d, ad, cap, W1⟩) (hR.W.fr h.nw.fr) hR.lW
  have HDr : Hid (∀ w1 ts, Things w w1 ts → Calls Tryz.prog 9 #[.pointer none] w1 fun e w' => e = .returned (.tuple #[]) ∧ Things w w' ts) := fun w1 ts h => (z_drop w1).mono fun e w' ⟨he, h2⟩ => ⟨he, h2 ▸ h⟩
  have HBl : Hid (∀ w1 ts, Things w w1 ts → Calls Tryz.prog 10 #[.pointer none] w1 fun e w' => e = .returned (.slice none 0 0) ∧ Things w w' ts) := fun w1 ts h => (z_blocks w1).mono fun e w' ⟨he, h2⟩ => ⟨he, h2 ▸ h⟩
  have HHe : Hid (∀ w1 ts, Things w w1 ts → Calls Tryz.prog 11 #[.pointer none] w1 fun e w' => e = .returned (.pointer none) ∧ Things w w' ts) := fun w1 ts h => (z_heapN w1).mono fun e w' ⟨he, h2⟩ => ⟨he, h2 ▸ h⟩
  have HCh : Hid (∀ w1 ts, Things w w1 ts → Calls Tryz.prog 12 #[.pointer none] w1 fun e w' => e = .returned (.int .i64 0) ∧ Things w w' ts) := fun w1 ts h => (z_charged w1).mono fun e w' ⟨he, h2⟩ => ⟨he, h2 ▸ h⟩
  have HQu : Hid (∀ w1 ts, Things w w1 ts → Calls Tryz.prog 13 #[.pointer none] w1 fun e w' => e = .returned (.int .i64 0) ∧ Things w w' ts) := fun w1 ts h => (z_quota w1).mono fun e w' ⟨he, h2⟩ => ⟨he, h2 ▸ h⟩
  have HSe : Hid (∀ w1 ts, Things w w1 ts → Calls Tryz.prog 14 #[.pointer none] w1 fun e w' => e = .returned (.int .i64 0) ∧ Things w w' ts) := fun w1 ts h => (z_serial w1).mono fun e w' ⟨he, h2⟩ => ⟨he, h2 ▸ h⟩
  clear hlong T0 hc hR gr
  generalize W0.length = wl0 at *
  generalize W1.length = wl1 at *
  go_enter Tryz.func3, Tryz.ntmps3
  go_wp2_with fail
  refine HL.out.mono ?_
  rintro e w1 ⟨⟨b, rfl⟩, g1⟩
  have G1 := hid g1
  clear g1 HL
  cases b with
  | true =>
    clear HD HN HC HDr HBl HHe HCh HQu HSe
    go_wp2_with fail
    refine (HA.out _ _ G1.out).mono ?_
    rintro e w2 ⟨rfl, g2⟩
    have G2 := hid g2
    clear g2 G1 HA
    go_wp2
    go_ret
    exact ⟨by simp, G2.out.nw⟩
  | false =>
    go_wp2_with fail
    have HCC : Hid (∀ w1 ts, Things w w1 (Blk w.heap.size (.cells #[.int .i64 P, .int .i64 K, .int .i64 q, .int .i64 id, .int .i64 se, .slice ad0 wl0 cap0] 26 (0, 0)) :: ts) → w1.cell? ⟨w.heap.size, 2, none⟩ = some (.int .i64 q) ∧ w1.cell? ⟨w.heap.size, 3, none⟩ = some (.int .i64 id) ∧ w1.cell? ⟨w.heap.size, 4, none⟩ = some (.int .i64 se) ∧ w1.cell? ⟨w.heap.size, 5, none⟩ = some (.slice ad0 wl0 cap0)) := fun w1 ts h => ⟨box_cellT (h.cells 0 rfl) 2 rfl, box_cellT (h.cells 0 rfl) 3 rfl, box_cellT (h.cells 0 rfl) 4 rfl, box_cellT (h.cells 0 rfl) 5 rfl⟩
    have gd := G1.out.kept ((Fr.refl _ _).drew)
    obtain ⟨ad', cap', w3, hr, g3⟩ := HD.out _ _ gd
    rw [show w1.drew.heap.size = w1.heap.size from by simp] at hr
    have hrun : (Builtin.append_ #[24, 24] 24 #[.slice (some ⟨w1.heap.size, 0, none⟩) 0 0, .slice ad0 wl0 cap0]).run Tryz.prog (w1.alloc (.cells #[] 3)).drew = .ok (.slice ad' wl0 cap') w3 := hr
    have ge := gd.kept ((Fr.refl _ _).alloc (.cells #[] 3))
    obtain ⟨a2, a3, a4, a5⟩ := HCC.out _ _ gd
    obtain ⟨b2, b3, b4, b5⟩ := HCC.out _ _ ge
    obtain ⟨d2, d3, d4, d5⟩ := HCC.out _ _ g3
    have b2' : (w1.alloc (.cells #[] 3)).drew.cell? ⟨w.heap.size, 2, none⟩ = some (.int .i64 q) := b2
    have b3' : (w1.alloc (.cells #[] 3)).drew.cell? ⟨w.heap.size, 3, none⟩ = some (.int .i64 id) := b3
    have b4' : (w1.alloc (.cells #[] 3)).drew.cell? ⟨w.heap.size, 4, none⟩ = some (.int .i64 se) := b4
    have b5' : (w1.alloc (.cells #[] 3)).drew.cell? ⟨w.heap.size, 5, none⟩ = some (.slice ad0 wl0 cap0) := b5
    have G3 := hid g3
    clear hr gd ge g3 b2 b3 b4 b5 HD
    go_region_held3 (fun w' => w'.cell? ⟨w.heap.size, 2, none⟩ = some (.int .i64 q) ∧ w'.cell? ⟨w.heap.size, 3, none⟩ = some (.int .i64 id) ∧ w'.cell? ⟨w.heap.size, 4, none⟩ = some (.int .i64 se) ∧ w'.cell? ⟨w.heap.size, 5, none⟩ = some (.slice ad0 wl0 cap0)) (first | exact ⟨by with_reducible assumption, by with_reducible assumption, by with_reducible assumption, by with_reducible assumption⟩ | go_keep) (first | (refine app_arm rfl (.tmp 23) (.tmp 25) _ _ rfl rfl rfl hrun ?_) | (go_at_call 7; refine (HN.out _ _ _ G3.out).mono ?_; rintro e w4 ⟨rfl, g4⟩; have G4 := hid g4; obtain ⟨n2, n3, n4, n5⟩ := HCC.out _ _ g4; clear g4))
    all_goals
      clear a2 a3 a4 a5 b2' b3' b4' b5' d2 d3 d4 d5 n2 n3 n4 n5 hrun HCC G3 HN G1
      have HO : Hid (∀ w1 ts, Things w w1 (Blk w.heap.size (.cells #[.int .i64 P, .int .i64 K, .int .i64 q, .int .i64 id, .int .i64 se, .slice ad0 wl0 cap0] 26 (0, 0)) :: Blk (w.heap.size + 1) (.cells #[.int .i64 kd, .int .i64 n, .int .i64 m, .int .i64 pk, .int .u64 tu, .string d, .slice ad wl1 cap] 29 (0, 0)) :: ts) → w1.cell? ⟨w.heap.size + 1, 0, none⟩ = some (.int .i64 kd) ∧ w1.cell? ⟨w.heap.size + 1, 1, none⟩ = some (.int .i64 n) ∧ w1.cell? ⟨w.heap.size + 1, 2, none⟩ = some (.int .i64 m) ∧ w1.cell? ⟨w.heap.size + 1, 3, none⟩ = some (.int .i64 pk) ∧ w1.cell? ⟨w.heap.size + 1, 4, none⟩ = some (.int .u64 tu) ∧ w1.cell? ⟨w.heap.size + 1, 5, none⟩ = some (.string d) ∧ w1.cell? ⟨w.heap.size + 1, 6, none⟩ = some (.slice ad wl1 cap)) := fun w1 ts h => ⟨box_cellT (h.cells 1 rfl) 0 rfl, box_cellT (h.cells 1 rfl) 1 rfl, box_cellT (h.cells 1 rfl) 2 rfl, box_cellT (h.cells 1 rfl) 3 rfl, box_cellT (h.cells 1 rfl) 4 rfl, box_cellT (h.cells 1 rfl) 5 rfl, box_cellT (h.cells 1 rfl) 6 rfl⟩
      obtain ⟨o0, o1, o2, o3, o4, o5, o6⟩ := HO.out _ _ G4.out
      go_wp2_with fail
      refine (HC.out _ _ G4.out).mono ?_
      rintro e w5 ⟨rfl, g5⟩
      have G5 := hid g5
      clear g5 G4 HC o0 o1 o2 o3 o4 o5 o6
      generalize hE : (if kd = 10 then (0 : Int) else 11) = E
      have HE := hid hE
      clear hE
      have B5 := hid (G5.out.blk (.cells #[.int .i64 E, .int .u64 0, .int .i64 0, .int .i64 0, .string ⟨#[]⟩, .int .i64 0] 38))
      clear G5
      go_wp2_with fail
      refine (HDr.out _ _ B5.out).mono ?_
      rintro e w6 ⟨rfl, g6⟩
      have G6 := hid g6
      clear g6 B5 HDr
      go_wp2_with fail
      refine (HA.out _ _ G6.out).mono ?_
      rintro e w7 ⟨rfl, g7⟩
      have G7 := hid g7
      obtain ⟨o0, _⟩ := HO.out _ _ g7
      have x0 := box_cellT (g7.cells 2 rfl) 0 rfl
      have x1 := box_cellT (g7.cells 2 rfl) 1 rfl
      clear g7 G6 HA HO
      by_cases hk : kd = 10
      · subst hk
        clear HE
        go_wp2_with fail
        refine (HBl.out _ _ G7.out).mono ?_
        rintro e w8 ⟨rfl, g⟩
        have G8 := hid g
        clear g G7 HBl
        go_wp2_with fail
        refine (HHe.out _ _ G8.out).mono ?_
        rintro e w9 ⟨rfl, g⟩
        have G9 := hid g
        clear g G8 HHe
        go_wp2_with fail
        refine (HCh.out _ _ G9.out).mono ?_
        rintro e w10 ⟨rfl, g⟩
        have G10 := hid g
        clear g G9 HCh
        go_wp2_with fail
        refine (HQu.out _ _ G10.out).mono ?_
        rintro e w11 ⟨rfl, g⟩
        have G11 := hid g
        clear g G10 HQu
        go_wp2_with fail
        refine (HSe.out _ _ G11.out).mono ?_
        rintro e w12 ⟨rfl, g⟩
        have G12 := hid g
        clear g G11 HSe
        go_wp2
        go_ret
        exact ⟨by simp, G12.out.nw⟩
      · obtain rfl : E = 11 := by have := HE.out; rw [if_neg hk] at this; exact this.symm
        clear HE
        go_wp2_with fail
        refine (HBl.out _ _ G7.out).mono ?_
        rintro e w8 ⟨rfl, g⟩
        have G8 := hid g
        clear g G7 HBl
        go_wp2_with fail
        refine (HHe.out _ _ G8.out).mono ?_
        rintro e w9 ⟨rfl, g⟩
        have G9 := hid g
        clear g G8 HHe
        go_wp2_with fail
        refine (HCh.out _ _ G9.out).mono ?_
        rintro e w10 ⟨rfl, g⟩
        have G10 := hid g
        clear g G9 HCh
        go_wp2_with fail
        refine (HQu.out _ _ G10.out).mono ?_
        rintro e w11 ⟨rfl, g⟩
        have G11 := hid g
        clear g G10 HQu
        go_wp2_with fail
        refine (HSe.out _ _ G11.out).mono ?_
        rintro e w12 ⟨rfl, g⟩
        have G12 := hid g
        clear g G11 HSe
        go_wp2
        go_ret
        exact ⟨by simp, G12.out.nw⟩
theorem nil_walk {w : World} (gr : G17 w) {c : C18} (hc : CfgT w c) {o : O18} (hR : OpR18 w o) (hh : Int) : Calls Tryz.prog 3 #[.agg c.cs, .agg o.cs, .int .u64 hh] w fun e w' => e = .returned (.bool true) ∧ Fr (fun _ => False) w w' := by
  obtain ⟨P, K, q, id, se, ad0, cap0, W0⟩ := c
  obtain ⟨kd, n, m, pk, tu, d, ad, cap, W1⟩ := o
  exact (nil_walk' gr hc hR).mono fun e w' ⟨he, f⟩ => ⟨he, f.fr⟩
end Go.Proofs.YtioplfbkfokkfaaGreatDoor

namespace Go.Proofs.YtioplfbkfokkfaaGreatDoor
open Go.RowKit

def laidL : List (String × DataW Unit) := [("garth/class.units", Rows.laid_garth_class_units), ("math/bits.deBruijn64tab", Rows.laid_math_bits_deBruijn64tab)]
theorem own : ownKnob Tryz.prog.godebug = none := by kernel_rfl
theorem laidOut : laidOutB Tryz.prog = true := by kernel_rfl
theorem laidMet_tail {P : Program} {W : World} {n : String} {d : DataW Unit} {r : List (String × DataW Unit)} (h : laidMet P ((n, d) :: r) W) : laidMet P r W := by
  obtain ⟨ps, ⟨g, t, cs, fuel, p, q, _, _, _, _, hr, rfl⟩, hn, hc⟩ := h
  exact ⟨q, hr, (List.nodup_append.1 hn).2.1, fun b off hm => hc b off (by simp [hm])⟩
theorem gTab : Tryz.prog.globalNamed "garth/class.units" = some 0 := by kernel_rfl
theorem tTab : (Tryz.prog.globals[0]?).map (·.type) = some 165 := by kernel_rfl
theorem cTab : Tryz.prog.cellsOf 165 = 8 := by kernel_rfl
theorem cInt : Tryz.prog.cellsOf 3 = 1 := by kernel_rfl
def tabZ : List Int := [16, 32, 48, 64, 96, 128, 192, 256]
theorem laid_is : (Rows.laid_garth_class_units : DataW Unit) = Lib.tabData .i64 tabZ := rfl
theorem gTabB : Tryz.prog.globalNamed "math/bits.deBruijn64tab" = some 2 := by kernel_rfl
theorem tTabB : (Tryz.prog.globals[2]?).map (·.type) = some 262 := by kernel_rfl
theorem cTabB : Tryz.prog.cellsOf 262 = 64 := by kernel_rfl
theorem cByteB : Tryz.prog.cellsOf 5 = 1 := by kernel_rfl
def tabB : List Int := Lib.deBruijn64tab.map fun n : Nat => (n : Int)
theorem laid_isB : (Rows.laid_math_bits_deBruijn64tab : DataW Unit) = Lib.tabData .u8 tabB := rfl
theorem tab_of {W : World} (h : laidMetH Tryz.prog laidL W) : Tab W ∧ Sf.Tab W := by
  rw [MakeChecks.laidMetH_plain _ _ _ (by kernel_rfl)] at h
  unfold laidL at h
  rw [laid_is, laid_isB] at h
  have ht := Lib.tabIs_of_head gTab tTab Tryz.underlying165 Tryz.underlying3 cInt cTab h
  have hb := Lib.tabIs_of_head gTabB tTabB Tryz.underlying262 Tryz.underlying5 cByteB cTabB (laidMet_tail h)
  refine ⟨fun j hj => ?_, fun j hj => ?_⟩
  · have := ht.cell gTab j (by simpa [tabZ] using hj)
    rw [this]
    have key : ∀ a : Fin 8, tabZ.getD a.val 0 = unitI (a.val : Int) := by decide
    rw [key ⟨j, hj⟩]
  · have := hb.cell gTabB j (by simpa [tabB, Lib.deBruijn64tab] using hj)
    rw [this]
    have hl : j < Lib.deBruijn64tab.length := by simpa [Lib.deBruijn64tab] using hj
    simp [tabB, List.getD_eq_getElem?_getD, List.getElem?_eq_getElem hl]
theorem door_met (os : Os) (args : Array Value) : laidMetH Tryz.prog laidL ((World.doorLaid Tryz.prog 14 os).forCall (fun _ _ => 0) ⟨#[], args, []⟩).memory :=
  laidMetH_of_parts3 (fuel := 8) (laidMet_of_run' 8 (by kernel_rfl) (by kernel_rfl)) (by kernel_rfl) (by kernel_rfl)
end Go.Proofs.YtioplfbkfokkfaaGreatDoor
