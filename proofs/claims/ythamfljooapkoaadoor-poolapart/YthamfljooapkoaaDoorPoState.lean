/-
  A pool that the call itself has made. The document's own examples stand, so the laws are awake.
-/
import Derived.Test.YthamfljooapkoaaDoorPoCalls
import Derived.Test.YthamfljooapkoaaDoorPoRef
namespace Go.Proofs.YthamfljooapkoaaDoor
open Go.RowKit

/-- A pool of the program's that was made behind W. -/
structure Pn (W w : World) (a : Nat) (Z : Nat → Prop) (own : List Int) : Prop where
  m : Pm w a Z own
  z : ∀ i, Z i → W.heap.size ≤ i
  nw : Nw W w
  p0 : 0 < W.heap.size
section
variable {W w w' : World} {a : Nat} {Z Z' : Nat → Prop} {own own' : List Int}
theorem Pn.kept (h : Pn W w a Z own) (f : Fr (fun _ => False) w w') : Pn W w' a Z own := ⟨h.m.carry f (fun _ _ => id) id, h.z, h.nw.kept f, h.p0⟩
theorem Pn.alloc (h : Pn W w a Z own) (o : Obj) : Pn W (w.alloc o) a Z own := h.kept ((Fr.refl _ _).alloc o)
theorem Pn.step (h : Pn W w a Z own) (c : Pm w' a Z' own') (hz : ∀ i, Z' i → Z i ∨ w.heap.size ≤ i) (f : Fr Z w w') : Pn W w' a Z' own' := ⟨c, fun i hi => by
  rcases hz i hi with k | k
  · exact h.z i k
  · have := h.nw.le; omega, h.nw.on f h.z, h.p0⟩
/-- What a new block is, no pool has. -/
theorem Pn.new (h : Pn W w a Z own) : ¬ Z w.heap.size := fun e => by have := h.m.zlt _ e; omega
theorem n_new {n : Nat} (h1 : 1 ≤ n) (h2 : n ≤ 32) (nw : Nw W w) (g : Gr W) : Calls Tryd.prog 7 #[.int .i64 (n : Int)] w fun e w' => ∃ a Z, e = .returned (.tuple #[.pointer (some ⟨a, 0, none⟩), .int .i64 0]) ∧ (∀ i, Z i → w.heap.size ≤ i) ∧ Pn W w' a Z (List.replicate n (-1)) ∧ Fr (fun _ => False) w w' :=
  (p_new h1 h2 w (g.fr nw.fr)).mono fun _ _ ⟨a, Z, he, hz, hc, f⟩ => ⟨a, Z, he, hz, ⟨hc, fun i hi => Nat.le_trans nw.le (hz i hi), nw.kept f, g.pos⟩, f⟩
theorem n_grant (h : Pn W w a Z own) (o k : Int) : Calls Tryd.prog 11 #[.pointer (some ⟨a, 0, none⟩), .int .i64 o, .int .i64 k] w fun e w' => ∃ Z', LsK w w' Z' (nI (grL own o k)) (grE own o k) e ∧ Pn W w' a Z' (grS own o k) ∧ (∀ i, Z' i → Z i ∨ w.heap.size ≤ i) ∧ Fr Z w w' :=
  (p_grant h.m o k).mono fun _ _ ⟨Z', he, hc, hz, f⟩ => ⟨Z', he, h.step hc hz f, hz, f⟩
theorem n_shrink (h : Pn W w a Z own) (o k : Int) : Calls Tryd.prog 19 #[.pointer (some ⟨a, 0, none⟩), .int .i64 o, .int .i64 k] w fun e w' => ∃ Z', LsK w w' Z' (nI (shL own o k)) (shE own o k) e ∧ Pn W w' a Z' (shS own o k) ∧ (∀ i, Z' i → Z i ∨ w.heap.size ≤ i) ∧ Fr Z w w' :=
  (p_shrink h.m o k).mono fun _ _ ⟨Z', he, hc, hz, f⟩ => ⟨Z', he, h.step hc hz f, hz, f⟩
theorem n_drop (h : Pn W w a Z own) (o : Int) : Calls Tryd.prog 20 #[.pointer (some ⟨a, 0, none⟩), .int .i64 o] w fun e w' => ∃ Z', LsK w w' Z' (nI (shL own o 0)) (shE own o 0) e ∧ Pn W w' a Z' (shS own o 0) ∧ (∀ i, Z' i → Z i ∨ w.heap.size ≤ i) ∧ Fr Z w w' :=
  (p_drop h.m o).mono fun _ _ ⟨Z', he, hc, hz, f⟩ => ⟨Z', he, h.step hc hz f, hz, f⟩
theorem n_copy (h : Pn W w a Z own) : Calls Tryd.prog 10 #[.pointer (some ⟨a, 0, none⟩)] w fun e w' => ∃ a' Z', e = .returned (.pointer (some ⟨a', 0, none⟩)) ∧ (∀ i, Z' i → w.heap.size ≤ i) ∧ Pn W w' a' Z' own ∧ Fr (fun _ => False) w w' :=
  (p_copy h.m).mono fun _ _ ⟨a', Z', he, hz, hc, f⟩ => ⟨a', Z', he, hz, ⟨hc, fun i hi => Nat.le_trans h.nw.le (hz i hi), h.nw.kept f, h.p0⟩, f⟩
/-- A literal list, in a new block. -/
theorem lit_at (w : World) (l : List Int) : NumsAt (w.alloc (.cells (ic l).toArray 3)) (some ⟨w.heap.size, 0, none⟩) l := nums_new (heap_alloc_new w _) (Fr.refl _ _)
theorem same_lit (w : World) {ad : Option Addr} {l : List Int} (c c2 : Nat) (h : NumsAt w ad l) (hl : l.length ≤ 1000) : Calls Tryd.prog 17 #[.slice ad l.length c, .slice (some ⟨w.heap.size, 0, none⟩) l.length c2] (w.alloc (.cells (ic l).toArray 3)) fun e w' => e = .returned (.bool true) ∧ Fr (fun _ => False) w w' :=
  (same_yes c c2 (h.alloc _) (lit_at w l) hl).mono fun _ _ ⟨he, f⟩ => ⟨he, ((Fr.refl _ _).alloc _).trans f⟩
end
set_option maxRecDepth 20000 in
set_option maxHeartbeats 1000000 in
theorem awake_any {W w : World} (h : Nw W w) (g : Gr W) : Calls Tryd.prog 9 #[] w fun e w' => e = .returned (.bool true) ∧ Nw W w' := by
  have H0 : Hid _ := fun w (h : Nw W w) => show Calls Tryd.prog 7 #[.int .i64 4] w fun e w' => ∃ a Z, e = .returned (.tuple #[.pointer (some ⟨a, 0, none⟩), .int .i64 0]) ∧ (∀ i, Z i → w.heap.size ≤ i) ∧ Pn W w' a Z [-1, -1, -1, -1] ∧ Fr (fun _ => False) w w' from n_new (n := 4) (by decide) (by decide) h g
  have H1 : Hid (∀ w a Z, Pn W w a Z [-1, -1, -1, -1] → Calls Tryd.prog 11 #[.pointer (some ⟨a, 0, none⟩), .int .i64 0, .int .i64 2] w fun e w' => ∃ Z', LsK w w' Z' [0, 1] 0 e ∧ Pn W w' a Z' [0, 0, -1, -1] ∧ (∀ i, Z' i → Z i ∨ w.heap.size ≤ i) ∧ Fr Z w w') := fun w a Z h => n_grant h 0 2
  have H2 : Hid (∀ w a Z, Pn W w a Z [0, 0, -1, -1] → Calls Tryd.prog 11 #[.pointer (some ⟨a, 0, none⟩), .int .i64 1, .int .i64 1] w fun e w' => ∃ Z', LsK w w' Z' [2] 0 e ∧ Pn W w' a Z' [0, 0, 1, -1] ∧ (∀ i, Z' i → Z i ∨ w.heap.size ≤ i) ∧ Fr Z w w') := fun w a Z h => n_grant h 1 1
  have H3 : Hid (∀ w a Z, Pn W w a Z [0, 0, 1, -1] → Calls Tryd.prog 20 #[.pointer (some ⟨a, 0, none⟩), .int .i64 0] w fun e w' => ∃ Z', LsK w w' Z' [0, 1] 0 e ∧ Pn W w' a Z' [-1, -1, 1, -1] ∧ (∀ i, Z' i → Z i ∨ w.heap.size ≤ i) ∧ Fr Z w w') := fun w a Z h => n_drop h 0
  have H4 : Hid (∀ w a Z, Pn W w a Z [-1, -1, 1, -1] → Calls Tryd.prog 11 #[.pointer (some ⟨a, 0, none⟩), .int .i64 2, .int .i64 3] w fun e w' => ∃ Z', LsK w w' Z' [0, 1, 3] 0 e ∧ Pn W w' a Z' [2, 2, 1, 2] ∧ (∀ i, Z' i → Z i ∨ w.heap.size ≤ i) ∧ Fr Z w w') := fun w a Z h => n_grant h 2 3
  have H5 : Hid (∀ w a Z, Pn W w a Z [2, 2, 1, 2] → Calls Tryd.prog 11 #[.pointer (some ⟨a, 0, none⟩), .int .i64 3, .int .i64 1] w fun e w' => ∃ Z', LsK w w' Z' [] 9 e ∧ Pn W w' a Z' [2, 2, 1, 2] ∧ (∀ i, Z' i → Z i ∨ w.heap.size ≤ i) ∧ Fr Z w w') := fun w a Z h => n_grant h 3 1
  have H6 : Hid (∀ w a Z, Pn W w a Z [2, 2, 1, 2] → Calls Tryd.prog 19 #[.pointer (some ⟨a, 0, none⟩), .int .i64 2, .int .i64 1] w fun e w' => ∃ Z', LsK w w' Z' [1, 3] 0 e ∧ Pn W w' a Z' [2, -1, 1, -1] ∧ (∀ i, Z' i → Z i ∨ w.heap.size ≤ i) ∧ Fr Z w w') := fun w a Z h => n_shrink h 2 1
  have H7 : Hid (∀ w a Z, Pn W w a Z [2, -1, 1, -1] → Calls Tryd.prog 15 #[.pointer (some ⟨a, 0, none⟩), .int .i64 2] w fun e w' => e = .returned (.int .i64 1) ∧ Fr (fun _ => False) w w') := fun w a Z h => p_owner h.m 2
  have HN := hid h
  clear h
  have HL2 : Hid (∀ (w : World) ad c, NumsAt w ad [0, 1] → Calls Tryd.prog 17 #[.slice ad 2 c, .slice (some ⟨w.heap.size, 0, none⟩) 2 2] (w.alloc (.cells #[.int .i64 0, .int .i64 1] 3)) fun e w' => e = .returned (.bool true) ∧ Fr (fun _ => False) w w') := fun w ad c h => same_lit w (l := [0, 1]) c 2 h (by decide)
  have HL1 : Hid (∀ (w : World) ad c, NumsAt w ad [2] → Calls Tryd.prog 17 #[.slice ad 1 c, .slice (some ⟨w.heap.size, 0, none⟩) 1 1] (w.alloc (.cells #[.int .i64 2] 3)) fun e w' => e = .returned (.bool true) ∧ Fr (fun _ => False) w w') := fun w ad c h => same_lit w (l := [2]) c 1 h (by decide)
  have HL3 : Hid (∀ (w : World) ad c, NumsAt w ad [0, 1, 3] → Calls Tryd.prog 17 #[.slice ad 3 c, .slice (some ⟨w.heap.size, 0, none⟩) 3 3] (w.alloc (.cells #[.int .i64 0, .int .i64 1, .int .i64 3] 3)) fun e w' => e = .returned (.bool true) ∧ Fr (fun _ => False) w w') := fun w ad c h => same_lit w (l := [0, 1, 3]) c 3 h (by decide)
  have HL2b : Hid (∀ (w : World) ad c, NumsAt w ad [1, 3] → Calls Tryd.prog 17 #[.slice ad 2 c, .slice (some ⟨w.heap.size, 0, none⟩) 2 2] (w.alloc (.cells #[.int .i64 1, .int .i64 3] 3)) fun e w' => e = .returned (.bool true) ∧ Fr (fun _ => False) w w') := fun w ad c h => same_lit w (l := [1, 3]) c 2 h (by decide)
  have HSM : Hid (∀ (w : World) ad1 ad2 c1 c2, NumsAt w ad1 [0, 1] → NumsAt w ad2 [0, 1] → Calls Tryd.prog 17 #[.slice ad1 2 c1, .slice ad2 2 c2] w fun e w' => e = .returned (.bool true) ∧ Fr (fun _ => False) w w') := fun w ad1 ad2 c1 c2 h1 h2 => same_yes (l := [0, 1]) c1 c2 h1 h2 (by decide)
  go_enter Tryd.func9, Tryd.ntmps9
  go_wp2_with fail
  refine (H0.out _ HN.out).mono ?_
  rintro e w0 ⟨a, Z0, rfl, hz, hm, f⟩
  have HM0 := hid hm
  clear hz hm f HN
  go_wp2_with fail
  refine (H1.out _ _ _ HM0.out).mono ?_
  rintro e w1 ⟨Z1, ⟨ad1, c1, rfl, hk, hb⟩, hm, hz, f⟩
  have HM1 := hid hm
  have K1_1 := hid hk
  clear hk hb hm hz f HM0 H1
  go_wp2_with fail
  refine (H2.out _ _ _ HM1.out).mono ?_
  rintro e w2 ⟨Z2, ⟨ad2, c2, rfl, hk, hb⟩, hm, hz, f⟩
  have HM2 := hid hm
  have K1_2 := hid (K1_1.out.on f hz)
  have K2_2 := hid hk
  clear hk hb hm hz f HM1 H2 K1_1
  go_wp2_with fail
  refine (H3.out _ _ _ HM2.out).mono ?_
  rintro e w3 ⟨Z3, ⟨ad3, c3, rfl, hk, hb⟩, hm, hz, f⟩
  have HM3 := hid hm
  have K1_3 := hid (K1_2.out.on f hz)
  have K2_3 := hid (K2_2.out.on f hz)
  have K3_3 := hid hk
  clear hk hb hm hz f HM2 H3 K1_2 K2_2
  go_wp2_with fail
  refine (H4.out _ _ _ HM3.out).mono ?_
  rintro e w4 ⟨Z4, ⟨ad4, c4, rfl, hk, hb⟩, hm, hz, f⟩
  have HM4 := hid hm
  have K1_4 := hid (K1_3.out.on f hz)
  have K2_4 := hid (K2_3.out.on f hz)
  have K3_4 := hid (K3_3.out.on f hz)
  have K4_4 := hid hk
  clear hk hb hm hz f HM3 H4 K1_3 K2_3 K3_3
  go_wp2_with fail
  refine (H5.out _ _ _ HM4.out).mono ?_
  rintro e w5 ⟨Z5, ⟨ad5, c5, rfl, hk, hb⟩, hm, hz, f⟩
  have HM5 := hid hm
  have K1_5 := hid (K1_4.out.on f hz)
  have K2_5 := hid (K2_4.out.on f hz)
  have K3_5 := hid (K3_4.out.on f hz)
  have K4_5 := hid (K4_4.out.on f hz)
  clear hk hb hm hz f HM4 H5 K1_4 K2_4 K3_4 K4_4
  go_wp2_with fail
  refine (H6.out _ _ _ HM5.out).mono ?_
  rintro e w6 ⟨Z6, ⟨ad6, c6, rfl, hk, hb⟩, hm, hz, f⟩
  have HM6 := hid hm
  have K1_6 := hid (K1_5.out.on f hz)
  have K2_6 := hid (K2_5.out.on f hz)
  have K3_6 := hid (K3_5.out.on f hz)
  have K4_6 := hid (K4_5.out.on f hz)
  have K6_6 := hid hk
  clear hk hb hm hz f HM5 H6 K1_5 K2_5 K3_5 K4_5
  have g1 := hid K1_6.out.at_
  have g2 := hid K2_6.out.at_
  have g3 := hid K3_6.out.at_
  have g4 := hid K4_6.out.at_
  have g6 := hid K6_6.out.at_
  clear K1_6 K2_6 K3_6 K4_6 K6_6
  go_wp2_with fail
  refine (HL2.out _ _ _ g1.out).mono ?_
  rintro e w7 ⟨rfl, f⟩
  have HM7 := hid (HM6.out.kept f)
  have g1a := hid (g1.out.fr f)
  have g2a := hid (g2.out.fr f)
  have g3a := hid (g3.out.fr f)
  have g4a := hid (g4.out.fr f)
  have g6a := hid (g6.out.fr f)
  clear f HM6 g1 g2 g3 g4 g6
  go_wp2_with fail
  refine (HL1.out _ _ _ g2a.out).mono ?_
  rintro e w8 ⟨rfl, f⟩
  have HM8 := hid (HM7.out.kept f)
  have g1b := hid (g1a.out.fr f)
  have g2b := hid (g2a.out.fr f)
  have g3b := hid (g3a.out.fr f)
  have g4b := hid (g4a.out.fr f)
  have g6b := hid (g6a.out.fr f)
  clear f HM7 g1a g2a g3a g4a g6a
  go_wp2_with fail
  refine (HSM.out _ _ _ _ _ g3b.out g1b.out).mono ?_
  rintro e w9 ⟨rfl, f⟩
  have HM9 := hid (HM8.out.kept f)
  have g1c := hid (g1b.out.fr f)
  have g2c := hid (g2b.out.fr f)
  have g3c := hid (g3b.out.fr f)
  have g4c := hid (g4b.out.fr f)
  have g6c := hid (g6b.out.fr f)
  clear f HM8 g1b g2b g3b g4b g6b
  go_wp2_with fail
  refine (HL3.out _ _ _ g4c.out).mono ?_
  rintro e w10 ⟨rfl, f⟩
  have HM10 := hid (HM9.out.kept f)
  have g4d := hid (g4c.out.fr f)
  have g6d := hid (g6c.out.fr f)
  clear f HM9 g4c g6c
  go_wp2_with fail
  refine (HL2b.out _ _ _ g6d.out).mono ?_
  rintro e w11 ⟨rfl, f⟩
  have HM11 := hid (HM10.out.kept f)
  have g6e := hid (g6d.out.fr f)
  clear f HM10 g6d
  go_wp2_with fail
  refine (H7.out _ _ _ HM11.out).mono ?_
  rintro e w12 ⟨rfl, f⟩
  have HM12 := hid (HM11.out.kept f)
  clear f HM11
  go_wp2
  go_ret
  exact ⟨by simp, HM12.out.nw⟩
theorem awake_f (w : World) (g : Gr w) : Calls Tryd.prog 9 #[] w fun e w' => e = .returned (.bool true) ∧ Fr (fun _ => False) w w' := (awake_any (Nw.start w) g).mono fun _ _ ⟨h, n⟩ => ⟨h, n.fr⟩
end Go.Proofs.YthamfljooapkoaaDoor
