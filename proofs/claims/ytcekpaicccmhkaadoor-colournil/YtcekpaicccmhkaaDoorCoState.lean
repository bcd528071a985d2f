/-
  A map that the call itself has made. The document's own examples stand, so the laws are awake.
-/
import Derived.Test.YtcekpaicccmhkaaDoorCoCalls
namespace Go.Proofs.YtcekpaicccmhkaaDoor
open Go.RowKit

/-- New blocks may turn. -/
def Nw (w0 w : World) : Prop := 0 < w0.heap.size ∧ Fr (fun k => w0.heap.size ≤ k) w0 w
theorem Nw.start (w : World) (p : 0 < w.heap.size) : Nw w w := ⟨p, Fr.refl _ _⟩
theorem Nw.pos {w0 w : World} (h : Nw w0 w) : 0 < w0.heap.size := h.1
theorem Nw.on {S : Nat → Prop} {w0 w w' : World} (h : Nw w0 w) (f : Fr S w w') (hs : ∀ i, S i → w0.heap.size ≤ i) : Nw w0 w' := ⟨h.1, Fr.trans' h.2 f fun i _ e => hs i e⟩
theorem Nw.kept {w0 w w' : World} (h : Nw w0 w) (f : Fr (fun _ => False) w w') : Nw w0 w' := h.on f fun _ e => e.elim
theorem Nw.alloc {w0 w : World} (h : Nw w0 w) (o : Obj) : Nw w0 (w.alloc o) := ⟨h.1, Fr.alloc h.2 o⟩
theorem Nw.fr {w0 w : World} (h : Nw w0 w) : Fr (fun _ => False) w0 w := Fr.new h.2
theorem Nw.le {w0 w : World} (h : Nw w0 w) : w0.heap.size ≤ w.heap.size := h.2.size
/-- A map of the program's that was made behind W. -/
structure Mn (W w : World) (a : Nat) (Z : Nat → Prop) (k : Nat) (has : List Bool) : Prop where
  m : Cm w a Z k has
  z : ∀ i, Z i → W.heap.size ≤ i
  nw : Nw W w
section
variable {W w w' : World} {a k : Nat} {Z : Nat → Prop} {has : List Bool} {ad : Option Addr} {l : List Int}
theorem Mn.step {has' : List Bool} (h : Mn W w a Z k has) (c : Cm w' a Z k has') (f : Fr Z w w') : Mn W w' a Z k has' := ⟨c, h.z, h.nw.on f h.z⟩
theorem Mn.kept (h : Mn W w a Z k has) (f : Fr (fun _ => False) w w') : Mn W w' a Z k has := ⟨h.m.carry f (fun _ _ => id) id, h.z, h.nw.kept f⟩
theorem Mn.alloc (h : Mn W w a Z k has) (o : Obj) : Mn W (w.alloc o) a Z k has := h.kept ((Fr.refl _ _).alloc o)
/-- What a new block is, no map has. -/
theorem Mn.new (h : Mn W w a Z k has) : ¬ Z w.heap.size := fun e => by have := h.m.zlt _ e; omega
theorem n_new {n k : Nat} (h : Cfg n k) (nw : Nw W w) (g : Gr W) : Calls Tryd.prog 8 #[.agg #[.int .i64 (n : Int), .int .i64 (k : Int)]] w fun e w' => ∃ a Z, e = .returned (.tuple #[.pointer (some ⟨a, 0, none⟩), .int .i64 0]) ∧ (∀ i, Z i → w.heap.size ≤ i) ∧ Mn W w' a Z k (List.replicate n false) ∧ Fr (fun _ => False) w w' :=
  (c_new h w (g.fr nw.fr)).mono fun _ _ ⟨a, Z, he, hz, hc, f⟩ => ⟨a, Z, he, hz, ⟨hc, fun i hi => Nat.le_trans nw.le (hz i hi), nw.kept f⟩, f⟩
theorem n_take (cap : Nat) (h : Mn W w a Z k has) (hl : NumsAt w ad l) (ho : Off Z ad l) (hm : l.length ≤ maxLen) : Calls Tryd.prog 13 #[.pointer (some ⟨a, 0, none⟩), .slice ad l.length cap] w fun e w' => e = .returned (.tuple #[.int .i64 (takV k has l), .int .i64 (takE k has l)]) ∧ Mn W w' a Z k (takS k has l) ∧ Fr Z w w' :=
  (c_take cap h.m hl ho hm).mono fun _ _ ⟨he, hc, f⟩ => ⟨he, h.step hc f, f⟩
theorem n_free (cap : Nat) (h : Mn W w a Z k has) (hl : NumsAt w ad l) (ho : Off Z ad l) (hm : l.length ≤ maxLen) : Calls Tryd.prog 18 #[.pointer (some ⟨a, 0, none⟩), .slice ad l.length cap] w fun e w' => e = .returned (.int .i64 (frI k has l : Int)) ∧ Mn W w' a Z k has ∧ Fr (fun _ => False) w w' :=
  (c_free cap h.m hl ho hm).mono fun _ _ ⟨he, _, f⟩ => ⟨he, h.kept f, f⟩
theorem n_give (h : Mn W w a Z k has) (p : Int) : Calls Tryd.prog 15 #[.pointer (some ⟨a, 0, none⟩), .int .i64 p] w fun e w' => e = .returned (.int .i64 (giE has p)) ∧ Mn W w' a Z k (giS has p) ∧ Fr Z w w' :=
  (c_give h.m p).mono fun _ _ ⟨he, hc, f⟩ => ⟨he, h.step hc f, f⟩
theorem n_taken (h : Mn W w a Z k has) (p : Int) : Calls Tryd.prog 20 #[.pointer (some ⟨a, 0, none⟩), .int .i64 p] w fun e w' => e = .returned (.bool (isT has p)) ∧ Mn W w' a Z k has ∧ Fr (fun _ => False) w w' :=
  (c_taken h.m p).mono fun _ _ ⟨he, _, f⟩ => ⟨he, h.kept f, f⟩
theorem n_colour (h : Mn W w a Z k has) (p : Int) : Calls Tryd.prog 22 #[.pointer (some ⟨a, 0, none⟩), .int .i64 p] w fun e w' => e = .returned (.int .i64 (colI has.length k p)) ∧ Mn W w' a Z k has ∧ Fr (fun _ => False) w w' :=
  (c_colour h.m p).mono fun _ _ ⟨he, _, f⟩ => ⟨he, h.kept f, f⟩
theorem n_each (h : Mn W w a Z k has) : Calls Tryd.prog 24 #[.pointer (some ⟨a, 0, none⟩)] w fun e w' => e = .returned (.int .i64 (has.length / k : Nat)) ∧ Mn W w' a Z k has ∧ Fr (fun _ => False) w w' :=
  (c_each h.m).mono fun _ _ ⟨he, _, f⟩ => ⟨he, h.kept f, f⟩
end
/-- A list that lies in a new block. -/
theorem nums_new {w w' : World} {B : Nat} {l : List Int} {T : TypeId} (h : w.heap[B]? = some (.cells (l.map fun x => Value.int .i64 x).toArray T (0, 0))) (f : Fr (fun _ => False) w w') : NumsAt w' (some ⟨B, 0, none⟩) l := fun i hi => by
  have hb := (Array.getElem?_eq_some_iff.1 h).1
  refine ⟨B, 0, rfl, by have := f.size; omega, ?_⟩
  rw [World.cell?_of_block (f.block B hb id)]
  simp [World.cell?, h, hi]
section
variable {W w : World} {a k : Nat} {Z : Nat → Prop} {has : List Bool}
theorem off_new {w : World} (h : Mn W w a Z k has) (l : List Int) : Off Z (some ⟨w.heap.size, 0, none⟩) l := fun b off e _ => by
  simp only [Option.some.injEq, Addr.mk.injEq] at e
  rw [← e.1]; exact h.new
theorem n_take_lit (h : Mn W w a Z k has) (l : List Int) (cap : Nat) (hm : l.length ≤ maxLen) : Calls Tryd.prog 13 #[.pointer (some ⟨a, 0, none⟩), .slice (some ⟨w.heap.size, 0, none⟩) l.length cap] (w.alloc (.cells (l.map fun x => Value.int .i64 x).toArray 3)) fun e w' => e = .returned (.tuple #[.int .i64 (takV k has l), .int .i64 (takE k has l)]) ∧ Mn W w' a Z k (takS k has l) :=
  (n_take cap (h.alloc _) (nums_new (heap_alloc_new _ _) (Fr.refl _ _)) (off_new h l) hm).mono fun _ _ ⟨he, hc, _⟩ => ⟨he, hc⟩
theorem n_free_lit (h : Mn W w a Z k has) (l : List Int) (cap : Nat) (hm : l.length ≤ maxLen) : Calls Tryd.prog 18 #[.pointer (some ⟨a, 0, none⟩), .slice (some ⟨w.heap.size, 0, none⟩) l.length cap] (w.alloc (.cells (l.map fun x => Value.int .i64 x).toArray 3)) fun e w' => e = .returned (.int .i64 (frI k has l : Int)) ∧ Mn W w' a Z k has :=
  (n_free cap (h.alloc _) (nums_new (heap_alloc_new _ _) (Fr.refl _ _)) (off_new h l) hm).mono fun _ _ ⟨he, hc, _⟩ => ⟨he, hc⟩
end
set_option maxRecDepth 20000 in
set_option maxHeartbeats 1000000 in
theorem awake_any {W w : World} (h : Nw W w) (g : Gr W) : Calls Tryd.prog 10 #[] w fun e w' => e = .returned (.bool true) ∧ Nw W w' := by
  have H1 : Hid _ := fun w (h : Nw W w) => show Calls Tryd.prog 8 #[.agg #[.int .i64 6, .int .i64 3]] w fun e w' => ∃ a Z, e = .returned (.tuple #[.pointer (some ⟨a, 0, none⟩), .int .i64 0]) ∧ (∀ i, Z i → w.heap.size ≤ i) ∧ Mn W w' a Z 3 [false, false, false, false, false, false] ∧ Fr (fun _ => False) w w' from n_new (n := 6) (k := 3) (by decide) h g
  have H2 : Hid (∀ w a Z, Mn W w a Z 3 [false, false, false, false, false, false] → Calls Tryd.prog 13 #[.pointer (some ⟨a, 0, none⟩), .slice (some ⟨w.heap.size, 0, none⟩) 2 2] (w.alloc (.cells #[.int .i64 2, .int .i64 1] 3)) fun e w' => e = .returned (.tuple #[.int .i64 1, .int .i64 0]) ∧ Mn W w' a Z 3 [false, true, false, false, false, false]) := fun w a Z h => n_take_lit h [2, 1] 2 (by decide)
  have H3 : Hid (∀ w a Z, Mn W w a Z 3 [false, true, false, false, false, false] → Calls Tryd.prog 13 #[.pointer (some ⟨a, 0, none⟩), .slice (some ⟨w.heap.size, 0, none⟩) 2 2] (w.alloc (.cells #[.int .i64 2, .int .i64 1] 3)) fun e w' => e = .returned (.tuple #[.int .i64 2, .int .i64 0]) ∧ Mn W w' a Z 3 [false, true, true, false, false, false]) := fun w a Z h => n_take_lit h [2, 1] 2 (by decide)
  have H4 : Hid (∀ w a Z, Mn W w a Z 3 [false, true, true, false, false, false] → Calls Tryd.prog 13 #[.pointer (some ⟨a, 0, none⟩), .slice (some ⟨w.heap.size, 0, none⟩) 1 1] (w.alloc (.cells #[.int .i64 2] 3)) fun e w' => e = .returned (.tuple #[.int .i64 5, .int .i64 0]) ∧ Mn W w' a Z 3 [false, true, true, false, false, true]) := fun w a Z h => n_take_lit h [2] 1 (by decide)
  have H5 : Hid (∀ w a Z, Mn W w a Z 3 [false, true, true, false, false, true] → Calls Tryd.prog 13 #[.pointer (some ⟨a, 0, none⟩), .slice (some ⟨w.heap.size, 0, none⟩) 1 1] (w.alloc (.cells #[.int .i64 2] 3)) fun e w' => e = .returned (.tuple #[.int .i64 0, .int .i64 13]) ∧ Mn W w' a Z 3 [false, true, true, false, false, true]) := fun w a Z h => n_take_lit h [2] 1 (by decide)
  have H6 : Hid (∀ w a Z, Mn W w a Z 3 [false, true, true, false, false, true] → Calls Tryd.prog 18 #[.pointer (some ⟨a, 0, none⟩), .slice (some ⟨w.heap.size, 0, none⟩) 1 1] (w.alloc (.cells #[.int .i64 0] 3)) fun e w' => e = .returned (.int .i64 2) ∧ Mn W w' a Z 3 [false, true, true, false, false, true]) := fun w a Z h => n_free_lit h [0] 1 (by decide)
  have H7 : Hid (∀ w a Z, Mn W w a Z 3 [false, true, true, false, false, true] → Calls Tryd.prog 24 #[.pointer (some ⟨a, 0, none⟩)] w fun e w' => e = .returned (.int .i64 2) ∧ Mn W w' a Z 3 [false, true, true, false, false, true] ∧ Fr (fun _ => False) w w') := fun w a Z h => n_each h
  have H8 : Hid (∀ w a Z, Mn W w a Z 3 [false, true, true, false, false, true] → Calls Tryd.prog 22 #[.pointer (some ⟨a, 0, none⟩), .int .i64 4] w fun e w' => e = .returned (.int .i64 1) ∧ Mn W w' a Z 3 [false, true, true, false, false, true] ∧ Fr (fun _ => False) w w') := fun w a Z h => n_colour h 4
  have HN := hid h
  clear h
  go_enter Tryd.func10, Tryd.ntmps10
  go_wp2_with fail
  refine (H1.out _ HN.out).mono ?_
  rintro e w1 ⟨a, Z, rfl, hz, hm, f1⟩
  have HM1 := hid hm
  clear hz hm f1 HN
  go_wp2_with fail
  refine (H2.out _ _ _ HM1.out).mono ?_
  rintro e w2 ⟨rfl, hm⟩
  have HM2 := hid hm
  clear hm HM1
  go_wp2_with fail
  refine (H3.out _ _ _ HM2.out).mono ?_
  rintro e w3 ⟨rfl, hm⟩
  have HM3 := hid hm
  clear hm HM2
  go_wp2_with fail
  refine (H4.out _ _ _ HM3.out).mono ?_
  rintro e w4 ⟨rfl, hm⟩
  have HM4 := hid hm
  clear hm HM3
  go_wp2_with fail
  refine (H5.out _ _ _ HM4.out).mono ?_
  rintro e w5 ⟨rfl, hm⟩
  have HM5 := hid hm
  clear hm HM4
  go_wp2_with fail
  refine (H6.out _ _ _ HM5.out).mono ?_
  rintro e w6 ⟨rfl, hm⟩
  have HM6 := hid hm
  clear hm HM5
  go_wp2_with fail
  refine (H7.out _ _ _ HM6.out).mono ?_
  rintro e w7 ⟨rfl, hm, _⟩
  have HM7 := hid hm
  clear hm HM6
  go_wp2_with fail
  refine (H8.out _ _ _ HM7.out).mono ?_
  rintro e w8 ⟨rfl, hm, _⟩
  have HM8 := hid hm
  clear hm HM7
  go_wp2
  go_ret
  exact ⟨by simp, HM8.out.nw⟩
theorem awake_f (w : World) (g : Gr w) : Calls Tryd.prog 10 #[] w fun e w' => e = .returned (.bool true) ∧ Fr (fun _ => False) w w' := (awake_any (Nw.start w g.pos) g).mono fun _ _ ⟨h, n⟩ => ⟨h, n.fr⟩
end Go.Proofs.YtcekpaicccmhkaaDoor
