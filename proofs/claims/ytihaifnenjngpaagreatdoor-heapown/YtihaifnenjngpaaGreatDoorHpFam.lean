/-
  What the document's own answers are, each for every number.
  The document's page in memory.
  Three and more things as one: one of them rests while the others turn. Nothing of the program is named here.
  More of things side by side: a block of the call's own among them, one thing and a block beside it. Nothing of the program is named here.
  A thing that has come in, and all that was there beside it: as things side by side.
  A family of things side by side, of which one turns; things taken together and apart. Nothing of the program is named here.
-/
import Derived.Test.YtihaifnenjngpaaGreatDoorClCalls
import Derived.Test.YtihaifnenjngpaaGreatDoorPaWin
import Derived.Test.YtihaifnenjngpaaGreatDoorChMem
import Derived.Deep.RegionHeld3
namespace Go.Proofs.YtihaifnenjngpaaGreatDoor
open Go.RowKit

theorem unitI_zero (c : Int) (h : c < 0 ∨ 23 < c) : unitI c = 0 := by
  unfold unitI; repeat' split
  all_goals omega
theorem unitI_runs (c : Int) (h1 : 8 ≤ c) (h2 : c ≤ 23) : unitI c = (c - 7) * 512 := by
  have := unitI_run (c - 7) (by omega) (by omega)
  rwa [show 7 + (c - 7) = c by omega] at this
set_option maxRecDepth 20000 in
set_option maxHeartbeats 1000000 in
theorem r_unit_small (c : Int) {w0 w : World} (k : K w0 w) (hs : 0 ≤ c ∧ c ≤ 7) : Calls Tryz.prog 83 #[.int .i64 c] w fun e w' => e = .returned (.int .i64 (unitI c)) ∧ K w0 w' := by
  have HK := hid k
  clear k
  have hc : c = 0 ∨ c = 1 ∨ c = 2 ∨ c = 3 ∨ c = 4 ∨ c = 5 ∨ c = 6 ∨ c = 7 := by omega
  clear hs
  rcases hc with rfl | rfl | rfl | rfl | rfl | rfl | rfl | rfl
  all_goals
    go_enter Tryz.func83, Tryz.ntmps83
    go_wp2
    go_ret
    exact ⟨rfl, HK.out.on ((Fr.refl _ _).alloc _)⟩
set_option maxRecDepth 20000 in
theorem r_unit (c : Int) {w0 w : World} (k : K w0 w) : Calls Tryz.prog 83 #[.int .i64 c] w fun e w' => e = .returned (.int .i64 (unitI c)) ∧ K w0 w' := by
  have HK := hid k
  clear k
  by_cases hs : 0 ≤ c ∧ c ≤ 7
  · exact r_unit_small c HK.out hs
  · by_cases hr : 8 ≤ c ∧ c ≤ 23
    · have hu : Hid (unitI c = (c - 7) * 512) := unitI_runs c hr.1 hr.2
      clear hs
      obtain ⟨h1, h2⟩ := hr
      have h0 : ¬ c < 0 := by omega
      have h8 : ¬ c < 8 := by omega
      go_enter Tryz.func83, Tryz.ntmps83
      go_wp2
      go_ret
      exact ⟨by rw [hu.out]; go_num, HK.out.on ((Fr.refl _ _).alloc _)⟩
    · have hu : Hid (unitI c = 0) := unitI_zero c (by omega)
      by_cases h0 : c < 0
      · clear hs hr
        go_enter Tryz.func83, Tryz.ntmps83
        go_wp2
        go_ret
        exact ⟨by rw [hu.out]; rfl, HK.out.on ((Fr.refl _ _).alloc _)⟩
      · have h1 : 23 < c := by omega
        clear hs hr
        go_enter Tryz.func83, Tryz.ntmps83
        go_wp2
        go_ret
        exact ⟨by rw [hu.out]; rfl, HK.out.on ((Fr.refl _ _).alloc _)⟩


set_option maxRecDepth 20000 in
theorem r_per (c : Int) {w0 w : World} (k : K w0 w) : Calls Tryz.prog 65 #[.int .i64 c] w fun e w' => e = .returned (.int .i64 (perI c)) ∧ K w0 w' := by
  have HU := hid (r_unit c k)
  have HK := hid k
  clear k
  by_cases hs : 0 ≤ c ∧ c ≤ 7
  · have hc : c = 0 ∨ c = 1 ∨ c = 2 ∨ c = 3 ∨ c = 4 ∨ c = 5 ∨ c = 6 ∨ c = 7 := by omega
    clear hs
    have u0 : unitI 0 = 16 := rfl
    have u1 : unitI 1 = 32 := rfl
    have u2 : unitI 2 = 48 := rfl
    have u3 : unitI 3 = 64 := rfl
    have u4 : unitI 4 = 96 := rfl
    have u5 : unitI 5 = 128 := rfl
    have u6 : unitI 6 = 192 := rfl
    have u7 : unitI 7 = 256 := rfl
    rcases hc with rfl | rfl | rfl | rfl | rfl | rfl | rfl | rfl
    all_goals
      simp only [u0, u1, u2, u3, u4, u5, u6, u7] at HU
      clear u0 u1 u2 u3 u4 u5 u6 u7
      go_enter Tryz.func65, Tryz.ntmps65
      go_wp2_with fail
      refine HU.out.mono ?_
      rintro e w2 ⟨rfl, hk⟩
      have HK2 := hid hk
      clear hk
      go_wp2
      go_ret
      exact ⟨rfl, HK2.out⟩
  · have hu : Hid (perI c = 0) := show perI c = 0 by
      unfold perI; repeat' split
      all_goals omega
    by_cases h0 : c < 0
    · clear hs HU
      go_enter Tryz.func65, Tryz.ntmps65
      go_wp2
      go_ret
      exact ⟨by rw [hu.out]; rfl, HK.out⟩
    · have h1 : 7 < c := by omega
      clear hs HU
      go_enter Tryz.func65, Tryz.ntmps65
      go_wp2
      go_ret
      exact ⟨by rw [hu.out]; rfl, HK.out⟩
end Go.Proofs.YtihaifnenjngpaaGreatDoor

namespace Go.Proofs.YtihaifnenjngpaaGreatDoor
open Go.RowKit
open An

/-- Two things as one. -/
def Both (P Q : World → (Nat → Prop) → Prop) (w : World) (U : Nat → Prop) : Prop := ∃ Z Y, P w Z ∧ Q w Y ∧ (∀ i, Z i → ¬ Y i) ∧ (∀ i, Z i → U i) ∧ (∀ i, Y i → U i) ∧ ∀ i, U i → i < w.heap.size
theorem Both.good {P Q : World → (Nat → Prop) → Prop} (hP : Good P) (hQ : Good Q) : Good (Both P Q) :=
  ⟨fun ⟨Z, Y, h1, h2, h3, h4, h5, h6⟩ f hs => ⟨Z, Y, hP.carry h1 f fun i hi => hs i (h4 i hi), hQ.carry h2 f fun i hi => hs i (h5 i hi), h3, h4, h5, fun i hi => Nat.lt_of_lt_of_le (h6 i hi) f.size⟩,
   fun ⟨Z, Y, h1, h2, h3, h4, h5, _⟩ k1 k2 => ⟨Z, Y, h1, h2, h3, fun i hi => k1 i (h4 i hi), fun i hi => k1 i (h5 i hi), k2⟩⟩
/-- A page's cells. -/
def pgc (r : Nat) (at_ of_ fresh : Int) (hd : List Bool) (rd wt : Nat) : List Value := [.pointer (some ⟨r, 0, none⟩), .int .i64 at_, .int .i64 of_, .int .i64 fresh] ++ (hd.map Value.bool ++ [.pointer (some ⟨rd, 0, none⟩), .pointer (some ⟨wt, 0, none⟩)])
structure Rw12 (w : World) (p r : Nat) (at_ of_ fresh : Int) (hd : List Bool) (rd wt : Nat) : Prop where
  st : w.heap[p]? = some (.cells (pgc r at_ of_ fresh hd rd wt).toArray 185 (0, 0))
  len : hd.length = 32
section
variable {w w' : World} {p r rd wt : Nat} {at_ of_ fresh : Int} {hd : List Bool}
theorem Rw12.lt (h : Rw12 w p r at_ of_ fresh hd rd wt) : p < w.heap.size := (Array.getElem?_eq_some_iff.1 h.st).1
theorem Rw12.carry {S : Nat → Prop} (h : Rw12 w p r at_ of_ fresh hd rd wt) (f : Fr S w w') (hn : ¬ S p) : Rw12 w' p r at_ of_ fresh hd rd wt := ⟨by rw [f.block p h.lt hn]; exact h.st, h.len⟩
theorem Rw12.cell (h : Rw12 w p r at_ of_ fresh hd rd wt) (j : Nat) : w.cell? ⟨p, j, none⟩ = (pgc r at_ of_ fresh hd rd wt)[j]? := by simp [World.cell?, h.st]
theorem Rw12.c0 (h : Rw12 w p r at_ of_ fresh hd rd wt) : w.cell? ⟨p, 0, none⟩ = some (.pointer (some ⟨r, 0, none⟩)) := by rw [h.cell]; rfl
theorem Rw12.c1 (h : Rw12 w p r at_ of_ fresh hd rd wt) : w.cell? ⟨p, 1, none⟩ = some (.int .i64 at_) := by rw [h.cell]; rfl
theorem Rw12.c2 (h : Rw12 w p r at_ of_ fresh hd rd wt) : w.cell? ⟨p, 2, none⟩ = some (.int .i64 of_) := by rw [h.cell]; rfl
theorem Rw12.c3 (h : Rw12 w p r at_ of_ fresh hd rd wt) : w.cell? ⟨p, 3, none⟩ = some (.int .i64 fresh) := by rw [h.cell]; rfl
theorem Rw12.had (h : Rw12 w p r at_ of_ fresh hd rd wt) (j : Nat) (hj : j < 32) : w.cell? ⟨p, 4 + j, none⟩ = some (.bool (hd[j]'(by rw [h.len]; exact hj))) := by
  have hl := h.len
  rw [h.cell]
  unfold pgc
  rw [List.getElem?_append_right (by simp)]
  simp only [List.length_cons, List.length_nil, Nat.zero_add, Nat.reduceAdd, Nat.add_sub_cancel_left]
  rw [List.getElem?_append_left (by simp; omega)]
  simp [hl, hj]
theorem Rw12.c36 (h : Rw12 w p r at_ of_ fresh hd rd wt) : w.cell? ⟨p, 36, none⟩ = some (.pointer (some ⟨rd, 0, none⟩)) := by
  have hl := h.len
  rw [h.cell]
  unfold pgc
  rw [List.getElem?_append_right (by simp), List.getElem?_append_right (by simp; omega)]
  simp [hl]
theorem Rw12.c37 (h : Rw12 w p r at_ of_ fresh hd rd wt) : w.cell? ⟨p, 37, none⟩ = some (.pointer (some ⟨wt, 0, none⟩)) := by
  have hl := h.len
  rw [h.cell]
  unfold pgc
  rw [List.getElem?_append_right (by simp), List.getElem?_append_right (by simp; omega)]
  simp [hl]
theorem Rw12.fz (h : Rw12 w p r at_ of_ fresh hd rd wt) (j : Nat) : w.frozen? ⟨p, j, none⟩ = false := by simp [World.frozen?, h.st]
theorem Rw12.setFresh (h : Rw12 w p r at_ of_ fresh hd rd wt) (x : Int) : Rw12 (w.setCell ⟨p, 3, none⟩ (.int .i64 x)) p r at_ of_ x hd rd wt := ⟨by simp [World.setCell, Array.getElem?_modify, h.st, pgc], h.len⟩
theorem Rw12.setAt (h : Rw12 w p r at_ of_ fresh hd rd wt) (x : Int) : Rw12 (w.setCell ⟨p, 1, none⟩ (.int .i64 x)) p r x of_ fresh hd rd wt := ⟨by simp [World.setCell, Array.getElem?_modify, h.st, pgc], h.len⟩
theorem Rw12.setHad (h : Rw12 w p r at_ of_ fresh hd rd wt) (j : Nat) (hj : j < 32) (b : Bool) : Rw12 (w.setCell ⟨p, 4 + j, none⟩ (.bool b)) p r at_ of_ fresh (hd.set j b) rd wt := by
  have hl := h.len
  refine ⟨?_, by rw [List.length_set]; exact h.len⟩
  have e : (pgc r at_ of_ fresh (hd.set j b) rd wt) = (pgc r at_ of_ fresh hd rd wt).set (4 + j) (.bool b) := by
    unfold pgc
    rw [List.set_append_right _ _ (by simp), List.map_set, List.set_append_left _ _ (by simp; omega)]
    simp
  rw [e]
  simp [World.setCell, Array.getElem?_modify, h.st]
end
end Go.Proofs.YtihaifnenjngpaaGreatDoor

namespace Go.Proofs.YtihaifnenjngpaaGreatDoor
open Go.RowKit

section
variable {P Q R P' Q' : World → (Nat → Prop) → Prop} {w w' : World} {U V' : Nat → Prop}
theorem Both.swap (h : Both P Q w U) : Both Q P w U := by
  obtain ⟨Z, Y, h1, h2, h3, h4, h5, h6⟩ := h
  exact ⟨Y, Z, h2, h1, fun i a b => h3 i b a, h5, h4, h6⟩
theorem Both.lt (h : Both P Q w U) : ∀ i, U i → i < w.heap.size := by obtain ⟨Z, Y, _, _, _, _, _, h6⟩ := h; exact h6
theorem Both.imp (h : Both P Q w U) (hq : ∀ Y, Q w Y → Q' w Y) : Both P Q' w U := by
  obtain ⟨Z, Y, h1, h2, h3⟩ := h
  exact ⟨Z, Y, h1, hq Y h2, h3⟩
/-- The third one rests. -/
theorem Both.rest (h : Both P (Both Q R) w U) (hR : Good R) : ∃ V, Both P Q w V ∧ (∀ i, V i → U i) ∧ ∀ {P' Q' : World → (Nat → Prop) → Prop} {w' : World} {V' : Nat → Prop}, Both P' Q' w' V' → Gw w w' V V' → ∃ U', Both P' (Both Q' R) w' U' ∧ Gw w w' U U' := by
  obtain ⟨Z, Y, h1, ⟨Z2, Y2, g1, g2, g3, g4, g5, g6⟩, h3, h4, h5, h6⟩ := h
  refine ⟨fun i => Z i ∨ Z2 i, ⟨Z, Z2, h1, g1, fun i a b => h3 i a (g4 i b), fun i a => .inl a, fun i a => .inr a, fun i a => a.elim (fun a => h6 i (h4 i a)) fun a => h6 i (h5 i (g4 i a))⟩, fun i a => a.elim (h4 i) fun a => h5 i (g4 i a), ?_⟩
  rintro P' Q' w' V' ⟨Z', Y', k1, k2, k3, k4, k5, k6⟩ g
  have hr : ∀ i, Y2 i → ¬ (Z i ∨ Z2 i) := fun i a b => b.elim (fun b => h3 i b (g5 i a)) fun b => g3 i b a
  have hR' : R w' Y2 := hR.carry g2 g.fr fun i a => hr i a
  have hs := g.fr.size
  have hold : ∀ i, Y2 i → i < w.heap.size := fun i a => h6 i (h5 i (g5 i a))
  have hnv : ∀ i, V' i → ¬ Y2 i := fun i a b => by
    rcases g.new i a with e | e
    · exact hr i b e
    · have := hold i b; omega
  refine ⟨fun i => V' i ∨ U i, ⟨Z', fun i => Y' i ∨ Y2 i, k1, ⟨Y', Y2, k2, hR', fun i a b => hnv i (k5 i a) b, fun i a => .inl a, fun i a => .inr a, fun i a => a.elim (fun a => k6 i (k5 i a)) fun a => Nat.lt_of_lt_of_le (hold i a) hs⟩, fun i a b => b.elim (k3 i a) (hnv i (k4 i a)), fun i a => .inl (k4 i a), fun i a => a.elim (fun a => .inl (k5 i a)) fun a => .inr (h5 i (g5 i a)), fun i a => a.elim (k6 i) fun a => Nat.lt_of_lt_of_le (h6 i a) hs⟩, ⟨fun i a => .inr a, fun i a => ?_, fun i a => a.elim (k6 i) fun a => Nat.lt_of_lt_of_le (h6 i a) hs, g.fr.mono fun i _ a => a.elim (h4 i) fun a => h5 i (g4 i a)⟩⟩
  rcases a with a | a
  · rcases g.new i a with e | e
    · exact .inl (e.elim (h4 i) fun e => h5 i (g4 i e))
    · exact .inr e
  · exact .inl a
/-- The second one rests. -/
theorem Both.rest2 (h : Both P (Both Q R) w U) (hQ : Good Q) : ∃ V, Both P R w V ∧ (∀ i, V i → U i) ∧ ∀ {P' R' : World → (Nat → Prop) → Prop} {w' : World} {V' : Nat → Prop}, Both P' R' w' V' → Gw w w' V V' → ∃ U', Both P' (Both Q R') w' U' ∧ Gw w w' U U' := by
  obtain ⟨V, h1, h2, h3⟩ := Both.rest (h.imp fun _ => Both.swap) hQ
  refine ⟨V, h1, h2, fun {P' R' w' V'} k1 k2 => ?_⟩
  obtain ⟨U', a1, a2⟩ := h3 k1 k2
  exact ⟨U', a1.imp fun _ => Both.swap, a2⟩
/-- Two of three, where the third is written behind. -/
theorem Both.assoc (h : Both (Both P Q) R w U) : Both P (Both Q R) w U := by
  obtain ⟨Z, Y, ⟨Z2, Y2, g1, g2, g3, g4, g5, g6⟩, h2, h3, h4, h5, h6⟩ := h
  exact ⟨Z2, fun i => Y2 i ∨ Y i, g1, ⟨Y2, Y, g2, h2, fun i a b => h3 i (g5 i a) b, fun i a => .inl a, fun i a => .inr a, fun i a => a.elim (fun a => h6 i (h4 i (g5 i a))) fun a => h6 i (h5 i a)⟩, fun i a b => b.elim (g3 i a) (h3 i (g4 i a)), fun i a => h4 i (g4 i a), fun i a => a.elim (fun a => h4 i (g5 i a)) (h5 i), h6⟩
/-- One of two is looked at. -/
theorem Both.snd (h : Both P Q w U) : ∃ Y, Q w Y ∧ ∀ i, Y i → U i := by obtain ⟨Z, Y, _, h2, _, _, h5, _⟩ := h; exact ⟨Y, h2, h5⟩
theorem Both.fst' (h : Both P Q w U) : ∃ Z, P w Z ∧ ∀ i, Z i → U i := by obtain ⟨Z, Y, h1, _, _, h4, _⟩ := h; exact ⟨Z, h1, h4⟩
/-- One of two is given away. -/
theorem Both.left (h : Both P Q w U) (hQ : Good Q) : ∃ Z, P w Z ∧ (∀ i, Z i → U i) ∧ ∀ {P' : World → (Nat → Prop) → Prop} {w' : World} {Z' : Nat → Prop}, P' w' Z' → Gw w w' Z Z' → ∃ U', Both P' Q w' U' ∧ Gw w w' U U' := by
  obtain ⟨Z, Y, h1, h2, h3, h4, h5, h6⟩ := h
  refine ⟨Z, h1, h4, fun {P' w' Z'} k1 g => ?_⟩
  have hs := g.fr.size
  refine ⟨fun i => Z' i ∨ U i, ⟨Z', Y, k1, hQ.carry h2 g.fr fun i a b => h3 i b a, fun i a b => ?_, fun i a => .inl a, fun i a => .inr (h5 i a), fun i a => a.elim (g.lt i) fun a => Nat.lt_of_lt_of_le (h6 i a) hs⟩, ⟨fun i a => .inr a, fun i a => ?_, fun i a => a.elim (g.lt i) fun a => Nat.lt_of_lt_of_le (h6 i a) hs, g.fr.mono fun i _ => h4 i⟩⟩
  · rcases g.new i a with e | e
    · exact h3 i e b
    · have := h6 i (h5 i b); omega
  · rcases a with a | a
    · rcases g.new i a with e | e
      · exact .inl (h4 i e)
      · exact .inr e
    · exact .inl a
end
end Go.Proofs.YtihaifnenjngpaaGreatDoor

namespace Go.Proofs.YtihaifnenjngpaaGreatDoor
open Go.RowKit

/-- One thing, and a block beside it. -/
def Also (X : World → (Nat → Prop) → Prop) (B : Nat) (ob : Obj) (w : World) (Z : Nat → Prop) : Prop := X w Z ∧ Blk B ob w Z
theorem Also.good {X : World → (Nat → Prop) → Prop} (h : Good X) (B : Nat) (ob : Obj) : Good (Also X B ob) :=
  ⟨fun k f hs => ⟨h.carry k.1 f hs, (Blk.good B ob).carry k.2 f hs⟩, fun k h1 h2 => ⟨h.mono k.1 h1 h2, (Blk.good B ob).mono k.2 h1 h2⟩⟩
theorem Things.cells {W w : World} {ts : List (World → (Nat → Prop) → Prop)} (h : Things W w ts) (j : Nat) {B : Nat} {ob : Obj} (hj : ts[j]? = some (Blk B ob)) : w.heap[B]? = some ob := by
  obtain ⟨U, h1, _⟩ := h.get j hj
  exact h1.1
theorem Things.setAt {W w : World} {ts : List (World → (Nat → Prop) → Prop)} (h : Things W w ts) (j : Nat) {B : Nat} {cs : Array Value} {T : TypeId} (hj : ts[j]? = some (Blk B (.cells cs T (0, 0)))) (i : Nat) (v : Value) : Things W (w.setCell ⟨B, i, none⟩ v) (ts.set j (Blk B (.cells (cs.setIfInBounds i v) T (0, 0)))) := by
  obtain ⟨U, h1, _, h2⟩ := h.turn j hj
  have f : Fr U w (w.setCell ⟨B, i, none⟩ v) := Fr.setCell (p := ⟨B, i, none⟩) (Fr.refl _ _) h1.2.1 v
  refine h2 _ _ U (Blk.good _ _) ⟨?_, h1.2.1, fun i hi => Nat.lt_of_lt_of_le (h1.2.2 i hi) f.size⟩ (Gw.same h1.2.2 f)
  simp [World.setCell, Array.getElem?_modify, h1.1]
theorem Things.blk {W w : World} {ts : List (World → (Nat → Prop) → Prop)} (h : Things W w ts) (ob : Obj) : Things W (w.alloc ob) (ts ++ [Blk w.heap.size ob]) := h.more (Blk.good _ _) (Blk.new w ob) ((Fr.refl _ _).alloc _) fun i hi => by simp only [World.size_alloc]; omega
end Go.Proofs.YtihaifnenjngpaaGreatDoor

namespace Go.Proofs.YtihaifnenjngpaaGreatDoor
open Go.RowKit

/-- The world with nothing in it. -/
def Bare (w : World) : World := { w with heap := #[] }
theorem Bare.nw (w : World) : Nw (Bare w) w := ⟨rfl, rfl, rfl, Nat.zero_le _, fun i hi => by simp [Bare] at hi⟩
/-- All that was in w but for Z, as it was. -/
def Old (w : World) (Z : Nat → Prop) (w' : World) (U : Nat → Prop) : Prop := w.heap.size ≤ w'.heap.size ∧ (∀ i, i < w.heap.size → ¬ Z i → U i ∧ w'.heap[i]? = w.heap[i]?) ∧ ∀ i, U i → i < w'.heap.size
theorem Old.good (w : World) (Z : Nat → Prop) : Good (Old w Z) :=
  ⟨fun ⟨h0, h1, h2⟩ f hs => ⟨Nat.le_trans h0 f.size, fun i hi hn => ⟨(h1 i hi hn).1, (f.block i (h2 i (h1 i hi hn).1) (hs i (h1 i hi hn).1)).trans (h1 i hi hn).2⟩, fun i hi => Nat.lt_of_lt_of_le (h2 i hi) f.size⟩,
   fun ⟨h0, h1, _⟩ k1 k2 => ⟨h0, fun i hi hn => ⟨k1 i (h1 i hi hn).1, (h1 i hi hn).2⟩, k2⟩⟩
theorem Things.begin {w : World} {P : World → (Nat → Prop) → Prop} {Z : Nat → Prop} (hP : Good P) (hp : P w Z) (hz : ∀ i, Z i → i < w.heap.size) : Things (Bare w) w [P, Old w Z] := by
  classical
  refine ⟨fun i => if Z i then 1 else if i < w.heap.size then 2 else 0, ⟨Bare.nw w, fun i hi => ⟨Nat.zero_le _, ?_⟩⟩, fun i => ?_, fun R hR => ?_, fun j R hj => ?_⟩
  · by_cases h1 : Z i
    · exact hz i h1
    · by_cases h2 : i < w.heap.size
      · exact h2
      · simp [h1, h2] at hi
  · show (if Z i then 1 else if i < w.heap.size then 2 else 0) ≤ 2
    split
    · omega
    · split <;> omega
  · simp only [List.mem_cons, List.not_mem_nil, or_false] at hR
    rcases hR with rfl | rfl
    · exact hP
    · exact Old.good w Z
  · rcases j with _ | _ | j
    · simp only [List.getElem?_cons_zero, Option.some.injEq] at hj
      subst hj
      refine hP.mono hp (fun i hi => by simp [lab, hi]) fun i hi => ?_
      by_cases h1 : Z i
      · exact hz i h1
      · exfalso
        simp only [lab, if_neg h1] at hi
        split at hi <;> omega
    · simp only [Nat.zero_add, List.getElem?_cons_succ, List.getElem?_cons_zero, Option.some.injEq] at hj
      subst hj
      refine ⟨Nat.le_refl _, fun i hi hn => ⟨by simp [lab, hi, hn], rfl⟩, fun i hi => ?_⟩
      by_cases h1 : Z i
      · exact hz i h1
      · by_cases h2 : i < w.heap.size
        · exact h2
        · simp [lab, h1, h2] at hi
    · simp at hj
theorem Things.finish {w w' : World} {P : World → (Nat → Prop) → Prop} {Z : Nat → Prop} {ts : List (World → (Nat → Prop) → Prop)} (h : Things (Bare w) w' (P :: Old w Z :: ts)) (hz : ∀ i, Z i → i < w.heap.size) : ∃ Z', P w' Z' ∧ Gw w w' Z Z' := by
  obtain ⟨o, h1, h2, h3, h4⟩ := h
  have hP := h4 0 P rfl
  obtain ⟨s1, s2, s3⟩ := h4 1 _ rfl
  have hg := h3 P (List.mem_cons_self ..)
  have hlt : ∀ i, (lab o 1 i ∨ Z i) → i < w'.heap.size := fun i hi => by
    rcases hi with hi | hi
    · exact h1.lt (j := 1) (by omega) i hi
    · exact Nat.lt_of_lt_of_le (hz i hi) s1
  refine ⟨fun i => lab o 1 i ∨ Z i, hg.mono hP (fun _ => .inl) hlt, ⟨fun _ => .inr, fun i hi => ?_, hlt, ⟨h1.nw.os, h1.nw.tape, h1.nw.output, s1, fun i hi hn => (s2 i hi hn).2⟩⟩⟩
  rcases hi with hi | hi
  · by_cases h5 : i < w.heap.size
    · by_cases h6 : Z i
      · exact .inl h6
      · have e2 := (s2 i h5 h6).1
        unfold lab at hi e2
        omega
    · exact .inr (by omega)
  · exact .inl hi
end Go.Proofs.YtihaifnenjngpaaGreatDoor

namespace Go.Proofs.YtihaifnenjngpaaGreatDoor
open Go.RowKit

/-- Nothing at all. -/
def Non (w : World) (Z : Nat → Prop) : Prop := ∀ i, Z i → i < w.heap.size
theorem Non.good : Good Non := ⟨fun h f _ i hi => Nat.lt_of_lt_of_le (h i hi) f.size, fun _ _ h => h⟩
/-- One of a family is another one. -/
def fset {α : Type} (P : Nat → α) (j : Nat) (x : α) : Nat → α := fun i => if i = j then x else P i
theorem fset_same {α : Type} (P : Nat → α) (j : Nat) (x : α) : fset P j x j = x := if_pos rfl
theorem fset_ne {α : Type} (P : Nat → α) {j i : Nat} (x : α) (h : i ≠ j) : fset P j x i = P i := if_neg h
theorem fset_id {α : Type} (P : Nat → α) (j : Nat) : fset P j (P j) = P := by
  funext i
  unfold fset
  split
  · rename_i e; rw [e]
  · rfl
theorem fset_fset {α : Type} (P : Nat → α) (j : Nat) (x y : α) : fset (fset P j x) j y = fset P j y := by
  funext i
  unfold fset
  split <;> rfl
/-- A family of things, side by side. -/
def Fam (n : Nat) (P : Nat → World → (Nat → Prop) → Prop) (w : World) (U : Nat → Prop) : Prop :=
  ∃ o : Nat → Nat, (∀ i, i < n → P i w (fun b => o b = i + 1 ∧ U b)) ∧ ∀ b, U b → b < w.heap.size
section
variable {n : Nat} {P P' : Nat → World → (Nat → Prop) → Prop} {Q : World → (Nat → Prop) → Prop} {w w' : World} {U : Nat → Prop}
theorem Fam.good (hP : ∀ i, Good (P i)) : Good (Fam n P) := by
  classical
  refine ⟨fun {w w' Z S} h f hs => ?_, fun {w Z Z'} h k1 k2 => ?_⟩
  · obtain ⟨o, h1, h2⟩ := h
    exact ⟨o, fun i hi => (hP i).carry (h1 i hi) f fun b hb => hs b hb.2, fun b hb => Nat.lt_of_lt_of_le (h2 b hb) f.size⟩
  · obtain ⟨o, h1, h2⟩ := h
    refine ⟨fun b => if Z b then o b else 0, fun i hi => (hP i).mono (h1 i hi) (fun b hb => ⟨?_, k1 b hb.2⟩) fun b hb => k2 b hb.2, k2⟩
    show (if Z b then o b else 0) = i + 1
    rw [if_pos hb.2]; exact hb.1
theorem Fam.lt (h : Fam n P w U) : ∀ b, U b → b < w.heap.size := by obtain ⟨o, _, h2⟩ := h; exact h2
theorem Fam.congr (h : Fam n P w U) (e : ∀ i, i < n → P i = P' i) : Fam n P' w U := by
  obtain ⟨o, h1, h2⟩ := h
  exact ⟨o, fun i hi => by rw [← e i hi]; exact h1 i hi, h2⟩
/-- One of them by itself, and the others. -/
theorem Fam.split (h : Fam n P w U) (hP : ∀ i, Good (P i)) {j : Nat} (hj : j < n) : Both (P j) (Fam n (fset P j Non)) w U := by
  classical
  obtain ⟨o, h1, h2⟩ := h
  refine ⟨fun b => o b = j + 1 ∧ U b, fun b => U b ∧ ¬ o b = j + 1, h1 j hj, ⟨o, fun i hi => ?_, fun b hb => h2 b hb.1⟩, fun b hb hn => hn.2 hb.1, fun b hb => hb.2, fun b hb => hb.1, h2⟩
  by_cases e : i = j
  · subst e; rw [fset_same]; exact fun b hb => h2 b hb.2.1
  · rw [fset_ne P Non e]
    exact (hP i).mono (h1 i hi) (fun b hb => ⟨hb.1, hb.2, by have := hb.1; omega⟩) fun b hb => h2 b hb.2.1
theorem Fam.join {j : Nat} (h : Both Q (Fam n (fset P j Non)) w U) (hQ : Good Q) (hP : ∀ i, Good (P i)) : Fam n (fset P j Q) w U := by
  classical
  obtain ⟨Z, Y, h1, ⟨o, h2, h3⟩, h4, h5, h6, h7⟩ := h
  refine ⟨fun b => if Z b then j + 1 else if Y b ∧ o b ≠ j + 1 then o b else 0, fun i hi => ?_, h7⟩
  by_cases e : i = j
  · subst e
    rw [fset_same]
    refine hQ.mono h1 (fun b hb => ⟨if_pos hb, h5 b hb⟩) fun b hb => h7 b hb.2
  · rw [fset_ne P Q e]
    have hi2 := h2 i hi
    rw [fset_ne P Non e] at hi2
    refine (hP i).mono hi2 (fun b hb => ⟨?_, h6 b hb.2⟩) fun b hb => h7 b hb.2
    show (if Z b then j + 1 else if Y b ∧ o b ≠ j + 1 then o b else 0) = i + 1
    rw [if_neg fun hz => h4 b hz hb.2, if_pos ⟨hb.2, by have := hb.1; omega⟩]
    exact hb.1
theorem Fam.start (w : World) (n : Nat) : Fam n (fun _ => Non) w (fun _ => False) := ⟨fun _ => 0, fun _ _ _ hb => hb.2.elim, fun _ hb => hb.elim⟩
end
section
variable {W w : World} {ts : List (World → (Nat → Prop) → Prop)} {P Q : World → (Nat → Prop) → Prop} {n i j : Nat} {F : Nat → World → (Nat → Prop) → Prop}
theorem Things.goods (h : Things W w ts) (hj : ts[j]? = some P) : Good P := by
  obtain ⟨o, _, _, h3, _⟩ := h
  exact h3 P (List.mem_of_getElem? hj)
/-- Two of them as one. -/
theorem Things.merge (h : Things W w ts) (i j : Nat) (hi : ts[i]? = some P) (hj : ts[j]? = some Q) (_hne : i ≠ j) : Things W w ((ts.set i (Both P Q)).set j Non) := by
  classical
  have gP := h.goods hi
  have gQ := h.goods hj
  obtain ⟨o, h1, h2, h3, h4⟩ := h
  have hil := (List.getElem?_eq_some_iff.1 hi).1
  have hjl := (List.getElem?_eq_some_iff.1 hj).1
  refine ⟨fun b => if o b = j + 1 then i + 1 else o b, ⟨h1.nw, fun b hb => ?_⟩, fun b => ?_, fun R hR => ?_, fun m R hm => ?_⟩
  · apply h1.dom
    intro e
    simp [e] at hb
  · simp only [List.length_set]
    have := h2 b
    show (if o b = j + 1 then i + 1 else o b) ≤ _
    split <;> omega
  · rcases List.mem_or_eq_of_mem_set hR with e | rfl
    · rcases List.mem_or_eq_of_mem_set e with e | rfl
      · exact h3 R e
      · exact Both.good gP gQ
    · exact Non.good
  · have hlt : ∀ b, (if o b = j + 1 then i + 1 else o b) = m + 1 → b < w.heap.size := fun b hb => by
      apply (h1.dom b _).2
      intro e
      simp [e] at hb
    rw [List.getElem?_set] at hm
    split at hm
    · rename_i e
      subst e
      simp only [List.length_set, hjl, if_true, Option.some.injEq] at hm
      subst hm
      exact hlt
    · rename_i e
      rw [List.getElem?_set] at hm
      split at hm
      · rename_i e2
        subst e2
        simp only [Option.some.injEq] at hm
        subst hm
        refine ⟨lab o (i + 1), lab o (j + 1), h4 i P hi, h4 j Q hj, fun b a c => ?_, fun b a => ?_, fun b a => ?_, hlt⟩
        · have a : o b = i + 1 := a
          have c : o b = j + 1 := c
          omega
        · have a : o b = i + 1 := a
          show (if o b = j + 1 then i + 1 else o b) = i + 1
          split
          · rfl
          · exact a
        · have a : o b = j + 1 := a
          show (if o b = j + 1 then i + 1 else o b) = i + 1
          rw [if_pos a]
      · rename_i e2
        refine (h3 R (List.mem_of_getElem? hm)).mono (h4 m R hm) (fun b a => ?_) hlt
        have a : o b = m + 1 := a
        show (if o b = j + 1 then i + 1 else o b) = m + 1
        rw [if_neg (by omega)]; exact a
/-- .. and apart again. -/
theorem Things.apart (h : Things W w ts) (i j : Nat) (hi : ts[i]? = some (Both P Q)) (hj : ts[j]? = some Non) (_hne : i ≠ j) (gP : Good P) (gQ : Good Q) : Things W w ((ts.set i P).set j Q) := by
  classical
  obtain ⟨o, h1, h2, h3, h4⟩ := h
  have hil := (List.getElem?_eq_some_iff.1 hi).1
  have hjl := (List.getElem?_eq_some_iff.1 hj).1
  obtain ⟨Z, Y, k1, k2, k3, k4, k5, k6⟩ := h4 i _ hi
  refine ⟨fun b => if Z b then i + 1 else if Y b then j + 1 else if o b = i + 1 ∨ o b = j + 1 then 0 else o b, ⟨h1.nw, fun b hb => ?_⟩, fun b => ?_, fun R hR => ?_, fun m R hm => ?_⟩
  · apply h1.dom
    intro e
    have z : ¬ Z b := fun hz => by have : o b = i + 1 := k4 b hz; omega
    have y : ¬ Y b := fun hz => by have : o b = i + 1 := k5 b hz; omega
    simp [e, z, y] at hb
  · simp only [List.length_set]
    have := h2 b
    show (if Z b then i + 1 else if Y b then j + 1 else if o b = i + 1 ∨ o b = j + 1 then 0 else o b) ≤ _
    split
    · omega
    · split
      · omega
      · split <;> omega
  · rcases List.mem_or_eq_of_mem_set hR with e | rfl
    · rcases List.mem_or_eq_of_mem_set e with e | rfl
      · exact h3 R e
      · exact gP
    · exact gQ
  · have hlt : ∀ b, (if Z b then i + 1 else if Y b then j + 1 else if o b = i + 1 ∨ o b = j + 1 then 0 else o b) = m + 1 → b < w.heap.size := fun b hb => by
      apply (h1.dom b _).2
      intro e
      have z : ¬ Z b := fun hz => by have : o b = i + 1 := k4 b hz; omega
      have y : ¬ Y b := fun hz => by have : o b = i + 1 := k5 b hz; omega
      simp [e, z, y] at hb
    rw [List.getElem?_set] at hm
    split at hm
    · rename_i e
      subst e
      simp only [List.length_set, hjl, if_true, Option.some.injEq] at hm
      subst hm
      refine gQ.mono k2 (fun b hb => ?_) hlt
      show (if Z b then i + 1 else if Y b then j + 1 else if o b = i + 1 ∨ o b = j + 1 then 0 else o b) = j + 1
      rw [if_neg fun hz => k3 b hz hb, if_pos hb]
    · rename_i e
      rw [List.getElem?_set] at hm
      split at hm
      · rename_i e2
        subst e2
        simp only [Option.some.injEq] at hm
        subst hm
        exact gP.mono k1 (fun b hb => if_pos hb) hlt
      · rename_i e2
        refine (h3 R (List.mem_of_getElem? hm)).mono (h4 m R hm) (fun b a => ?_) hlt
        have a : o b = m + 1 := a
        show (if Z b then i + 1 else if Y b then j + 1 else if o b = i + 1 ∨ o b = j + 1 then 0 else o b) = m + 1
        rw [if_neg fun hz => by have : o b = i + 1 := k4 b hz; omega, if_neg fun hz => by have : o b = i + 1 := k5 b hz; omega, if_neg (by omega)]
        exact a
/-- One that is two things: the second one is put last. -/
theorem Things.open2 (h : Things W w ts) (i : Nat) (hi : ts[i]? = some (Both P Q)) (gP : Good P) (gQ : Good Q) : Things W w (ts.set i P ++ [Q]) := by
  have h0 : Things W w (ts ++ [Non]) := h.more Non.good (Z := fun _ => False) (fun _ e => e.elim) (Fr.refl _ _) fun _ e => e.elim
  have hil := (List.getElem?_eq_some_iff.1 hi).1
  have h1 := h0.apart i ts.length (P := P) (Q := Q) (by rw [List.getElem?_append_left hil]; exact hi) (by simp) (by omega) gP gQ
  rw [List.set_append_left _ _ hil, List.set_append_right _ _ (by simp)] at h1
  simpa using h1
/-- A call of one of a family. -/
theorem Things.mem (h : Things W w ts) (j : Nat) (hj : ts[j]? = some (Fam n F)) (hF : ∀ c, Good (F c)) (hi : i < n) (hQ : Good Q) {Pg : Program} {G : Nat} {args : Array Value} {R : Ending → Prop}
    (base : ∀ U, F i w U → Calls Pg G args w fun e w' => R e ∧ ∃ U', Q w' U' ∧ Gw w w' U U') : Calls Pg G args w fun e w' => R e ∧ Things W w' (ts.set j (Fam n (fset F i Q))) := by
  refine h.lift j hj (Fam.good fun c => ?_) fun U hU => ?_
  · unfold fset; split
    · exact hQ
    · exact hF c
  · obtain ⟨Z, z1, _, z3⟩ := (hU.split hF hi).left (Fam.good fun c => by unfold fset; split; exact Non.good; exact hF c)
    refine (base Z z1).mono ?_
    rintro e w' ⟨he, Z', k1, k2⟩
    obtain ⟨U', u1, u2⟩ := z3 k1 k2
    exact ⟨he, U', Fam.join u1 hQ hF, u2⟩
theorem Things.askMem (h : Things W w ts) (j : Nat) (hj : ts[j]? = some (Fam n F)) (hi : i < n) {Pg : Program} {G : Nat} {args : Array Value} {R : Ending → Prop}
    (base : ∀ U, F i w U → Calls Pg G args w fun e w' => R e ∧ Fr (fun _ => False) w w') : Calls Pg G args w fun e w' => R e ∧ Fr (fun _ => False) w w' := by
  obtain ⟨U, ⟨o, h1, _⟩, _⟩ := h.get j hj
  exact base _ (h1 i hi)
/-- A call of one thing and of one of a family, as one. -/
theorem Things.pair (h : Things W w ts) (i j : Nat) (hi : ts[i]? = some P) (hj : ts[j]? = some (Fam n F)) (hne : i ≠ j) (hF : ∀ c, Good (F c)) {c : Nat} (hc : c < n) {P' : World → (Nat → Prop) → Prop} (hP' : Good P') (hQ : Good Q) {Pg : Program} {G : Nat} {args : Array Value} {R : Ending → Prop}
    (base : ∀ U, Both P (F c) w U → Calls Pg G args w fun e w' => R e ∧ ∃ U', Both P' Q w' U' ∧ Gw w w' U U') : Calls Pg G args w fun e w' => R e ∧ Things W w' ((ts.set i P').set j (Fam n (fset F c Q))) := by
  have gF := h.goods hj
  have hil := (List.getElem?_eq_some_iff.1 hi).1
  have hjl := (List.getElem?_eq_some_iff.1 hj).1
  have gQ : Good (Fam n (fset F c Q)) := Fam.good fun d => by unfold fset; split; exact hQ; exact hF d
  have h1 := h.merge i j hi hj hne
  have hg : ((ts.set i (Both P (Fam n F))).set j Non)[i]? = some (Both P (Fam n F)) := by rw [List.getElem?_set_ne (fun e => hne e.symm), List.getElem?_set_self hil]
  refine (h1.lift i hg (Both.good hP' gQ) (R := R) fun U hU => ?_).mono ?_
  · have hs : Both P (Both (F c) (Fam n (fset F c Non))) w U := hU.imp fun Y y => y.split hF hc
    obtain ⟨V, v1, _, v3⟩ := hs.rest (Fam.good fun d => by unfold fset; split; exact Non.good; exact hF d)
    refine (base V v1).mono ?_
    rintro e w' ⟨he, V', k1, k2⟩
    obtain ⟨U', u1, u2⟩ := v3 k1 k2
    exact ⟨he, U', u1.imp fun Y y => Fam.join y hQ hF, u2⟩
  · rintro e w' ⟨he, h2⟩
    refine ⟨he, ?_⟩
    have h3 := h2.apart i j (P := P') (Q := Fam n (fset F c Q)) (by rw [List.getElem?_set_self (by simp; exact hil)]) (by rw [List.getElem?_set_ne hne, List.getElem?_set_self (by simp; exact hjl)]) hne hP' gQ
    have e2 : (((((ts.set i (Both P (Fam n F))).set j Non).set i (Both P' (Fam n (fset F c Q)))).set i P').set j (Fam n (fset F c Q))) = (ts.set i P').set j (Fam n (fset F c Q)) := by
      rw [List.set_set, List.set_comm _ _ (fun e => hne e.symm), List.set_set, List.set_set]
    rw [e2] at h3
    exact h3
/-- A thing is seen in another way. -/
theorem Things.view {P P' : World → (Nat → Prop) → Prop} (q : Things W w ts) (j : Nat) (hj : ts[j]? = some P) (hg : Good P') (hp : ∀ U, P w U → P' w U) : Things W w (ts.set j P') := by
  obtain ⟨U, h1, h2, h3⟩ := q.turn j hj
  exact h3 P' w U hg (hp U h1) (Gw.same (fun i hi => (h2 i hi).2) (Fr.refl _ _))
/-- The last thing joins another one. -/
theorem Things.join {P Q : World → (Nat → Prop) → Prop} (q : Things W w (ts ++ [Q])) (j : Nat) (hj : ts[j]? = some P) : Things W w (ts.set j (Both P Q)) := by
  obtain ⟨o, h1, h2, h3, h4⟩ := q
  have hjl := (List.getElem?_eq_some_iff.1 hj).1
  have hP := h3 P (List.mem_append_left _ (List.mem_of_getElem? hj))
  have hQ := h3 Q (by simp)
  have p1 := h4 j P (by rw [List.getElem?_append_left hjl]; exact hj)
  have p2 := h4 ts.length Q (by simp)
  rw [List.length_append, List.length_singleton] at h2
  refine ⟨fun i => if o i = ts.length + 1 then j + 1 else o i, ⟨h1.nw, fun i hi => ?_⟩, fun i => ?_, fun R hR => ?_, fun n R hn => ?_⟩
  · apply h1.dom
    intro e
    simp [e] at hi
  · rw [List.length_set]
    have := h2 i
    show (if o i = ts.length + 1 then j + 1 else o i) ≤ _
    split <;> omega
  · rcases List.mem_or_eq_of_mem_set hR with e | rfl
    · exact h3 R (List.mem_append_left _ e)
    · exact Both.good hP hQ
  · have hlt : ∀ i, (if o i = ts.length + 1 then j + 1 else o i) = n + 1 → i < w.heap.size := fun i hi => by
      apply (h1.dom i _).2
      intro e
      simp [e] at hi
    by_cases e : n = j
    · subst e
      rw [List.getElem?_set_self hjl] at hn
      cases hn
      refine ⟨lab o (n + 1), lab o (ts.length + 1), p1, p2, fun i a b => ?_, fun i a => ?_, fun i a => ?_, fun i a => hlt i a⟩
      · have a : o i = n + 1 := a
        have b : o i = ts.length + 1 := b
        omega
      · have a : o i = n + 1 := a
        show (if o i = ts.length + 1 then n + 1 else o i) = n + 1
        split
        · rfl
        · exact a
      · have a : o i = ts.length + 1 := a
        show (if o i = ts.length + 1 then n + 1 else o i) = n + 1
        rw [if_pos a]
    · rw [List.getElem?_set_ne (fun e2 => e e2.symm)] at hn
      have hnl := (List.getElem?_eq_some_iff.1 hn).1
      have p := h4 n R (by rw [List.getElem?_append_left hnl]; exact hn)
      refine (h3 R (List.mem_append_left _ (List.mem_of_getElem? hn))).mono p (fun i a => ?_) fun i a => hlt i a
      have a : o i = n + 1 := a
      show (if o i = ts.length + 1 then j + 1 else o i) = n + 1
      rw [if_neg (by omega)]; exact a
/-- The last thing becomes one of a family. -/
theorem Things.put (h : Things W w (ts ++ [Q])) (j : Nat) (hj : ts[j]? = some (Fam n F)) (hF : ∀ c, Good (F c)) (he : F i = Non) : Things W w (ts.set j (Fam n (fset F i Q))) := by
  have hQ : Good Q := h.goods (j := ts.length) (by simp)
  have h1 := h.join j hj
  have hjl := (List.getElem?_eq_some_iff.1 hj).1
  have h2 := h1.view j (List.getElem?_set_self hjl) (P' := Fam n (fset F i Q)) (Fam.good fun c => by unfold fset; split; exact hQ; exact hF c) fun U hU => by
    refine Fam.join (P := F) ?_ hQ hF
    have e : fset F i Non = F := by rw [← he]; exact fset_id F i
    rw [e]
    exact hU.swap
  rw [List.set_set] at h2
  exact h2
/-- One of a family is forgotten. -/
theorem Things.forget (h : Things W w ts) (j : Nat) (hj : ts[j]? = some (Fam n F)) (hF : ∀ c, Good (F c)) (hi : i < n) : Things W w (ts.set j (Fam n (fset F i Non))) := by
  have hG : Good (Fam n (fset F i Non)) := Fam.good fun c => by unfold fset; split; exact Non.good; exact hF c
  refine h.view j hj hG fun U hU => ?_
  obtain ⟨Z, Y, _, h2, _, _, h5, h6⟩ := hU.split hF hi
  exact hG.mono h2 h5 h6
end
end Go.Proofs.YtihaifnenjngpaaGreatDoor
