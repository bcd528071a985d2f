/-
  More of things side by side: a block of the call's own among them, one thing and a block beside it. Nothing of the program is named here.
  Spans that lie where a slice says; two lists of spans that are alike.
  Lists of numbers, more: one more put behind a row, and where it lies; two lists held against each other.
-/
import Derived.Test.YtcajdbklchjkkaaObjs
import Derived.Deep.RegionHeld3
import Derived.LoopTactic
import Derived.RegionTactic
import Derived.ChangeAlike
import Derived.Test.YtcajdbklchjkkaaLists
import Derived.Deep.QuietTactic
import Derived.BigQuiet
namespace Go.Proofs.Ytcajdbklchjkkaa
open Go.RowKit

/-- In the middle of a region one may go on with a condition that says more. -/
theorem held_switch {P : Program} {md : Region.Mode} {ops : Array Oper} {Q : Exit → Act → World → Prop} {S S2 : World → Prop} (hs : ∀ w, S2 w → S w) : ∀ (fuel : Nat) (listed : Array Bool) (a : Act) (w : World), wpAnyH P md ops Q S2 fuel listed a w → wpAnyH P md ops Q S fuel listed a w
  | 0, _, _, _, h => h
  | fuel + 1, _, _, _, h => ⟨h.1, fun i hi => wpOp_mono (fun a' w' h' => ⟨hs w' h'.1, held_switch hs fuel _ a' w' h'.2⟩) (h.2 i hi)⟩
/-- One thing, and a block beside it. -/
def Also (X : World → (Nat → Prop) → Prop) (B : Nat) (ob : Obj) (w : World) (Z : Nat → Prop) : Prop := X w Z ∧ Blk B ob w Z
theorem Also.good {X : World → (Nat → Prop) → Prop} (h : Good X) (B : Nat) (ob : Obj) : Good (Also X B ob) :=
  ⟨fun k f hs => ⟨h.carry k.1 f hs, (Blk.good B ob).carry k.2 f hs⟩, fun k h1 h2 => ⟨h.mono k.1 h1 h2, (Blk.good B ob).mono k.2 h1 h2⟩⟩
theorem Things.goodAt {W w : World} {ts : List (World → (Nat → Prop) → Prop)} (h : Things W w ts) (j : Nat) {X : World → (Nat → Prop) → Prop} (hj : ts[j]? = some X) : Good X := by
  obtain ⟨o, _, _, h3, _⟩ := h
  exact h3 X (List.mem_of_getElem? hj)
theorem Things.also {W w : World} {ts : List (World → (Nat → Prop) → Prop)} (h : Things W w ts) (j : Nat) {X : World → (Nat → Prop) → Prop} (hj : ts[j]? = some X) (ob : Obj) : Things W (w.alloc ob) (ts.set j (Also X w.heap.size ob)) := by
  have hg := h.goodAt j hj
  obtain ⟨U, h1, h0, h2⟩ := h.turn j hj
  have f : Fr (fun _ => False) w (w.alloc ob) := (Fr.refl _ _).alloc ob
  have hlt : ∀ i, (U i ∨ i = w.heap.size) → i < (w.alloc ob).heap.size := fun i hi => by
    rw [World.size_alloc]
    rcases hi with hi | rfl
    · have := (h0 i hi).2; omega
    · omega
  refine h2 (Also X w.heap.size ob) (w.alloc ob) (fun i => U i ∨ i = w.heap.size) (Also.good hg _ _) ⟨hg.mono (hg.kept h1 f) (fun _ => .inl) hlt, heap_alloc_new w ob, .inr rfl, hlt⟩ ⟨fun _ => .inl, fun i hi => ?_, hlt, f.mono fun _ _ e => e.elim⟩
  rcases hi with hi | rfl
  · exact .inl hi
  · exact .inr (Nat.le_refl _)
theorem Things.also_cells {W w : World} {ts : List (World → (Nat → Prop) → Prop)} {X : World → (Nat → Prop) → Prop} {B : Nat} {ob : Obj} (h : Things W w (Also X B ob :: ts)) : w.heap[B]? = some ob := by
  obtain ⟨U, h1, _⟩ := h.get 0 rfl
  exact h1.2.1
theorem Things.cells {W w : World} {ts : List (World → (Nat → Prop) → Prop)} (h : Things W w ts) (j : Nat) {B : Nat} {ob : Obj} (hj : ts[j]? = some (Blk B ob)) : w.heap[B]? = some ob := by
  obtain ⟨U, h1, _⟩ := h.get j hj
  exact h1.1
theorem Things.setAt {W w : World} {ts : List (World → (Nat → Prop) → Prop)} (h : Things W w ts) (j : Nat) {B : Nat} {cs : Array Value} {T : TypeId} (hj : ts[j]? = some (Blk B (.cells cs T (0, 0)))) (i : Nat) (v : Value) : Things W (w.setCell ⟨B, i, none⟩ v) (ts.set j (Blk B (.cells (cs.setIfInBounds i v) T (0, 0)))) := by
  obtain ⟨U, h1, _, h2⟩ := h.turn j hj
  have f : Fr U w (w.setCell ⟨B, i, none⟩ v) := Fr.setCell (p := ⟨B, i, none⟩) (Fr.refl _ _) h1.2.1 v
  refine h2 _ _ U (Blk.good _ _) ⟨?_, h1.2.1, fun i hi => Nat.lt_of_lt_of_le (h1.2.2 i hi) f.size⟩ (Gw.same h1.2.2 f)
  simp [World.setCell, Array.getElem?_modify, h1.1]
theorem Things.blk {W w : World} {ts : List (World → (Nat → Prop) → Prop)} (h : Things W w ts) (ob : Obj) : Things W (w.alloc ob) (ts ++ [Blk w.heap.size ob]) := h.more (Blk.good _ _) (Blk.new w ob) ((Fr.refl _ _).alloc _) fun i hi => by simp only [World.size_alloc]; omega
theorem cell0 {w : World} {B : Nat} {x y : Value} {T : TypeId} (h : w.heap[B]? = some (.cells #[x, y] T (0, 0))) : w.cell? ⟨B, 0, none⟩ = some x := by simp [World.cell?, h]
theorem cell1 {w : World} {B : Nat} {x y : Value} {T : TypeId} (h : w.heap[B]? = some (.cells #[x, y] T (0, 0))) : w.cell? ⟨B, 1, none⟩ = some y := by simp [World.cell?, h]
theorem cellZ {w : World} {B : Nat} {x y : Value} {T : TypeId} (h : w.heap[B]? = some (.cells #[x, y] T (0, 0))) : w.cell? ⟨B, 0, none⟩ = some x ∧ w.cell? ⟨B, 1, none⟩ = some y ∧ ∀ k, w.frozen? ⟨B, k, none⟩ = false := ⟨cell0 h, cell1 h, fun k => by simp [World.frozen?, h]⟩
end Go.Proofs.Ytcajdbklchjkkaa

namespace Go.Proofs.Ytcajdbklchjkkaa
open Go.RowKit

/-- Spans where a slice says: three cells each. -/
def SpAt (w : World) (ad : Option Addr) (ss : List (Int × Int × Bool)) : Prop := ∀ i (h : i < ss.length), ∃ b off, ad = some ⟨b, off, none⟩ ∧ b < w.heap.size ∧ w.cell? ⟨b, off + i * 3, none⟩ = some (.int .i64 (ss[i]).1) ∧ w.cell? ⟨b, off + i * 3 + 1, none⟩ = some (.int .i64 (ss[i]).2.1) ∧ w.cell? ⟨b, off + i * 3 + 2, none⟩ = some (.bool (ss[i]).2.2)
theorem SpAt.carry {S : Nat → Prop} {w w' : World} {ad : Option Addr} {ss : List (Int × Int × Bool)} (h : SpAt w ad ss) (f : Fr S w w') (hs : ∀ b off, ad = some ⟨b, off, none⟩ → 0 < ss.length → ¬ S b) : SpAt w' ad ss := fun i hi => by
  obtain ⟨b, off, e, hb, h1, h2, h3⟩ := h i hi
  have hf := f.block b hb (hs b off e (by omega))
  exact ⟨b, off, e, by have := f.size; omega, (World.cell?_of_block hf).trans h1, (World.cell?_of_block hf).trans h2, (World.cell?_of_block hf).trans h3⟩
theorem SpAt.fr {w w' : World} {ad : Option Addr} {ss : List (Int × Int × Bool)} (h : SpAt w ad ss) (f : Fr (fun _ => False) w w') : SpAt w' ad ss := h.carry f fun _ _ _ _ => id
theorem SpAt.nil (w : World) (ad : Option Addr) : SpAt w ad [] := fun i h => by simp at h
/-- As a thing. -/
def Sv (ad : Option Addr) (ss : List (Int × Int × Bool)) (w : World) (Z : Nat → Prop) : Prop := SpAt w ad ss ∧ (∀ b off, ad = some ⟨b, off, none⟩ → 0 < ss.length → Z b) ∧ ∀ i, Z i → i < w.heap.size
theorem Sv.good (ad : Option Addr) (ss : List (Int × Int × Bool)) : Good (Sv ad ss) :=
  ⟨fun h f hs => ⟨h.1.carry f fun b off e h0 => hs b (h.2.1 b off e h0), h.2.1, fun i hi => Nat.lt_of_lt_of_le (h.2.2 i hi) f.size⟩, fun h h1 h2 => ⟨h.1, fun b off e h0 => h1 b (h.2.1 b off e h0), h2⟩⟩
theorem Sv.new {w : World} {ad : Option Addr} {ss : List (Int × Int × Bool)} (h : SpAt w ad ss) : Sv ad ss w (fun b => (∃ off, ad = some ⟨b, off, none⟩) ∧ 0 < ss.length) :=
  ⟨h, fun b off e h0 => ⟨⟨off, e⟩, h0⟩, fun i ⟨⟨off, e⟩, h0⟩ => by
    obtain ⟨b, off', e1, e2, _⟩ := h 0 h0
    rw [e] at e1
    simp only [Option.some.injEq, Addr.mk.injEq] at e1
    omega⟩
theorem Things.sps {W w : World} {ts : List (World → (Nat → Prop) → Prop)} (h : Things W w ts) (j : Nat) {ad : Option Addr} {ss : List (Int × Int × Bool)} (hj : ts[j]? = some (Sv ad ss)) : SpAt w ad ss := by
  obtain ⟨U, h1, _⟩ := h.get j hj
  exact h1.1
/-- Spans that have come in new blocks. -/
theorem Things.moreSpans {W w w' : World} {ts : List (World → (Nat → Prop) → Prop)} (h : Things W w ts) {ad : Option Addr} {ss : List (Int × Int × Bool)} (hs : SpAt w' ad ss) (hb : ∀ b off, ad = some ⟨b, off, none⟩ → 0 < ss.length → w.heap.size ≤ b) (f : Fr (fun _ => False) w w') : Things W w' (ts ++ [Sv ad ss]) :=
  h.more (Sv.good _ _) (Sv.new hs) f fun i ⟨⟨off, e⟩, h0⟩ => ⟨hb i off e h0, (Sv.new hs).2.2 i ⟨⟨off, e⟩, h0⟩⟩
set_option maxRecDepth 20000 in
set_option maxHeartbeats 1000000 in
theorem spans_same {w : World} {a1 a2 : Option Addr} {c1 c2 : Nat} {ss : List (Int × Int × Bool)} (h1 : SpAt w a1 ss) (h2 : SpAt w a2 ss) (hk : ss.length ≤ 1000002) :
    Calls Try.prog 16 #[.slice a1 ss.length c1, .slice a2 ss.length c2] w fun e w' => e = .returned (.bool true) ∧ Fr (fun _ => False) w w' := by
  have H1 := hid h1
  have H2 := hid h2
  clear h1 h2
  go_enter Try.func16, Try.ntmps16
  go_wp2
  go_loopw [5] (fun i wr => ∃ j : Nat, j ≤ ss.length ∧ i = .int .i64 j ∧ Hid (Fr (fun _ => False) w wr)) (fun i _ => ss.length - (intOf i).toNat)
  case atStart => exact ⟨0, by omega, rfl, Fr.refl _ _⟩
  case round =>
    obtain ⟨j, hj, rfl, HF⟩ := hrel
    by_cases hlt : j < ss.length
    · obtain ⟨b1, o1, rfl, _, p1, p2, p3⟩ := H1.out.fr HF.out j hlt
      obtain ⟨b2, o2, rfl, _, q1, q2, q3⟩ := H2.out.fr HF.out j hlt
      obtain ⟨s1, s2, s3⟩ := ss[j]
      clear H1 H2
      go_wp2
      go_region
      go_wp2
      go_roundw
      case rel => exact ⟨j + 1, by omega, by go_num, HF.out.drew⟩
      case measure => simp [intOf]; omega
    · obtain rfl : ss.length = j := by omega
      go_wp2
      go_ret
      exact ⟨by simp, HF.out⟩
end Go.Proofs.Ytcajdbklchjkkaa

namespace Go.Proofs.Ytcajdbklchjkkaa
open Go.RowKit

def nI (l : List Nat) : List Int := l.map fun n : Nat => (n : Int)
theorem nI_length (l : List Nat) : (nI l).length = l.length := by simp [nI]
theorem nI_snoc (l : List Nat) (x : Nat) : nI (l ++ [x]) = nI l ++ [(x : Int)] := by simp [nI]
theorem nI_get {l : List Nat} {i : Nat} (h : i < (nI l).length) : (nI l)[i] = ((l[i]'(by rwa [nI_length] at h) : Nat) : Int) := by simp [nI]
end Go.Proofs.Ytcajdbklchjkkaa
