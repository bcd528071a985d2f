/-
  More of things side by side: a row of touches, the document's page among them.
-/
import Derived.Test.YthndakhnhnipnaaDoorPaAwake
import Derived.Test.YthndakhnhnipnaaDoorAnSame
import Derived.Test.YthndakhnhnipnaaDoorObjs1
namespace Go.Proofs.YthndakhnhnipnaaDoor
open Go.RowKit
open An

/-- A row of touches of the call's own. -/
def Spn (base : Nat) (y : Value) (ss : List Sp) (w : World) (Z : Nat → Prop) : Prop := w.ownsRow base 92 3 y ss.length (spcs ss) ∧ (∀ g, y.ownBlock = some g → Z g) ∧ ∀ i, Z i → i < w.heap.size
theorem Spn.good (base : Nat) (y : Value) (ss : List Sp) : Good (Spn base y ss) :=
  ⟨fun h f hs => ⟨row_turn h.1 f fun x e => hs x (h.2.1 x e), h.2.1, fun i hi => Nat.lt_of_lt_of_le (h.2.2 i hi) f.size⟩, fun h h1 h2 => ⟨h.1, fun g e => h1 g (h.2.1 g e), h2⟩⟩
theorem Things.spans {W w : World} {ts : List (World → (Nat → Prop) → Prop)} (h : Things W w ts) (j : Nat) {base : Nat} {y : Value} {ss : List Sp} (hj : ts[j]? = some (Spn base y ss)) : w.ownsRow base 92 3 y ss.length (spcs ss) := by
  obtain ⟨U, h1, _⟩ := h.get j hj
  exact h1.1
/-- Of things side by side one is the document's page: where its arena's bytes and touches lie. -/
theorem Things.refA {W w : World} {ts : List (World → (Nat → Prop) → Prop)} (h : Things W w ts) (j : Nat) {r p : Nat} {bs : List UInt8} {ss : List Sp} {g : Pg} (hj : ts[j]? = some (Ra r bs ss p g)) : ∃ B b v, Ar w 56 B r b bs v ss := by
  obtain ⟨U, h1, _⟩ := h.get j hj
  obtain ⟨Z, ⟨B, b, v, h2, _⟩⟩ := Both.fst h1
  exact ⟨B, b, v, h2⟩
theorem g_touches {W w : World} {ts : List (World → (Nat → Prop) → Prop)} {a p : Nat} {bs : List UInt8} {ss : List Sp} {g : Pg} (h : Things W w ts) (j : Nat) (hj : ts[j]? = some (Pa a bs ss p g)) (hk : ss.length ≤ 1000002) : Calls Tryd.prog 25 #[.pointer (some ⟨a, 0, none⟩)] w fun e w' => ∃ base ad cap, e = .returned (.slice ad ss.length cap) ∧ Things W w' (ts ++ [Spn base (.slice ad ss.length cap) ss]) :=
  (g_touched h j hj hk).mono fun _ _ ⟨ad, cap, he, ho, f⟩ => ⟨w.heap.size, ad, cap, he, h.more (Z := fun g => (Value.slice ad ss.length cap).ownBlock = some g) (Spn.good _ _ _) ⟨ho, fun _ => id, fun i hi => (ho.lt i hi).2⟩ f fun i hi => ho.lt i hi⟩
theorem awake_t {W w : World} {ts : List (World → (Nat → Prop) → Prop)} (h : Things W w ts) (gr : Gr W) : Calls Tryd.prog 11 #[] w fun e w' => e = .returned (.bool true) ∧ Things W w' ts :=
  (awake_any (Nw.start w) (gr.fr h.nw.fr)).mono fun _ _ ⟨he, n⟩ => ⟨he, h.kept n.fr⟩
end Go.Proofs.YthndakhnhnipnaaDoor
