/-
  A set of numbers with its count (map[int]bool, each number stored once): looked up, stored, counted.
-/
import Derived.Test.YtcajdbklchjkkaaSeen
import Derived.Maps.OwnSet
namespace Go.Proofs.Ytcajdbklchjkkaa
open Go.RowKit

/-- In block B lies a map: the set of the numbers of l, as many as there are. -/
def Oc (w : World) (B : Nat) (l : List Int) : Prop :=
  ∃ D : DataW Unit, w.ownsMap Try.prog 3 (plainElem Try.prog 4) B l.length D ∧ (∀ x : Int, D.atKey (.int .i64 x) (.lit (.bool false)) = .lit (.bool (decide (x ∈ l)))) ∧ (∀ x : Int, Maps.has D (.int .i64 x) = decide (x ∈ l)) ∧ Maps.size D = l.length
theorem Oc.new (w : World) : Oc (w.alloc (.map #[] 0)) w.heap.size [] := ⟨_, World.ownsMap_made w _ _ _, fun x => by simp; rfl, fun x => by simp [Maps.has], rfl⟩
theorem Oc.carry {S : Nat → Prop} {w w' : World} {B : Nat} {l : List Int} (h : Oc w B l) (f : Fr S w w') (hn : ¬ S B) : Oc w' B l := by
  obtain ⟨D, ⟨es, clock, hb, F, hs, hD⟩, h2⟩ := h
  exact ⟨D, ⟨es, clock, by rw [f.block B (Array.getElem?_eq_some_iff.1 hb).1 hn]; exact hb, F, hs, hD⟩, h2⟩
theorem Oc.look {w : World} {B : Nat} {l : List Int} (h : Oc w B l) {x : Int} (hx : (Lit.int .i64 x).wf = true) : (Instr.lookup 63 (.map (some B)) (.int .i64 x) false).run Try.prog w = .ok (.bool (decide (x ∈ l))) w := by
  obtain ⟨D, h1, h2, _⟩ := h
  exact Om.look ⟨D, h1, h2⟩ hx
theorem Oc.len {w : World} {B : Nat} {l : List Int} (h : Oc w B l) (ty : TypeId) : (Builtin.len_ #[63] ty #[.map (some B)]).run Try.prog w = .ok (.int .i64 l.length) w := by
  obtain ⟨D, h1, _, _, h4⟩ := h
  rw [h1.len Try.underlying63 ty, h4]
theorem Oc.store {w : World} {B : Nat} {l : List Int} (h : Oc w B l) (hn : l.length < maxLen) {x : Int} (hx : (Lit.int .i64 x).wf = true) (hf : x ∉ l) : ∃ w', (Instr.mapUpdate 63 (.map (some B)) (.int .i64 x) (.bool true)).run Try.prog w = .ok () w' ∧ Oc w' B (x :: l) ∧ Fr (fun i => i = B) w w' := by
  obtain ⟨D, h1, h2, h3, h4⟩ := h
  obtain ⟨w', hrun, h5, hg⟩ := h1.update intLaw Try.underlying63 hn (int_key hx) (plainElem_bool Try.underlying4 true)
  refine ⟨w', hrun, ⟨_, h5, fun y => ?_, fun y => ?_, ?_⟩, (Fr.refl _ _).grown hg (fun k e => .inl (by simpa using e.symm))⟩
  · by_cases e : y = x
    · subst e
      rw [Maps.atKey_put_same h1.isMap (by trivial)]
      simp
    · rw [Maps.atKey_put_other (by simpa using e), h2 y]
      simp [e]
  · by_cases e : y = x
    · subst e; rw [Maps.has_put_same h1.isMap (by trivial)]; simp
    · rw [Maps.has_put_other (by simpa using e), h3 y]; simp [e]
  · rw [Maps.size_put (h1.tidy intLaw), h3 x, h4]; simp [hf]
/-- As a thing. -/
def Mc (B : Nat) (l : List Int) (w : World) (Z : Nat → Prop) : Prop := Oc w B l ∧ Z B ∧ ∀ i, Z i → i < w.heap.size
theorem Mc.good (B : Nat) (l : List Int) : Good (Mc B l) :=
  ⟨fun h f hs => ⟨h.1.carry f (hs _ h.2.1), h.2.1, fun i hi => Nat.lt_of_lt_of_le (h.2.2 i hi) f.size⟩, fun h h1 h2 => ⟨h.1, h1 _ h.2.1, h2⟩⟩
section
variable {W w : World} {ts : List (World → (Nat → Prop) → Prop)} {B : Nat} {l : List Int}
theorem Things.setC (h : Things W w ts) : Things W (w.alloc (.map #[] 0)) (ts ++ [Mc w.heap.size []]) := h.more (Mc.good _ _) (Z := fun i => i = w.heap.size) ⟨Oc.new w, rfl, fun i hi => by simp only [World.size_alloc]; omega⟩ ((Fr.refl _ _).alloc _) fun i hi => by simp only [World.size_alloc]; omega
theorem Things.lookC (h : Things W w ts) (j : Nat) (hj : ts[j]? = some (Mc B l)) {x : Int} (hx : (Lit.int .i64 x).wf = true) : (Instr.lookup 63 (.map (some B)) (.int .i64 x) false).run Try.prog w = .ok (.bool (decide (x ∈ l))) w := by
  obtain ⟨U, h1, _⟩ := h.get j hj
  exact h1.1.look hx
theorem Things.lenC (h : Things W w ts) (j : Nat) (hj : ts[j]? = some (Mc B l)) (ty : TypeId) : (Builtin.len_ #[63] ty #[.map (some B)]).run Try.prog w = .ok (.int .i64 l.length) w := by
  obtain ⟨U, h1, _⟩ := h.get j hj
  exact h1.1.len ty
theorem Things.storeC (h : Things W w ts) (j : Nat) (hj : ts[j]? = some (Mc B l)) (hn : l.length < maxLen) {x : Int} (hx : (Lit.int .i64 x).wf = true) (hf : x ∉ l) : ∃ w', (Instr.mapUpdate 63 (.map (some B)) (.int .i64 x) (.bool true)).run Try.prog w = .ok () w' ∧ Things W w' (ts.set j (Mc B (x :: l))) := by
  obtain ⟨U, h1, hU, h2⟩ := h.turn j hj
  obtain ⟨w', r, m, f⟩ := h1.1.store hn hx hf
  exact ⟨w', r, h2 _ w' U (Mc.good _ _) ⟨m, h1.2.1, fun i hi => Nat.lt_of_lt_of_le (h1.2.2 i hi) f.size⟩ (Gw.same h1.2.2 (f.mono fun i _ e => e ▸ h1.2.1))⟩
end
end Go.Proofs.Ytcajdbklchjkkaa
