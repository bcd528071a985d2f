/-
  A set of numbers as a map that the call has made: what is looked up, what is stored.
-/
import Derived.Test.YtcajdbklchjkkaaObjs
import Derived.Maps.Own
import Derived.Maps.OwnOps
import Derived.Maps.OwnSet
import Derived.Maps.Views
namespace Go.Proofs.Ytcajdbklchjkkaa
open Go.RowKit

theorem intLaw : Maps.Keyed Try.prog 3 := Maps.int_keyed Try.underlying3
theorem int_key {x : Int} (hx : (Lit.int .i64 x).wf = true) : keyOf Try.prog 3 (.int .i64 x) = some (.int .i64 x) := by
  unfold keyOf
  rw [Try.underlying3]
  simp [mapKey, Try.underlying3, hx]
theorem plainElem_bool_inv {H : Type} {P : Program} {e : TypeId} (he : P.underlying e = some .bool) {v : Value} {z : DataW H × List MemPlace} (h : plainElem P e v = some z) : ∃ c, v = .bool c ∧ z = (.lit (.bool c), []) := by
  unfold plainElem at h
  rw [he] at h
  cases v <;> simp at h
  exact ⟨_, rfl, h.symm⟩
theorem zero_bool (w : World) : (zeroValue 4).run Try.prog w = .ok (.bool false) w := by kernel_rfl
/-- In block B lies a map of at most n entries: the set of the numbers of l. -/
def Om (w : World) (B n : Nat) (l : List Int) : Prop :=
  ∃ D : DataW Unit, w.ownsMap Try.prog 3 (plainElem Try.prog 4) B n D ∧ ∀ x : Int, D.atKey (.int .i64 x) (.lit (.bool false)) = .lit (.bool (decide (x ∈ l)))
theorem Om.new (w : World) : Om (w.alloc (.map #[] 0)) w.heap.size 0 [] := ⟨_, World.ownsMap_made w _ _ _, fun x => by simp; rfl⟩
theorem Om.lt {w : World} {B n : Nat} {l : List Int} (h : Om w B n l) : B < w.heap.size := by obtain ⟨D, h1, _⟩ := h; exact h1.lt
theorem Om.carry {S : Nat → Prop} {w w' : World} {B n : Nat} {l : List Int} (h : Om w B n l) (f : Fr S w w') (hn : ¬ S B) : Om w' B n l := by
  obtain ⟨D, ⟨es, clock, hb, F, hs, hD⟩, h2⟩ := h
  exact ⟨D, ⟨es, clock, by rw [f.block B (Array.getElem?_eq_some_iff.1 hb).1 hn]; exact hb, F, hs, hD⟩, h2⟩
theorem Om.look {w : World} {B n : Nat} {l : List Int} (h : Om w B n l) {x : Int} (hx : (Lit.int .i64 x).wf = true) : (Instr.lookup 63 (.map (some B)) (.int .i64 x) false).run Try.prog w = .ok (.bool (decide (x ∈ l))) w := by
  obtain ⟨D, h1, h2⟩ := h
  obtain ⟨v, ps, hrun, hv⟩ := h1.lookup intLaw Try.underlying63 (zero_bool w) (plainElem_bool Try.underlying4 false) (int_key hx)
  obtain ⟨c, rfl, hc⟩ := plainElem_bool_inv Try.underlying4 hv
  rw [h2 x] at hc
  simp only [Prod.mk.injEq, DataW.lit.injEq, Lit.bool.injEq] at hc
  rw [hrun, hc.1]
theorem Om.store {w : World} {B n : Nat} {l : List Int} (h : Om w B n l) (hn : n < maxLen) {x : Int} (hx : (Lit.int .i64 x).wf = true) : ∃ w', (Instr.mapUpdate 63 (.map (some B)) (.int .i64 x) (.bool true)).run Try.prog w = .ok () w' ∧ Om w' B (n + 1) (x :: l) ∧ Fr (fun i => i = B) w w' := by
  obtain ⟨D, h1, h2⟩ := h
  obtain ⟨w', hrun, h3, hg⟩ := h1.update intLaw Try.underlying63 hn (int_key hx) (plainElem_bool Try.underlying4 true)
  refine ⟨w', hrun, ⟨_, h3, fun y => ?_⟩, (Fr.refl _ _).grown hg (fun k e => .inl (by simpa using e.symm))⟩
  by_cases e : y = x
  · subst e
    rw [Maps.atKey_put_same h1.isMap (by trivial)]
    simp
  · rw [Maps.atKey_put_other (by simpa using e), h2 y]
    simp [e]
theorem wf_small {x : Int} (h0 : -9223372036854775808 ≤ x) (h1 : x ≤ 9223372036854775807) : (Lit.int .i64 x).wf = true := by
  have e1 : IntKind.i64.min = -9223372036854775808 := by decide
  have e2 : IntKind.i64.max = 9223372036854775807 := by decide
  simp [Lit.wf, e1, e2]
  omega
/-- A set of numbers, as a thing by itself. -/
def Mp (B n : Nat) (l : List Int) (w : World) (Z : Nat → Prop) : Prop := Om w B n l ∧ Z B ∧ ∀ i, Z i → i < w.heap.size
theorem Mp.good (B n : Nat) (l : List Int) : Good (Mp B n l) :=
  ⟨fun h f hs => ⟨h.1.carry f (hs _ h.2.1), h.2.1, fun i hi => Nat.lt_of_lt_of_le (h.2.2 i hi) f.size⟩, fun h h1 h2 => ⟨h.1, h1 _ h.2.1, h2⟩⟩
theorem Mp.new (w : World) : Mp w.heap.size 0 [] (w.alloc (.map #[] 0)) (fun i => i = w.heap.size) := ⟨Om.new w, rfl, fun i hi => by simp only [World.size_alloc]; omega⟩
theorem Mp.look {B n : Nat} {l : List Int} {w : World} {Z : Nat → Prop} (h : Mp B n l w Z) {x : Int} (hx : (Lit.int .i64 x).wf = true) : (Instr.lookup 63 (.map (some B)) (.int .i64 x) false).run Try.prog w = .ok (.bool (decide (x ∈ l))) w := h.1.look hx
theorem Mp.store {B n : Nat} {l : List Int} {w : World} {Z : Nat → Prop} (h : Mp B n l w Z) (hn : n < maxLen) {x : Int} (hx : (Lit.int .i64 x).wf = true) : ∃ w', (Instr.mapUpdate 63 (.map (some B)) (.int .i64 x) (.bool true)).run Try.prog w = .ok () w' ∧ Mp B (n + 1) (x :: l) w' Z ∧ Gw w w' Z Z := by
  obtain ⟨w', h1, h2, h3⟩ := h.1.store hn hx
  exact ⟨w', h1, ⟨h2, h.2.1, fun i hi => Nat.lt_of_lt_of_le (h.2.2 i hi) h3.size⟩, Gw.same h.2.2 (h3.mono fun i _ e => e ▸ h.2.1)⟩
/-- Of things side by side one is a set. -/
theorem Things.look {W w : World} {ts : List (World → (Nat → Prop) → Prop)} (h : Things W w ts) (j : Nat) {B n : Nat} {l : List Int} (hj : ts[j]? = some (Mp B n l)) {x : Int} (hx : (Lit.int .i64 x).wf = true) : (Instr.lookup 63 (.map (some B)) (.int .i64 x) false).run Try.prog w = .ok (.bool (decide (x ∈ l))) w := by
  obtain ⟨U, h1, _⟩ := h.get j hj
  exact h1.look hx
theorem Things.store {W w : World} {ts : List (World → (Nat → Prop) → Prop)} (h : Things W w ts) (j : Nat) {B n : Nat} {l : List Int} (hj : ts[j]? = some (Mp B n l)) (hn : n < maxLen) {x : Int} (hx : (Lit.int .i64 x).wf = true) : ∃ w', (Instr.mapUpdate 63 (.map (some B)) (.int .i64 x) (.bool true)).run Try.prog w = .ok () w' ∧ Things W w' (ts.set j (Mp B (n + 1) (x :: l))) := by
  obtain ⟨U, h1, _, h2⟩ := h.turn j hj
  obtain ⟨w', r, m, g⟩ := h1.store hn hx
  exact ⟨w', r, h2 _ w' U (Mp.good _ _ _) m g⟩
theorem Things.set {W w : World} {ts : List (World → (Nat → Prop) → Prop)} (h : Things W w ts) : Things W (w.alloc (.map #[] 0)) (ts ++ [Mp w.heap.size 0 []]) := h.more (Mp.good _ _ _) (Mp.new w) ((Fr.refl _ _).alloc _) fun i hi => by simp only [World.size_alloc]; omega
end Go.Proofs.Ytcajdbklchjkkaa
