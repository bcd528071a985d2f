/-
  A set of numbers as a map that the call has made: what is looked up, what is stored.
-/
import Derived.Test.YtcekpaicccmhkaaDoorCoOps
import Derived.Maps.Own
import Derived.Maps.OwnOps
import Derived.Maps.OwnSet
import Derived.Maps.Views
namespace Go.Proofs.YtcekpaicccmhkaaDoor
open Go.RowKit

theorem intLaw : Maps.Keyed Tryd.prog 3 := Maps.int_keyed Tryd.underlying3
theorem int_key {x : Int} (hx : (Lit.int .i64 x).wf = true) : keyOf Tryd.prog 3 (.int .i64 x) = some (.int .i64 x) := by
  unfold keyOf
  rw [Tryd.underlying3]
  simp [mapKey, Tryd.underlying3, hx]
theorem plainElem_bool_inv {H : Type} {P : Program} {e : TypeId} (he : P.underlying e = some .bool) {v : Value} {z : DataW H × List MemPlace} (h : plainElem P e v = some z) : ∃ c, v = .bool c ∧ z = (.lit (.bool c), []) := by
  unfold plainElem at h
  rw [he] at h
  cases v <;> simp at h
  exact ⟨_, rfl, h.symm⟩
theorem zero_bool (w : World) : (zeroValue 4).run Tryd.prog w = .ok (.bool false) w := by kernel_rfl
/-- In block B lies a map of at most n entries: the set of the numbers of l. -/
def Om (w : World) (B n : Nat) (l : List Int) : Prop :=
  ∃ D : DataW Unit, w.ownsMap Tryd.prog 3 (plainElem Tryd.prog 4) B n D ∧ ∀ x : Int, D.atKey (.int .i64 x) (.lit (.bool false)) = .lit (.bool (decide (x ∈ l)))
theorem Om.new (w : World) : Om (w.alloc (.map #[] 0)) w.heap.size 0 [] := ⟨_, World.ownsMap_made w _ _ _, fun x => by simp; rfl⟩
theorem Om.lt {w : World} {B n : Nat} {l : List Int} (h : Om w B n l) : B < w.heap.size := by obtain ⟨D, h1, _⟩ := h; exact h1.lt
theorem Om.carry {S : Nat → Prop} {w w' : World} {B n : Nat} {l : List Int} (h : Om w B n l) (f : Fr S w w') (hn : ¬ S B) : Om w' B n l := by
  obtain ⟨D, ⟨es, clock, hb, F, hs, hD⟩, h2⟩ := h
  exact ⟨D, ⟨es, clock, by rw [f.block B (Array.getElem?_eq_some_iff.1 hb).1 hn]; exact hb, F, hs, hD⟩, h2⟩
theorem Om.look {w : World} {B n : Nat} {l : List Int} (h : Om w B n l) {x : Int} (hx : (Lit.int .i64 x).wf = true) : (Instr.lookup 49 (.map (some B)) (.int .i64 x) false).run Tryd.prog w = .ok (.bool (decide (x ∈ l))) w := by
  obtain ⟨D, h1, h2⟩ := h
  obtain ⟨v, ps, hrun, hv⟩ := h1.lookup intLaw Tryd.underlying49 (zero_bool w) (plainElem_bool Tryd.underlying4 false) (int_key hx)
  obtain ⟨c, rfl, hc⟩ := plainElem_bool_inv Tryd.underlying4 hv
  rw [h2 x] at hc
  simp only [Prod.mk.injEq, DataW.lit.injEq, Lit.bool.injEq] at hc
  rw [hrun, hc.1]
theorem Om.store {w : World} {B n : Nat} {l : List Int} (h : Om w B n l) (hn : n < maxLen) {x : Int} (hx : (Lit.int .i64 x).wf = true) : ∃ w', (Instr.mapUpdate 49 (.map (some B)) (.int .i64 x) (.bool true)).run Tryd.prog w = .ok () w' ∧ Om w' B (n + 1) (x :: l) ∧ Fr (fun i => i = B) w w' := by
  obtain ⟨D, h1, h2⟩ := h
  obtain ⟨w', hrun, h3, hg⟩ := h1.update intLaw Tryd.underlying49 hn (int_key hx) (plainElem_bool Tryd.underlying4 true)
  refine ⟨w', hrun, ⟨_, h3, fun y => ?_⟩, (Fr.refl _ _).grown hg (fun k e => .inl (by simpa using e.symm))⟩
  by_cases e : y = x
  · subst e
    rw [Maps.atKey_put_same h1.isMap (by trivial)]
    simp
  · rw [Maps.atKey_put_other (by simpa using e), h2 y]
    simp [e]
end Go.Proofs.YtcekpaicccmhkaaDoor
