/-
  A set of numbers as a map that the call has made: what is looked up, what is stored, how many there are.
-/
import Derived.Test.YthamfljooapkoaaDoorLists
import Derived.Maps.Own
import Derived.Maps.OwnOps
import Derived.Maps.OwnSet
import Derived.Maps.Views
namespace Go.Proofs.YthamfljooapkoaaDoor
open Go.RowKit

theorem intLaw : Maps.Keyed Tryd.prog 3 := Maps.int_keyed Tryd.underlying3
theorem int_key {x : Int} (hx : (Lit.int .i64 x).wf = true) : keyOf Tryd.prog 3 (.int .i64 x) = some (.int .i64 x) := by
  unfold keyOf
  rw [Tryd.underlying3]
  simp [mapKey, Tryd.underlying3, hx]
theorem wf_small {x : Int} (h0 : -9223372036854775808 ≤ x) (h1 : x ≤ 9223372036854775807) : (Lit.int .i64 x).wf = true := by
  have e1 : IntKind.i64.min = -9223372036854775808 := by decide
  have e2 : IntKind.i64.max = 9223372036854775807 := by decide
  simp [Lit.wf, e1, e2]
  omega
theorem plainElem_bool_inv {H : Type} {P : Program} {e : TypeId} (he : P.underlying e = some .bool) {v : Value} {z : DataW H × List MemPlace} (h : plainElem P e v = some z) : ∃ c, v = .bool c ∧ z = (.lit (.bool c), []) := by
  unfold plainElem at h
  rw [he] at h
  cases v <;> simp at h
  exact ⟨_, rfl, h.symm⟩
theorem zero_bool (w : World) : (zeroValue 4).run Tryd.prog w = .ok (.bool false) w := by kernel_rfl
/-- In block B lies a map: the set of the numbers of l, each once. -/
def Om (w : World) (B : Nat) (l : List Int) : Prop :=
  ∃ D : DataW Unit, w.ownsMap Tryd.prog 3 (plainElem Tryd.prog 4) B l.length D ∧ Maps.size D = l.length ∧ (∀ x : Int, Maps.has D (.int .i64 x) = decide (x ∈ l)) ∧ ∀ x : Int, D.atKey (.int .i64 x) (.lit (.bool false)) = .lit (.bool (decide (x ∈ l)))
theorem Om.new (w : World) : Om (w.alloc (.map #[] 0)) w.heap.size [] := ⟨_, World.ownsMap_made w _ _ _, rfl, fun x => by simp [Maps.has], fun x => by simp; rfl⟩
theorem Om.lt {w : World} {B : Nat} {l : List Int} (h : Om w B l) : B < w.heap.size := by obtain ⟨D, h1, _⟩ := h; exact h1.lt
theorem Om.carry {S : Nat → Prop} {w w' : World} {B : Nat} {l : List Int} (h : Om w B l) (f : Fr S w w') (hn : ¬ S B) : Om w' B l := by
  obtain ⟨D, ⟨es, clock, hb, F, hs, hD⟩, h2⟩ := h
  exact ⟨D, ⟨es, clock, by rw [f.block B (Array.getElem?_eq_some_iff.1 hb).1 hn]; exact hb, F, hs, hD⟩, h2⟩
theorem Om.kept {w w' : World} {B : Nat} {l : List Int} (h : Om w B l) (f : Fr (fun _ => False) w w') : Om w' B l := h.carry f id
theorem Om.look {w : World} {B : Nat} {l : List Int} (h : Om w B l) {x : Int} (hx : (Lit.int .i64 x).wf = true) : (Instr.lookup 44 (.map (some B)) (.int .i64 x) false).run Tryd.prog w = .ok (.bool (decide (x ∈ l))) w := by
  obtain ⟨D, h1, _, _, h2⟩ := h
  obtain ⟨v, ps, hrun, hv⟩ := h1.lookup intLaw Tryd.underlying44 (zero_bool w) (plainElem_bool Tryd.underlying4 false) (int_key hx)
  obtain ⟨c, rfl, hc⟩ := plainElem_bool_inv Tryd.underlying4 hv
  rw [h2 x] at hc
  simp only [Prod.mk.injEq, DataW.lit.injEq, Lit.bool.injEq] at hc
  rw [hrun, hc.1]
/-- One that isn't there yet is put. -/
theorem Om.store {w : World} {B : Nat} {l : List Int} (h : Om w B l) (hn : l.length < maxLen) {x : Int} (hx : (Lit.int .i64 x).wf = true) (hnew : x ∉ l) : ∃ w', (Instr.mapUpdate 44 (.map (some B)) (.int .i64 x) (.bool true)).run Tryd.prog w = .ok () w' ∧ Om w' B (x :: l) ∧ Fr (fun i => i = B) w w' := by
  obtain ⟨D, h1, hs, hh, h2⟩ := h
  obtain ⟨w', hrun, h3, hg⟩ := h1.update intLaw Tryd.underlying44 hn (int_key hx) (plainElem_bool Tryd.underlying4 true)
  refine ⟨w', hrun, ⟨_, h3, ?_, fun y => ?_, fun y => ?_⟩, (Fr.refl _ _).grown hg (fun k e => .inl (by simpa using e.symm))⟩
  · rw [Maps.size_put (h1.tidy intLaw), hh x, decide_eq_false hnew, hs]; simp
  · by_cases e : y = x
    · subst e
      rw [Maps.has_put_same h1.isMap (by trivial)]
      simp
    · rw [Maps.has_put_other (by simpa using e), hh y]
      simp [e]
  · by_cases e : y = x
    · subst e
      rw [Maps.atKey_put_same h1.isMap (by trivial)]
      simp
    · rw [Maps.atKey_put_other (by simpa using e), h2 y]
      simp [e]
theorem Om.len {w : World} {B : Nat} {l : List Int} (h : Om w B l) (ty : TypeId) : (Builtin.len_ #[44] ty #[.map (some B)]).run Tryd.prog w = .ok (.int .i64 l.length) w := by
  obtain ⟨D, h1, hs, _, _⟩ := h
  rw [h1.len Tryd.underlying44 ty, hs]
end Go.Proofs.YthamfljooapkoaaDoor
