/-
  A set of numbers as a map that the call has made: what is looked up, what is stored.
  A table of numbers by numbers (map[int]int) that the call, or an object, owns: looked up, stored, deleted, counted, walked over.
  A table of pages by numbers (map[int]*page.Page): looked up, stored, deleted. A page is told by its block.
  How many blocks of the document's page are had: counted, and as the document counts them.
-/
import Derived.Test.YtihaifnenjngpaaGreatDoorChMem
import Derived.Maps.Own
import Derived.Maps.OwnOps
import Derived.Maps.OwnSet
import Derived.Maps.Views
import Derived.Maps.RangeWalk
import Derived.Test.YtihaifnenjngpaaGreatDoorHpFam
namespace Go.Proofs.YtihaifnenjngpaaGreatDoor
open Go.RowKit

theorem intLaw : Maps.Keyed Tryz.prog 3 := Maps.int_keyed Tryz.underlying3
theorem int_key {x : Int} (hx : (Lit.int .i64 x).wf = true) : keyOf Tryz.prog 3 (.int .i64 x) = some (.int .i64 x) := by
  unfold keyOf
  rw [Tryz.underlying3]
  simp [mapKey, Tryz.underlying3, hx]
theorem plainElem_bool_inv {H : Type} {P : Program} {e : TypeId} (he : P.underlying e = some .bool) {v : Value} {z : DataW H × List MemPlace} (h : plainElem P e v = some z) : ∃ c, v = .bool c ∧ z = (.lit (.bool c), []) := by
  unfold plainElem at h
  rw [he] at h
  cases v <;> simp at h
  exact ⟨_, rfl, h.symm⟩
theorem zero_bool (w : World) : (zeroValue 4).run Tryz.prog w = .ok (.bool false) w := by kernel_rfl
/-- In block B lies a map of at most n entries: the set of the numbers of l. -/
def Om (w : World) (B n : Nat) (l : List Int) : Prop :=
  ∃ D : DataW Unit, w.ownsMap Tryz.prog 3 (plainElem Tryz.prog 4) B n D ∧ ∀ x : Int, D.atKey (.int .i64 x) (.lit (.bool false)) = .lit (.bool (decide (x ∈ l)))
theorem Om.new (w : World) : Om (w.alloc (.map #[] 0)) w.heap.size 0 [] := ⟨_, World.ownsMap_made w _ _ _, fun x => by simp; rfl⟩
theorem Om.lt {w : World} {B n : Nat} {l : List Int} (h : Om w B n l) : B < w.heap.size := by obtain ⟨D, h1, _⟩ := h; exact h1.lt
theorem Om.carry {S : Nat → Prop} {w w' : World} {B n : Nat} {l : List Int} (h : Om w B n l) (f : Fr S w w') (hn : ¬ S B) : Om w' B n l := by
  obtain ⟨D, ⟨es, clock, hb, F, hs, hD⟩, h2⟩ := h
  exact ⟨D, ⟨es, clock, by rw [f.block B (Array.getElem?_eq_some_iff.1 hb).1 hn]; exact hb, F, hs, hD⟩, h2⟩
theorem Om.look {w : World} {B n : Nat} {l : List Int} (h : Om w B n l) {x : Int} (hx : (Lit.int .i64 x).wf = true) : (Instr.lookup 79 (.map (some B)) (.int .i64 x) false).run Tryz.prog w = .ok (.bool (decide (x ∈ l))) w := by
  obtain ⟨D, h1, h2⟩ := h
  obtain ⟨v, ps, hrun, hv⟩ := h1.lookup intLaw Tryz.underlying79 (zero_bool w) (plainElem_bool Tryz.underlying4 false) (int_key hx)
  obtain ⟨c, rfl, hc⟩ := plainElem_bool_inv Tryz.underlying4 hv
  rw [h2 x] at hc
  simp only [Prod.mk.injEq, DataW.lit.injEq, Lit.bool.injEq] at hc
  rw [hrun, hc.1]
theorem Om.store {w : World} {B n : Nat} {l : List Int} (h : Om w B n l) (hn : n < maxLen) {x : Int} (hx : (Lit.int .i64 x).wf = true) : ∃ w', (Instr.mapUpdate 79 (.map (some B)) (.int .i64 x) (.bool true)).run Tryz.prog w = .ok () w' ∧ Om w' B (n + 1) (x :: l) ∧ Fr (fun i => i = B) w w' := by
  obtain ⟨D, h1, h2⟩ := h
  obtain ⟨w', hrun, h3, hg⟩ := h1.update intLaw Tryz.underlying79 hn (int_key hx) (plainElem_bool Tryz.underlying4 true)
  refine ⟨w', hrun, ⟨_, h3, fun y => ?_⟩, (Fr.refl _ _).grown hg (fun k e => .inl (by simpa using e.symm))⟩
  by_cases e : y = x
  · subst e
    rw [Maps.atKey_put_same h1.isMap (by trivial)]
    simp
  · rw [Maps.atKey_put_other (by simpa using e), h2 y]
    simp [e]
theorem wf_small {x : Int} (h0 : -9223372036854775808 ≤ x) (h1 : x ≤ 9223372036854775807) : (Lit.int .i64 x).wf = true := by
  have e1 : IntKind.i64.min = -9223372036854775808 := by decide
  have e2 : IntKind.i64.max = 9223372036854775807 := by decide
  simp [Lit.wf, e1, e2]
  omega
/-- A set of numbers, as a thing by itself. -/
def Mp (B n : Nat) (l : List Int) (w : World) (Z : Nat → Prop) : Prop := Om w B n l ∧ Z B ∧ ∀ i, Z i → i < w.heap.size
theorem Mp.good (B n : Nat) (l : List Int) : Good (Mp B n l) :=
  ⟨fun h f hs => ⟨h.1.carry f (hs _ h.2.1), h.2.1, fun i hi => Nat.lt_of_lt_of_le (h.2.2 i hi) f.size⟩, fun h h1 h2 => ⟨h.1, h1 _ h.2.1, h2⟩⟩
theorem Mp.new (w : World) : Mp w.heap.size 0 [] (w.alloc (.map #[] 0)) (fun i => i = w.heap.size) := ⟨Om.new w, rfl, fun i hi => by simp only [World.size_alloc]; omega⟩
theorem Mp.look {B n : Nat} {l : List Int} {w : World} {Z : Nat → Prop} (h : Mp B n l w Z) {x : Int} (hx : (Lit.int .i64 x).wf = true) : (Instr.lookup 79 (.map (some B)) (.int .i64 x) false).run Tryz.prog w = .ok (.bool (decide (x ∈ l))) w := h.1.look hx
theorem Mp.store {B n : Nat} {l : List Int} {w : World} {Z : Nat → Prop} (h : Mp B n l w Z) (hn : n < maxLen) {x : Int} (hx : (Lit.int .i64 x).wf = true) : ∃ w', (Instr.mapUpdate 79 (.map (some B)) (.int .i64 x) (.bool true)).run Tryz.prog w = .ok () w' ∧ Mp B (n + 1) (x :: l) w' Z ∧ Gw w w' Z Z := by
  obtain ⟨w', h1, h2, h3⟩ := h.1.store hn hx
  exact ⟨w', h1, ⟨h2, h.2.1, fun i hi => Nat.lt_of_lt_of_le (h.2.2 i hi) h3.size⟩, Gw.same h.2.2 (h3.mono fun i _ e => e ▸ h.2.1)⟩
/-- Of things side by side one is a set. -/
theorem Things.look {W w : World} {ts : List (World → (Nat → Prop) → Prop)} (h : Things W w ts) (j : Nat) {B n : Nat} {l : List Int} (hj : ts[j]? = some (Mp B n l)) {x : Int} (hx : (Lit.int .i64 x).wf = true) : (Instr.lookup 79 (.map (some B)) (.int .i64 x) false).run Tryz.prog w = .ok (.bool (decide (x ∈ l))) w := by
  obtain ⟨U, h1, _⟩ := h.get j hj
  exact h1.look hx
theorem Things.store {W w : World} {ts : List (World → (Nat → Prop) → Prop)} (h : Things W w ts) (j : Nat) {B n : Nat} {l : List Int} (hj : ts[j]? = some (Mp B n l)) (hn : n < maxLen) {x : Int} (hx : (Lit.int .i64 x).wf = true) : ∃ w', (Instr.mapUpdate 79 (.map (some B)) (.int .i64 x) (.bool true)).run Tryz.prog w = .ok () w' ∧ Things W w' (ts.set j (Mp B (n + 1) (x :: l))) := by
  obtain ⟨U, h1, _, h2⟩ := h.turn j hj
  obtain ⟨w', r, m, g⟩ := h1.store hn hx
  exact ⟨w', r, h2 _ w' U (Mp.good _ _ _) m g⟩
theorem Things.set {W w : World} {ts : List (World → (Nat → Prop) → Prop)} (h : Things W w ts) : Things W (w.alloc (.map #[] 0)) (ts ++ [Mp w.heap.size 0 []]) := h.more (Mp.good _ _ _) (Mp.new w) ((Fr.refl _ _).alloc _) fun i hi => by simp only [World.size_alloc]; omega
end Go.Proofs.YtihaifnenjngpaaGreatDoor

namespace Go.Proofs.YtihaifnenjngpaaGreatDoor
open Go.RowKit

theorem zero_int (w : World) : (zeroValue 3).run Tryz.prog w = .ok (.int .i64 0) w := by kernel_rfl
/-- What such a table reads as. -/
def Di (D : DataW Unit) (f : Int → Option Int) (cnt : Nat) : Prop := (∀ x : Int, Maps.has D (.int .i64 x) = (f x).isSome) ∧ (∀ x : Int, D.atKey (.int .i64 x) (.lit (.int .i64 0)) = .lit (.int .i64 ((f x).getD 0))) ∧ Maps.size D = cnt
/-- In block B lies such a table, of cnt entries. -/
def Oi (w : World) (B n : Nat) (f : Int → Option Int) (cnt : Nat) : Prop := ∃ D : DataW Unit, w.ownsMap Tryz.prog 3 (plainElem Tryz.prog 3) B n D ∧ Di D f cnt
section
variable {w w' : World} {B n cnt : Nat} {f : Int → Option Int}
theorem Oi.new (w : World) : Oi (w.alloc (.map #[] 0)) w.heap.size 0 (fun _ => none) 0 := ⟨_, World.ownsMap_made w _ _ _, fun x => by simp [Maps.has], fun x => by simp; rfl, rfl⟩
theorem Oi.lt (h : Oi w B n f cnt) : B < w.heap.size := by obtain ⟨D, h1, _⟩ := h; exact h1.lt
theorem Oi.carry {S : Nat → Prop} (h : Oi w B n f cnt) (fr : Fr S w w') (hn : ¬ S B) : Oi w' B n f cnt := by
  obtain ⟨D, ⟨es, clock, hb, F, hs, hD⟩, h2⟩ := h
  exact ⟨D, ⟨es, clock, by rw [fr.block B (Array.getElem?_eq_some_iff.1 hb).1 hn]; exact hb, F, hs, hD⟩, h2⟩
theorem Oi.same {g : Int → Option Int} (h : Oi w B n f cnt) (e : ∀ x, f x = g x) : Oi w B n g cnt := by
  have : f = g := funext e
  rw [← this]; exact h
theorem Oi.look (h : Oi w B n f cnt) {x : Int} (hx : (Lit.int .i64 x).wf = true) : (Instr.lookup 114 (.map (some B)) (.int .i64 x) false).run Tryz.prog w = .ok (.int .i64 ((f x).getD 0)) w := by
  obtain ⟨D, h1, h2⟩ := h
  obtain ⟨v, ps, hrun, hv⟩ := h1.lookup intLaw Tryz.underlying114 (zero_int w) (plainElem_int Tryz.underlying3 (by decide)) (int_key hx)
  obtain ⟨c, rfl, hc⟩ := plainElem_int_inv Tryz.underlying3 hv
  rw [h2.2.1 x] at hc
  simp only [Prod.mk.injEq, DataW.lit.injEq, Lit.int.injEq] at hc
  rw [hrun, hc.1.1.2]
theorem Oi.lookOk (h : Oi w B n f cnt) {x : Int} (hx : (Lit.int .i64 x).wf = true) : (Instr.lookup 114 (.map (some B)) (.int .i64 x) true).run Tryz.prog w = .ok (.tuple #[.int .i64 ((f x).getD 0), .bool (f x).isSome]) w := by
  obtain ⟨D, h1, h2⟩ := h
  obtain ⟨v, ps, hrun, hv⟩ := h1.look_ok intLaw Tryz.underlying114 (zero_int w) (plainElem_int Tryz.underlying3 (by decide)) (int_key hx)
  obtain ⟨c, rfl, hc⟩ := plainElem_int_inv Tryz.underlying3 hv
  rw [h2.2.1 x] at hc
  simp only [Prod.mk.injEq, DataW.lit.injEq, Lit.int.injEq] at hc
  rw [hrun, hc.1.1.2, h2.1 x]
theorem Oi.len (h : Oi w B n f cnt) (ty : TypeId) : (Builtin.len_ #[114] ty #[.map (some B)]).run Tryz.prog w = .ok (.int .i64 cnt) w := by
  obtain ⟨D, h1, h2⟩ := h
  rw [h1.len Tryz.underlying114 ty, h2.2.2]
theorem Oi.store (h : Oi w B n f cnt) (hn : n < maxLen) {x y : Int} (hx : (Lit.int .i64 x).wf = true) (hy : (Lit.int .i64 y).wf = true) : ∃ w', (Instr.mapUpdate 114 (.map (some B)) (.int .i64 x) (.int .i64 y)).run Tryz.prog w = .ok () w' ∧ Oi w' B (n + 1) (fun z => if z = x then some y else f z) (if (f x).isSome then cnt else cnt + 1) ∧ Fr (fun i => i = B) w w' := by
  obtain ⟨D, h1, h2⟩ := h
  obtain ⟨w', hrun, h3, hg⟩ := h1.update intLaw Tryz.underlying114 hn (int_key hx) (plainElem_int Tryz.underlying3 hy)
  refine ⟨w', hrun, ⟨_, h3, fun z => ?_, fun z => ?_, ?_⟩, (Fr.refl _ _).grown hg (fun k e => .inl (by simpa using e.symm))⟩
  · dsimp only
    by_cases e : z = x
    · subst e; rw [Maps.has_put_same h1.isMap (by trivial), if_pos rfl]; rfl
    · rw [Maps.has_put_other (by simpa using e), h2.1 z, if_neg e]
  · dsimp only
    by_cases e : z = x
    · subst e
      rw [if_pos rfl, Maps.atKey_put_same h1.isMap (by trivial)]
      rfl
    · rw [if_neg e, Maps.atKey_put_other (by simpa using e), h2.2.1 z]
  · rw [Maps.size_put (h1.tidy intLaw), h2.1 x, h2.2.2]
theorem Oi.drop (h : Oi w B n f cnt) {x : Int} (hx : (Lit.int .i64 x).wf = true) (ty : TypeId) : ∃ w', (Builtin.delete_ #[114, 3] ty #[.map (some B), .int .i64 x]).run Tryz.prog w = .ok (.tuple #[]) w' ∧ Oi w' B n (fun z => if z = x then none else f z) (cnt - (if (f x).isSome then 1 else 0)) ∧ Fr (fun i => i = B) w w' := by
  obtain ⟨D, h1, h2⟩ := h
  obtain ⟨w', hrun, h3, hg⟩ := h1.drop intLaw Tryz.underlying114 (int_key hx) ty
  refine ⟨w', hrun, ⟨_, h3, fun z => ?_, fun z => ?_, ?_⟩, (Fr.refl _ _).grown hg.grown (fun k e => .inl (by simpa using e.symm))⟩
  · dsimp only
    by_cases e : z = x
    · subst e; rw [Maps.has_del_same, if_pos rfl]; rfl
    · rw [Maps.has_del_other (by simpa using e), h2.1 z, if_neg e]
  · dsimp only
    by_cases e : z = x
    · subst e
      rw [if_pos rfl]
      have hh : Maps.has (D.del (.int .i64 z)) (.int .i64 z) = false := Maps.has_del_same
      rw [Maps.atKey_del_same]
      rfl
    · rw [if_neg e, Maps.atKey_del_other (by simpa using e), h2.2.1 z]
  · have := Maps.size_del (k := .int .i64 x) (h1.tidy intLaw)
    rw [h2.1 x, h2.2.2] at this
    omega
/-- A walk over it under way: m entries are left. -/
def Ri (w : World) (B r n : Nat) (f : Int → Option Int) (cnt m : Nat) (lf : Int → Bool) : Prop := ∃ (D : DataW Unit) (left : Lit → Bool), w.ranges Tryz.prog 3 (plainElem Tryz.prog 3) B r n D left m ∧ Di D f cnt ∧ (∀ x : Int, left (.int .i64 x) = lf x) ∧ ∀ x : Int, lf x = true → (f x).isSome = true
theorem Ri.oi {r m : Nat} {lf : Int → Bool} (h : Ri w B r n f cnt m lf) : Oi w B n f cnt := by obtain ⟨D, left, h1, h2, _⟩ := h; exact ⟨D, h1.owns, h2⟩
theorem Ri.lt {r m : Nat} {lf : Int → Bool} (h : Ri w B r n f cnt m lf) : r < w.heap.size := by obtain ⟨D, left, h1, _⟩ := h; exact h1.lt
theorem Ri.left {r m : Nat} {lf : Int → Bool} (h : Ri w B r n f cnt m lf) : w.rangeLeft B r = m := by obtain ⟨D, left, h1, _⟩ := h; exact h1.left_eq
theorem Ri.carry {S : Nat → Prop} {r m : Nat} {lf : Int → Bool} (h : Ri w B r n f cnt m lf) (fr : Fr S w w') (h1 : ¬ S B) (h2 : ¬ S r) : Ri w' B r n f cnt m lf := by
  have hl := h.lt
  have ho := h.oi.lt
  obtain ⟨D, left, ⟨es, clock, since, seen, c0, hb, F, hs, hD, hr, rest⟩, h3⟩ := h
  exact ⟨D, left, ⟨es, clock, since, seen, c0, (fr.block B ho h1).trans hb, F, hs, hD, (fr.block r hl h2).trans hr, rest⟩, h3⟩
end
section
variable {w : World} {ops : Array Oper} {rest : List Oper} {o : Oper} {act : Act} {Q : Exit → Act → World → Prop} {B n cnt : Nat} {f : Int → Option Int}
/-- As a thing by itself. -/
def Mi (B n : Nat) (f : Int → Option Int) (cnt : Nat) (w : World) (Z : Nat → Prop) : Prop := Oi w B n f cnt ∧ Z B ∧ ∀ i, Z i → i < w.heap.size
theorem Mi.good (B n : Nat) (f : Int → Option Int) (cnt : Nat) : Good (Mi B n f cnt) :=
  ⟨fun h fr hs => ⟨h.1.carry fr (hs _ h.2.1), h.2.1, fun i hi => Nat.lt_of_lt_of_le (h.2.2 i hi) fr.size⟩, fun h h1 h2 => ⟨h.1, h1 _ h.2.1, h2⟩⟩
end
theorem Oi.tight {w : World} {B n cnt : Nat} {f : Int → Option Int} (h : Oi w B n f cnt) : Oi w B cnt f cnt := by
  obtain ⟨D, ⟨es, clock, hb, F, hs, hD⟩, h2⟩ := h
  refine ⟨D, ⟨es, clock, hb, F, ?_, hD⟩, h2⟩
  have := h2.2.2
  subst hD
  rw [← this]
  show es.size ≤ List.length _
  rw [length_read]
  exact Nat.le_refl _
theorem Oi.count {w : World} {B n cnt cnt' : Nat} {f : Int → Option Int} (h : Oi w B n f cnt) (e : cnt = cnt') : Oi w B cnt' f cnt' := e ▸ h.tight
end Go.Proofs.YtihaifnenjngpaaGreatDoor

namespace Go.Proofs.YtihaifnenjngpaaGreatDoor
open Go.RowKit

/-- A pointer, read as a number. -/
def ptN : Option Nat → Int
  | none => 0
  | some b => b + 1
def ptV : Option Nat → Value
  | none => .pointer none
  | some b => .pointer (some ⟨b, 0, none⟩)
def ptElem (v : Value) : Option (DataW Unit × List MemPlace) :=
  match v with
  | .pointer none => some (.lit (.int .i64 0), [])
  | .pointer (some ⟨b, 0, none⟩) => some (.lit (.int .i64 (b + 1)), [])
  | _ => none
theorem ptElem_mk (p : Option Nat) : ptElem (ptV p) = some (.lit (.int .i64 (ptN p)), []) := by cases p <;> rfl
theorem ptElem_inv {v : Value} {z : DataW Unit × List MemPlace} (h : ptElem v = some z) : ∃ p, v = ptV p ∧ z = (.lit (.int .i64 (ptN p)), []) := by
  unfold ptElem at h
  split at h
  · cases h; exact ⟨none, rfl, rfl⟩
  · rename_i b
    cases h; exact ⟨some b, rfl, rfl⟩
  · cases h
theorem ptN_inj {p q : Option Nat} (h : ptN p = ptN q) : p = q := by
  cases p <;> cases q <;> simp [ptN] at h ⊢ <;> omega
theorem zero_ptr (w : World) : (zeroValue 188).run Tryz.prog w = .ok (.pointer none) w := by kernel_rfl
/-- What such a table reads as. -/
def Dp (D : DataW Unit) (f : Int → Option Nat) (cnt : Nat) : Prop := (∀ x : Int, Maps.has D (.int .i64 x) = (f x).isSome) ∧ (∀ x : Int, D.atKey (.int .i64 x) (.lit (.int .i64 0)) = .lit (.int .i64 (ptN (f x)))) ∧ Maps.size D = cnt
/-- In block B lies such a table, of cnt entries. -/
def Op17 (w : World) (B n : Nat) (f : Int → Option Nat) (cnt : Nat) : Prop := ∃ D : DataW Unit, w.ownsMap Tryz.prog 3 ptElem B n D ∧ Dp D f cnt
section
variable {w w' : World} {B n cnt : Nat} {f : Int → Option Nat}
theorem Op17.new (w : World) : Op17 (w.alloc (.map #[] 0)) w.heap.size 0 (fun _ => none) 0 := ⟨_, World.ownsMap_made w _ _ _, fun x => by simp [Maps.has], fun x => by simp [ptN]; rfl, rfl⟩
theorem Op17.lt (h : Op17 w B n f cnt) : B < w.heap.size := by obtain ⟨D, h1, _⟩ := h; exact h1.lt
theorem Op17.carry {S : Nat → Prop} (h : Op17 w B n f cnt) (fr : Fr S w w') (hn : ¬ S B) : Op17 w' B n f cnt := by
  obtain ⟨D, ⟨es, clock, hb, F, hs, hD⟩, h2⟩ := h
  exact ⟨D, ⟨es, clock, by rw [fr.block B (Array.getElem?_eq_some_iff.1 hb).1 hn]; exact hb, F, hs, hD⟩, h2⟩
theorem Op17.look (h : Op17 w B n f cnt) {x : Int} (hx : (Lit.int .i64 x).wf = true) : (Instr.lookup 106 (.map (some B)) (.int .i64 x) false).run Tryz.prog w = .ok (ptV (f x)) w := by
  obtain ⟨D, h1, h2⟩ := h
  obtain ⟨v, ps, hrun, hv⟩ := h1.lookup intLaw Tryz.underlying106 (zero_ptr w) (ptElem_mk none) (int_key hx)
  obtain ⟨c, rfl, hc⟩ := ptElem_inv hv
  have e : D.atKey (.int .i64 x) (.lit (.int .i64 (ptN none))) = _ := h2.2.1 x
  rw [e] at hc
  simp only [Prod.mk.injEq, DataW.lit.injEq, Lit.int.injEq] at hc
  rw [hrun, ptN_inj hc.1.2]
theorem Op17.lookOk (h : Op17 w B n f cnt) {x : Int} (hx : (Lit.int .i64 x).wf = true) : (Instr.lookup 106 (.map (some B)) (.int .i64 x) true).run Tryz.prog w = .ok (.tuple #[ptV (f x), .bool (f x).isSome]) w := by
  obtain ⟨D, h1, h2⟩ := h
  obtain ⟨v, ps, hrun, hv⟩ := h1.look_ok intLaw Tryz.underlying106 (zero_ptr w) (ptElem_mk none) (int_key hx)
  obtain ⟨c, rfl, hc⟩ := ptElem_inv hv
  have e : D.atKey (.int .i64 x) (.lit (.int .i64 (ptN none))) = _ := h2.2.1 x
  rw [e] at hc
  simp only [Prod.mk.injEq, DataW.lit.injEq, Lit.int.injEq] at hc
  rw [hrun, h2.1 x, ptN_inj hc.1.2]
theorem Op17.store (h : Op17 w B n f cnt) (hn : n < maxLen) {x : Int} (hx : (Lit.int .i64 x).wf = true) (p : Nat) : ∃ w', (Instr.mapUpdate 106 (.map (some B)) (.int .i64 x) (.pointer (some ⟨p, 0, none⟩))).run Tryz.prog w = .ok () w' ∧ Op17 w' B (n + 1) (fun z => if z = x then some p else f z) (if (f x).isSome then cnt else cnt + 1) ∧ Fr (fun i => i = B) w w' := by
  obtain ⟨D, h1, h2⟩ := h
  obtain ⟨w', hrun, h3, hg⟩ := h1.update intLaw Tryz.underlying106 hn (int_key hx) (ptElem_mk (some p))
  refine ⟨w', hrun, ⟨_, h3, fun z => ?_, fun z => ?_, ?_⟩, (Fr.refl _ _).grown hg (fun k e => .inl (by simpa using e.symm))⟩
  · dsimp only
    by_cases e : z = x
    · subst e; rw [Maps.has_put_same h1.isMap (by trivial), if_pos rfl]; rfl
    · rw [Maps.has_put_other (by simpa using e), h2.1 z, if_neg e]
  · dsimp only
    by_cases e : z = x
    · subst e
      rw [if_pos rfl, Maps.atKey_put_same h1.isMap (by trivial)]
    · rw [if_neg e, Maps.atKey_put_other (by simpa using e), h2.2.1 z]
  · rw [Maps.size_put (h1.tidy intLaw), h2.1 x, h2.2.2]
theorem Op17.drop (h : Op17 w B n f cnt) {x : Int} (hx : (Lit.int .i64 x).wf = true) (ty : TypeId) : ∃ w', (Builtin.delete_ #[106, 3] ty #[.map (some B), .int .i64 x]).run Tryz.prog w = .ok (.tuple #[]) w' ∧ Op17 w' B n (fun z => if z = x then none else f z) (cnt - (if (f x).isSome then 1 else 0)) ∧ Fr (fun i => i = B) w w' := by
  obtain ⟨D, h1, h2⟩ := h
  obtain ⟨w', hrun, h3, hg⟩ := h1.drop intLaw Tryz.underlying106 (int_key hx) ty
  refine ⟨w', hrun, ⟨_, h3, fun z => ?_, fun z => ?_, ?_⟩, (Fr.refl _ _).grown hg.grown (fun k e => .inl (by simpa using e.symm))⟩
  · dsimp only
    by_cases e : z = x
    · subst e; rw [Maps.has_del_same, if_pos rfl]; rfl
    · rw [Maps.has_del_other (by simpa using e), h2.1 z, if_neg e]
  · dsimp only
    by_cases e : z = x
    · subst e
      rw [if_pos rfl, Maps.atKey_del_same]
      rfl
    · rw [if_neg e, Maps.atKey_del_other (by simpa using e), h2.2.1 z]
  · have := Maps.size_del (k := .int .i64 x) (h1.tidy intLaw)
    rw [h2.1 x, h2.2.2] at this
    omega
theorem Op17.tight (h : Op17 w B n f cnt) : Op17 w B cnt f cnt := by
  obtain ⟨D, ⟨es, clock, hb, F, hs, hD⟩, h2⟩ := h
  refine ⟨D, ⟨es, clock, hb, F, ?_, hD⟩, h2⟩
  have := h2.2.2
  subst hD
  rw [← this]
  show es.size ≤ List.length _
  rw [length_read]
  exact Nat.le_refl _
end
/-- As a thing by itself, however many it has (few enough that one more finds room). -/
def Mg (B cnt : Nat) (f : Int → Option Nat) (w : World) (Z : Nat → Prop) : Prop := Op17 w B cnt f cnt ∧ Z B ∧ ∀ i, Z i → i < w.heap.size
theorem Mg.good (B cnt : Nat) (f : Int → Option Nat) : Good (Mg B cnt f) :=
  ⟨fun h fr hs => ⟨h.1.carry fr (hs _ h.2.1), h.2.1, fun i hi => Nat.lt_of_lt_of_le (h.2.2 i hi) fr.size⟩, fun h h1 h2 => ⟨h.1, h1 _ h.2.1, h2⟩⟩
section
variable {W w : World} {ts : List (World → (Nat → Prop) → Prop)} {B cnt : Nat} {f : Int → Option Nat}
theorem Things.op17 (h : Things W w ts) (j : Nat) (hj : ts[j]? = some (Mg B cnt f)) : Op17 w B cnt f cnt := by
  obtain ⟨U, h1, _⟩ := h.get j hj
  exact h1.1
theorem Things.turned17 (h : Things W w ts) (j : Nat) (hj : ts[j]? = some (Mg B cnt f)) {w' : World} {n' cnt' : Nat} {f' : Int → Option Nat} (ho : Op17 w' B n' f' cnt') (fr : Fr (fun i => i = B) w w') : Things W w' (ts.set j (Mg B cnt' f')) := by
  obtain ⟨U, h1, _, h2⟩ := h.turn j hj
  exact h2 _ w' U (Mg.good _ _ _) ⟨ho.tight, h1.2.1, fun i hi => Nat.lt_of_lt_of_le (h1.2.2 i hi) fr.size⟩ (Gw.same h1.2.2 (fr.mono fun i _ e => e ▸ h1.2.1))
end
section
variable {w : World} {ops : Array Oper} {rest : List Oper} {o : Oper} {act : Act} {Q : Exit → Act → World → Prop} {B n cnt : Nat} {f : Int → Option Nat}
end
end Go.Proofs.YtihaifnenjngpaaGreatDoor

namespace Go.Proofs.YtihaifnenjngpaaGreatDoor
open Go.RowKit
open An

theorem len_le : ∀ (l m : List Nat), l.Nodup → (∀ x ∈ l, x ∈ m) → l.length ≤ m.length
  | [], m, _, _ => by simp
  | x :: l, m, hn, h => by
    rw [List.nodup_cons] at hn
    have hx := h x (List.mem_cons_self ..)
    have h1 := len_le l (m.erase x) hn.2 fun y hy => (List.mem_erase_of_ne (show y ≠ x from fun e => hn.1 (e ▸ hy))).2 (h y (List.mem_cons_of_mem _ hy))
    rw [List.length_erase_of_mem hx] at h1
    have := List.length_pos_of_mem hx
    simp only [List.length_cons]
    omega
theorem len_eq {l m : List Nat} (h1 : l.Nodup) (h2 : m.Nodup) (h : ∀ x, x ∈ l ↔ x ∈ m) : l.length = m.length := Nat.le_antisymm (len_le l m h1 fun x hx => (h x).1 hx) (len_le m l h2 fun x hx => (h x).2 hx)
/-- Which of 32 blocks are had. -/
def hads (g : Pg) : List Bool := (List.range 32).map fun i => decide (g.Had i)
theorem hads_length (g : Pg) : (hads g).length = 32 := by simp [hads]
theorem hads_get (g : Pg) (j : Nat) (hj : j < 32) : (hads g)[j]'(by rw [hads_length]; exact hj) = decide (g.Had j) := by simp [hads]
theorem Pg.Ok.counted {g : Pg} {bs : List UInt8} (h : g.Ok bs) : (hads g).count true = g.used := by
  have hp := (kind_facts g.kind h.kind).2.1.2
  have hfr := h.fr
  have e1 : (hads g).count true = ((List.range 32).filter fun i => decide (g.Had i)).length := by
    unfold hads
    rw [List.count_eq_countP, List.countP_map, List.countP_eq_length_filter]
    congr 2
    funext i
    simp
  have hnF : ((List.range 32).filter fun i => decide (g.Had i)).Nodup := List.nodup_range.filter _
  have e2 : (((List.range 32).filter fun i => decide (g.Had i)) ++ (g.R ++ g.D)).length = (List.range g.fresh).length := by
    apply len_eq
    · rw [List.nodup_append]
      refine ⟨hnF, h.nd, fun a ha b hb e => ?_⟩
      subst e
      simp only [List.mem_filter, List.mem_range, decide_eq_true_eq] at ha
      rw [List.mem_append] at hb
      rcases hb with hb | hb
      · exact ha.2.2.1 hb
      · exact ha.2.2.2 hb
    · exact List.nodup_range
    · intro x
      simp only [List.mem_append, List.mem_filter, List.mem_range, decide_eq_true_eq]
      constructor
      · rintro (hx | hx)
        · exact hx.2.1
        · exact h.lt x (List.mem_append.2 hx)
      · intro hx
        by_cases h1 : x ∈ g.R
        · exact .inr (.inl h1)
        · by_cases h2 : x ∈ g.D
          · exact .inr (.inr h2)
          · exact .inl ⟨by omega, hx, h1, h2⟩
  rw [List.length_append, List.length_append, List.length_range] at e2
  unfold Pg.used
  omega
section
variable {w : World} {p r rd wt : Nat} {at_ of_ fresh : Int} {hd : List Bool}
end
end Go.Proofs.YtihaifnenjngpaaGreatDoor
