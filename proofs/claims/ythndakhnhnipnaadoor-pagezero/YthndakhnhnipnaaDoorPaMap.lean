/-
  A table of texts by numbers that the call has made: looked up, stored, deleted, counted, walked over.
-/
import Derived.Test.YthndakhnhnipnaaDoorObjs
import Derived.Maps.Own
import Derived.Maps.OwnOps
import Derived.Maps.OwnSet
import Derived.Maps.Views
import Derived.Maps.RangeWalk
namespace Go.Proofs.YthndakhnhnipnaaDoor
open Go.RowKit

theorem intLaw : Maps.Keyed Tryd.prog 3 := Maps.int_keyed Tryd.underlying3
theorem wf_small {x : Int} (h0 : -9223372036854775808 ≤ x) (h1 : x ≤ 9223372036854775807) : (Lit.int .i64 x).wf = true := by
  have e1 : IntKind.i64.min = -9223372036854775808 := by decide
  have e2 : IntKind.i64.max = 9223372036854775807 := by decide
  simp [Lit.wf, e1, e2]
  omega
theorem int_key {x : Int} (hx : (Lit.int .i64 x).wf = true) : keyOf Tryd.prog 3 (.int .i64 x) = some (.int .i64 x) := by
  unfold keyOf
  rw [Tryd.underlying3]
  simp [mapKey, Tryd.underlying3, hx]
theorem plainElem_string_inv {H : Type} {P : Program} {e : TypeId} (he : P.underlying e = some .string) {v : Value} {z : DataW H × List MemPlace} (h : plainElem P e v = some z) : ∃ s : ByteArray, v = .string s ∧ z = (.lit (.string s.data.toList), []) := by
  unfold plainElem at h
  rw [he] at h
  cases v <;> simp at h
  exact ⟨_, rfl, h.2.symm⟩
theorem zero_string (w : World) : (zeroValue 9).run Tryd.prog w = .ok (.string ⟨#[]⟩) w := by kernel_rfl
/-- What such a table reads as. -/
def Dm (D : DataW Unit) (f : Int → Option (List UInt8)) (cnt : Nat) : Prop := (∀ x : Int, Maps.has D (.int .i64 x) = (f x).isSome) ∧ (∀ x s, f x = some s → ∀ z, D.atKey (.int .i64 x) z = .lit (.string s)) ∧ Maps.size D = cnt
/-- In block B lies such a table, of cnt entries. -/
def Osx (w : World) (B n : Nat) (f : Int → Option (List UInt8)) (cnt : Nat) : Prop := ∃ D : DataW Unit, w.ownsMap Tryd.prog 3 (plainElem Tryd.prog 9) B n D ∧ Dm D f cnt
section
variable {w w' : World} {B n cnt : Nat} {f : Int → Option (List UInt8)}
theorem Osx.new (w : World) : Osx (w.alloc (.map #[] 0)) w.heap.size 0 (fun _ => none) 0 := ⟨_, World.ownsMap_made w _ _ _, fun x => by simp [Maps.has], (fun x s h => by cases h), rfl⟩
theorem Osx.lt (h : Osx w B n f cnt) : B < w.heap.size := by obtain ⟨D, h1, _⟩ := h; exact h1.lt
theorem Osx.carry {S : Nat → Prop} (h : Osx w B n f cnt) (fr : Fr S w w') (hn : ¬ S B) : Osx w' B n f cnt := by
  obtain ⟨D, ⟨es, clock, hb, F, hs, hD⟩, h2⟩ := h
  exact ⟨D, ⟨es, clock, by rw [fr.block B (Array.getElem?_eq_some_iff.1 hb).1 hn]; exact hb, F, hs, hD⟩, h2⟩
theorem Osx.lookOk (h : Osx w B n f cnt) {x : Int} (hx : (Lit.int .i64 x).wf = true) : ∃ s, (Instr.lookup 60 (.map (some B)) (.int .i64 x) true).run Tryd.prog w = .ok (.tuple #[.string s, .bool (f x).isSome]) w := by
  obtain ⟨D, h1, h2⟩ := h
  obtain ⟨v, ps, hrun, hv⟩ := h1.look_ok intLaw Tryd.underlying60 (zero_string w) (plainElem_string Tryd.underlying9 (by simp [ByteArray.size])) (int_key hx)
  obtain ⟨s, rfl, _⟩ := plainElem_string_inv Tryd.underlying9 hv
  exact ⟨s, by rw [hrun, h2.1 x]⟩
theorem Osx.look (h : Osx w B n f cnt) {x : Int} (hx : (Lit.int .i64 x).wf = true) {s : List UInt8} (hs : f x = some s) : (Instr.lookup 60 (.map (some B)) (.int .i64 x) false).run Tryd.prog w = .ok (.string ⟨s.toArray⟩) w := by
  obtain ⟨D, h1, h2⟩ := h
  obtain ⟨v, ps, hrun, hv⟩ := h1.lookup intLaw Tryd.underlying60 (zero_string w) (plainElem_string Tryd.underlying9 (by simp [ByteArray.size])) (int_key hx)
  obtain ⟨t, rfl, ht⟩ := plainElem_string_inv Tryd.underlying9 hv
  rw [h2.2.1 x s hs] at ht
  simp only [Prod.mk.injEq, DataW.lit.injEq, Lit.string.injEq] at ht
  rw [hrun, ht.1]
theorem Osx.len (h : Osx w B n f cnt) (ty : TypeId) : (Builtin.len_ #[60] ty #[.map (some B)]).run Tryd.prog w = .ok (.int .i64 cnt) w := by
  obtain ⟨D, h1, h2⟩ := h
  rw [h1.len Tryd.underlying60 ty, h2.2.2]
theorem Osx.store (h : Osx w B n f cnt) (hn : n < maxLen) {x : Int} (hx : (Lit.int .i64 x).wf = true) {s : List UInt8} (hs : s.length ≤ maxLen) (hf : f x = none) : ∃ w', (Instr.mapUpdate 60 (.map (some B)) (.int .i64 x) (.string ⟨s.toArray⟩)).run Tryd.prog w = .ok () w' ∧ Osx w' B (n + 1) (fun y => if y = x then some s else f y) (cnt + 1) ∧ Fr (fun i => i = B) w w' := by
  obtain ⟨D, h1, h2⟩ := h
  obtain ⟨w', hrun, h3, hg⟩ := h1.update intLaw Tryd.underlying60 hn (int_key hx) (plainElem_string Tryd.underlying9 (s := ⟨s.toArray⟩) (by simpa [ByteArray.size] using hs))
  refine ⟨w', hrun, ⟨_, h3, fun y => ?_, fun y t ht z => ?_, ?_⟩, (Fr.refl _ _).grown hg (fun k e => .inl (by simpa using e.symm))⟩
  · dsimp only
    by_cases e : y = x
    · subst e; rw [Maps.has_put_same h1.isMap (by trivial), if_pos rfl]; rfl
    · rw [Maps.has_put_other (by simpa using e), h2.1 y, if_neg e]
  · dsimp only at ht
    by_cases e : y = x
    · subst e
      rw [if_pos rfl] at ht
      cases ht
      rw [Maps.atKey_put_same h1.isMap (by trivial)]
    · rw [if_neg e] at ht
      rw [Maps.atKey_put_other (by simpa using e), h2.2.1 y t ht]
  · rw [Maps.size_put (h1.tidy intLaw), h2.1 x, hf, h2.2.2]; rfl
theorem Osx.drop (h : Osx w B n f cnt) {x : Int} (hx : (Lit.int .i64 x).wf = true) (ty : TypeId) : ∃ w', (Builtin.delete_ #[60, 3] ty #[.map (some B), .int .i64 x]).run Tryd.prog w = .ok (.tuple #[]) w' ∧ Osx w' B n (fun y => if y = x then none else f y) (cnt - (if (f x).isSome then 1 else 0)) ∧ Fr (fun i => i = B) w w' := by
  obtain ⟨D, h1, h2⟩ := h
  obtain ⟨w', hrun, h3, hg⟩ := h1.drop intLaw Tryd.underlying60 (int_key hx) ty
  refine ⟨w', hrun, ⟨_, h3, fun y => ?_, fun y t ht z => ?_, ?_⟩, (Fr.refl _ _).grown hg.grown (fun k e => .inl (by simpa using e.symm))⟩
  · dsimp only
    by_cases e : y = x
    · subst e; rw [Maps.has_del_same, if_pos rfl]; rfl
    · rw [Maps.has_del_other (by simpa using e), h2.1 y, if_neg e]
  · dsimp only at ht
    by_cases e : y = x
    · subst e; rw [if_pos rfl] at ht; cases ht
    · rw [if_neg e] at ht
      rw [Maps.atKey_del_other (by simpa using e), h2.2.1 y t ht]
  · have := Maps.size_del (k := .int .i64 x) (h1.tidy intLaw)
    rw [h2.1 x, h2.2.2] at this
    omega
/-- A walk over it under way. -/
def Rg (w : World) (B r n : Nat) (f : Int → Option (List UInt8)) (cnt m : Nat) : Prop := ∃ (D : DataW Unit) (left : Lit → Bool), w.ranges Tryd.prog 3 (plainElem Tryd.prog 9) B r n D left m ∧ Dm D f cnt ∧ ∀ x : Int, left (.int .i64 x) = true → (f x).isSome = true
theorem Rg.os {r m : Nat} (h : Rg w B r n f cnt m) : Osx w B n f cnt := by obtain ⟨D, left, h1, h2, _⟩ := h; exact ⟨D, h1.owns, h2⟩
theorem Rg.lt {r m : Nat} (h : Rg w B r n f cnt m) : r < w.heap.size := by obtain ⟨D, left, h1, _⟩ := h; exact h1.lt
theorem Rg.left {r m : Nat} (h : Rg w B r n f cnt m) : w.rangeLeft B r = m := by obtain ⟨D, left, h1, _⟩ := h; exact h1.left_eq
theorem Rg.carry {S : Nat → Prop} {r m : Nat} (h : Rg w B r n f cnt m) (fr : Fr S w w') (h1 : ¬ S B) (h2 : ¬ S r) : Rg w' B r n f cnt m := by
  have hl := h.lt
  have ho := h.os.lt
  obtain ⟨D, left, ⟨es, clock, since, seen, c0, hb, F, hs, hD, hr, rest⟩, h3⟩ := h
  exact ⟨D, left, ⟨es, clock, since, seen, c0, (fr.block B ho h1).trans hb, F, hs, hD, (fr.block r hl h2).trans hr, rest⟩, h3⟩
/-- Such a table, and a walk over one, each as a thing by itself. -/
def Ms (B n : Nat) (f : Int → Option (List UInt8)) (cnt : Nat) (w : World) (Z : Nat → Prop) : Prop := Osx w B n f cnt ∧ Z B ∧ ∀ i, Z i → i < w.heap.size
def Ws (B r n : Nat) (f : Int → Option (List UInt8)) (cnt m : Nat) (w : World) (Z : Nat → Prop) : Prop := Rg w B r n f cnt m ∧ (Z B ∧ Z r) ∧ ∀ i, Z i → i < w.heap.size
theorem Ms.good (B n : Nat) (f : Int → Option (List UInt8)) (cnt : Nat) : Good (Ms B n f cnt) :=
  ⟨fun h fr hs => ⟨h.1.carry fr (hs _ h.2.1), h.2.1, fun i hi => Nat.lt_of_lt_of_le (h.2.2 i hi) fr.size⟩, fun h h1 h2 => ⟨h.1, h1 _ h.2.1, h2⟩⟩
theorem Ws.good (B r n : Nat) (f : Int → Option (List UInt8)) (cnt m : Nat) : Good (Ws B r n f cnt m) :=
  ⟨fun h fr hs => ⟨h.1.carry fr (hs _ h.2.1.1) (hs _ h.2.1.2), h.2.1, fun i hi => Nat.lt_of_lt_of_le (h.2.2 i hi) fr.size⟩, fun h h1 h2 => ⟨h.1, ⟨h1 _ h.2.1.1, h1 _ h.2.1.2⟩, h2⟩⟩
end
section
variable {W w : World} {ts : List (World → (Nat → Prop) → Prop)} {B n cnt r m : Nat} {f : Int → Option (List UInt8)}
theorem Things.map (h : Things W w ts) : Things W (w.alloc (.map #[] 0)) (ts ++ [Ms w.heap.size 0 (fun _ => none) 0]) :=
  h.more (Z := fun i => i = w.heap.size) (Ms.good _ _ _ _) ⟨Osx.new w, rfl, fun i hi => by simp only [World.size_alloc]; omega⟩ ((Fr.refl _ _).alloc _) fun i hi => by simp only [World.size_alloc]; omega
theorem Things.os (h : Things W w ts) (j : Nat) (hj : ts[j]? = some (Ms B n f cnt)) : Osx w B n f cnt := by
  obtain ⟨U, h1, _⟩ := h.get j hj
  exact h1.1
theorem Things.rg (h : Things W w ts) (j : Nat) (hj : ts[j]? = some (Ws B r n f cnt m)) : Rg w B r n f cnt m := by
  obtain ⟨U, h1, _⟩ := h.get j hj
  exact h1.1
theorem Things.turned (h : Things W w ts) (j : Nat) (hj : ts[j]? = some (Ms B n f cnt)) {w' : World} {n' cnt' : Nat} {f' : Int → Option (List UInt8)} (ho : Osx w' B n' f' cnt') (fr : Fr (fun i => i = B) w w') : Things W w' (ts.set j (Ms B n' f' cnt')) := by
  obtain ⟨U, h1, _, h2⟩ := h.turn j hj
  exact h2 _ w' U (Ms.good _ _ _ _) ⟨ho, h1.2.1, fun i hi => Nat.lt_of_lt_of_le (h1.2.2 i hi) fr.size⟩ (Gw.same h1.2.2 (fr.mono fun i _ e => e ▸ h1.2.1))
theorem Things.walkOn (h : Things W w ts) (j : Nat) (hj : ts[j]? = some (Ms B n f cnt)) {w' : World} {r m : Nat} (hr : w.heap.size ≤ r) (ho : Rg w' B r n f cnt m) (fr : Fr (fun _ => False) w w') : Things W w' (ts.set j (Ws B r n f cnt m)) := by
  obtain ⟨U, h1, h0, h2⟩ := h.turn j hj
  have hlt : ∀ i, (U i ∨ i = r) → i < w'.heap.size := fun i hi => by
    rcases hi with hi | rfl
    · exact Nat.lt_of_lt_of_le (h1.2.2 i hi) fr.size
    · exact ho.lt
  refine h2 _ w' (fun i => U i ∨ i = r) (Ws.good _ _ _ _ _ _) ⟨ho, ⟨.inl h1.2.1, .inr rfl⟩, hlt⟩ ⟨fun _ => .inl, fun i hi => ?_, hlt, fr.mono fun _ _ e => e.elim⟩
  rcases hi with hi | rfl
  · exact .inl hi
  · exact .inr hr
theorem Things.walked (h : Things W w ts) (j : Nat) (hj : ts[j]? = some (Ws B r n f cnt m)) {w' : World} {m' : Nat} (ho : Rg w' B r n f cnt m') (fr : Fr (fun i => i = r) w w') : Things W w' (ts.set j (Ws B r n f cnt m')) := by
  obtain ⟨U, h1, _, h2⟩ := h.turn j hj
  exact h2 _ w' U (Ws.good _ _ _ _ _ _) ⟨ho, h1.2.1, fun i hi => Nat.lt_of_lt_of_le (h1.2.2 i hi) fr.size⟩ (Gw.same h1.2.2 (fr.mono fun i _ e => e ▸ h1.2.1.2))
theorem Things.walkEnd (h : Things W w ts) (j : Nat) (hj : ts[j]? = some (Ws B r n f cnt m)) : Things W w (ts.set j (Ms B n f cnt)) := by
  obtain ⟨U, h1, _, h2⟩ := h.turn j hj
  exact h2 _ w U (Ms.good _ _ _ _) ⟨h1.1.os, h1.2.1.1, h1.2.2⟩ (Gw.same h1.2.2 (Fr.refl _ _))
end
section
variable {w : World} {ops : Array Oper} {rest : List Oper} {o : Oper} {act : Act} {Q : Exit → Act → World → Prop} {B n cnt : Nat} {f : Int → Option (List UInt8)}
theorem wp_range (hgd : o.guard = none) (mo : Operand) (hop : o.op = Op.range 60 mo) (hm : act.eval mo = .map (some B)) (h : Osx w B n f cnt)
    (hK : ∀ w', Rg w' B w.heap.size n f cnt cnt → Fr (fun _ => False) w w' → wpList Tryd.prog ops Q rest (act.put o.dst (.pointer (some ⟨w.heap.size, 0, none⟩))) w') : wpList Tryd.prog ops Q (o :: rest) act w := by
  obtain ⟨D, h1, h2⟩ := h
  refine wpList_range_own w hgd mo 60 hop 3 9 intLaw Tryd.underlying60 _ B n D hm h1 ?_
  intro w' hr hg _
  exact hK w' ⟨D, _, by rw [← h2.2.2]; exact hr, h2, fun x hx => by rw [h2.1 x] at hx; exact hx⟩ ((Fr.refl _ _).grown hg fun k e => by cases e)
theorem wp_drop (hgd : o.guard = none) (mo xo : Operand) (hop : o.op = Op.call { callee := Callee.builtin Builtin.delete, args := #[mo, xo], argTypes := #[60, 3] }) (hm : act.eval mo = .map (some B)) {x : Int} (hx : act.eval xo = .int .i64 x) (hwf : (Lit.int .i64 x).wf = true) (h : Osx w B n f cnt)
    (hK : ∀ w', Osx w' B n (fun y => if y = x then none else f y) (cnt - (if (f x).isSome then 1 else 0)) → Fr (fun i => i = B) w w' → wpList Tryd.prog ops Q rest (act.put o.dst (.tuple #[])) w') : wpList Tryd.prog ops Q (o :: rest) act w := by
  refine wpList_plain hgd fun K' hK' => ?_
  obtain ⟨w', hrun, r1, r2⟩ := h.drop hwf o.type
  unfold Oper.wp
  simp [execOp, hop, resolve, invoke, builtin, hm, hx, hrun, Result.andThen]
  exact hK' _ _ (hK w' r1 r2)
theorem wp_next {r m : Nat} (hgd : o.guard = none) (it : Operand) (hop : o.op = Op.next it false) (hit : act.eval it = .pointer (some ⟨r, 0, none⟩)) (h : Rg w B r n f cnt m)
    (hDone : wpList Tryd.prog ops Q rest (act.put o.dst (.tuple #[.bool false])) w)
    (hMore : ∀ (x : Int) (s : List UInt8) (w' : World) (m' : Nat), f x = some s → Rg w' B r n f cnt m' → m' < m → Fr (fun i => i = r) w w' → (Instr.entry (.pointer (some ⟨r, 0, none⟩))).run Tryd.prog w' = .ok (.tuple #[.int .i64 x, .string ⟨s.toArray⟩]) w' → wpList Tryd.prog ops Q rest (act.put o.dst (.tuple #[.bool true, .int .i64 x, .string ⟨s.toArray⟩])) w') : wpList Tryd.prog ops Q (o :: rest) act w := by
  obtain ⟨D, left, h1, h2, h3⟩ := h
  refine wpList_next_ranges w hgd it hop 3 intLaw (plainElem Tryd.prog 9) (Value.int .i64) Value.string (fun key kl hkey => by obtain ⟨x, rfl, _⟩ := Maps.keyOf_int_inv Tryd.underlying3 hkey; exact ⟨x, rfl⟩) (fun v y hv => by obtain ⟨c, rfl, _⟩ := plainElem_string_inv Tryd.underlying9 hv; exact ⟨c, rfl⟩) B r n D left m hit h1 (fun _ _ => hDone) ?_
  intro x c kl y w' m' hkey hlk hv hat hrg hlt hg _ hen
  obtain ⟨x', ex, rfl, _⟩ := Maps.keyOf_int_inv Tryd.underlying3 hkey
  cases ex
  obtain ⟨c', ec, hy⟩ := plainElem_string_inv Tryd.underlying9 hv
  cases ec
  obtain ⟨s, hs⟩ := Option.isSome_iff_exists.1 (h3 x hlk)
  have e := hat (.lit (.string []))
  rw [h2.2.1 x s hs, hy] at e
  simp only [DataW.lit.injEq, Lit.string.injEq] at e
  have ec : c = ⟨s.toArray⟩ := by rw [e]
  subst ec
  exact hMore x s w' m' hs ⟨D, _, hrg, h2, fun z hz => h3 z (by simp at hz; exact hz.1)⟩ hlt ((Fr.refl _ _).grown hg fun k e => .inl (by simpa using e.symm)) hen
end
end Go.Proofs.YthndakhnhnipnaaDoor
