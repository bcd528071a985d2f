/-
  A table of numbers by numbers (map[int]int) that the call, or an object, owns: looked up, stored, deleted, counted, walked over.
-/
import Derived.Test.YtcajdbklchjkkaaSeen
import Derived.Maps.OwnSet
import Derived.Maps.RangeWalk
namespace Go.Proofs.Ytcajdbklchjkkaa
open Go.RowKit

theorem zero_int (w : World) : (zeroValue 3).run Try.prog w = .ok (.int .i64 0) w := by kernel_rfl
/-- What such a table reads as. -/
def Di (D : DataW Unit) (f : Int → Option Int) (cnt : Nat) : Prop := (∀ x : Int, Maps.has D (.int .i64 x) = (f x).isSome) ∧ (∀ x : Int, D.atKey (.int .i64 x) (.lit (.int .i64 0)) = .lit (.int .i64 ((f x).getD 0))) ∧ Maps.size D = cnt
/-- In block B lies such a table, of cnt entries. -/
def Oi (w : World) (B n : Nat) (f : Int → Option Int) (cnt : Nat) : Prop := ∃ D : DataW Unit, w.ownsMap Try.prog 3 (plainElem Try.prog 3) B n D ∧ Di D f cnt
section
variable {w w' : World} {B n cnt : Nat} {f : Int → Option Int}
theorem Oi.new (w : World) : Oi (w.alloc (.map #[] 0)) w.heap.size 0 (fun _ => none) 0 := ⟨_, World.ownsMap_made w _ _ _, fun x => by simp [Maps.has], fun x => by simp; rfl, rfl⟩
theorem Oi.lt (h : Oi w B n f cnt) : B < w.heap.size := by obtain ⟨D, h1, _⟩ := h; exact h1.lt
theorem Oi.carry {S : Nat → Prop} (h : Oi w B n f cnt) (fr : Fr S w w') (hn : ¬ S B) : Oi w' B n f cnt := by
  obtain ⟨D, ⟨es, clock, hb, F, hs, hD⟩, h2⟩ := h
  exact ⟨D, ⟨es, clock, by rw [fr.block B (Array.getElem?_eq_some_iff.1 hb).1 hn]; exact hb, F, hs, hD⟩, h2⟩
theorem Oi.same {g : Int → Option Int} (h : Oi w B n f cnt) (e : ∀ x, f x = g x) : Oi w B n g cnt := by
  have : f = g := funext e
  rw [← this]; exact h
theorem Oi.look (h : Oi w B n f cnt) {x : Int} (hx : (Lit.int .i64 x).wf = true) : (Instr.lookup 73 (.map (some B)) (.int .i64 x) false).run Try.prog w = .ok (.int .i64 ((f x).getD 0)) w := by
  obtain ⟨D, h1, h2⟩ := h
  obtain ⟨v, ps, hrun, hv⟩ := h1.lookup intLaw Try.underlying73 (zero_int w) (plainElem_int Try.underlying3 (by decide)) (int_key hx)
  obtain ⟨c, rfl, hc⟩ := plainElem_int_inv Try.underlying3 hv
  rw [h2.2.1 x] at hc
  simp only [Prod.mk.injEq, DataW.lit.injEq, Lit.int.injEq] at hc
  rw [hrun, hc.1.1.2]
theorem Oi.lookOk (h : Oi w B n f cnt) {x : Int} (hx : (Lit.int .i64 x).wf = true) : (Instr.lookup 73 (.map (some B)) (.int .i64 x) true).run Try.prog w = .ok (.tuple #[.int .i64 ((f x).getD 0), .bool (f x).isSome]) w := by
  obtain ⟨D, h1, h2⟩ := h
  obtain ⟨v, ps, hrun, hv⟩ := h1.look_ok intLaw Try.underlying73 (zero_int w) (plainElem_int Try.underlying3 (by decide)) (int_key hx)
  obtain ⟨c, rfl, hc⟩ := plainElem_int_inv Try.underlying3 hv
  rw [h2.2.1 x] at hc
  simp only [Prod.mk.injEq, DataW.lit.injEq, Lit.int.injEq] at hc
  rw [hrun, hc.1.1.2, h2.1 x]
theorem Oi.len (h : Oi w B n f cnt) (ty : TypeId) : (Builtin.len_ #[73] ty #[.map (some B)]).run Try.prog w = .ok (.int .i64 cnt) w := by
  obtain ⟨D, h1, h2⟩ := h
  rw [h1.len Try.underlying73 ty, h2.2.2]
theorem Oi.store (h : Oi w B n f cnt) (hn : n < maxLen) {x y : Int} (hx : (Lit.int .i64 x).wf = true) (hy : (Lit.int .i64 y).wf = true) : ∃ w', (Instr.mapUpdate 73 (.map (some B)) (.int .i64 x) (.int .i64 y)).run Try.prog w = .ok () w' ∧ Oi w' B (n + 1) (fun z => if z = x then some y else f z) (if (f x).isSome then cnt else cnt + 1) ∧ Fr (fun i => i = B) w w' := by
  obtain ⟨D, h1, h2⟩ := h
  obtain ⟨w', hrun, h3, hg⟩ := h1.update intLaw Try.underlying73 hn (int_key hx) (plainElem_int Try.underlying3 hy)
  refine ⟨w', hrun, ⟨_, h3, fun z => ?_, fun z => ?_, ?_⟩, (Fr.refl _ _).grown hg (fun k e => .inl (by simpa using e.symm))⟩
  · dsimp only
    by_cases e : z = x
    · subst e; rw [Maps.has_put_same h1.isMap (by trivial), if_pos rfl]; rfl
    · rw [Maps.has_put_other (by simpa using e), h2.1 z, if_neg e]
  · dsimp only
    by_cases e : z = x
    · subst e
      rw [if_pos rfl, Maps.atKey_put_same h1.isMap (by trivial)]
      rfl
    · rw [if_neg e, Maps.atKey_put_other (by simpa using e), h2.2.1 z]
  · rw [Maps.size_put (h1.tidy intLaw), h2.1 x, h2.2.2]
theorem Oi.drop (h : Oi w B n f cnt) {x : Int} (hx : (Lit.int .i64 x).wf = true) (ty : TypeId) : ∃ w', (Builtin.delete_ #[73, 3] ty #[.map (some B), .int .i64 x]).run Try.prog w = .ok (.tuple #[]) w' ∧ Oi w' B n (fun z => if z = x then none else f z) (cnt - (if (f x).isSome then 1 else 0)) ∧ Fr (fun i => i = B) w w' := by
  obtain ⟨D, h1, h2⟩ := h
  obtain ⟨w', hrun, h3, hg⟩ := h1.drop intLaw Try.underlying73 (int_key hx) ty
  refine ⟨w', hrun, ⟨_, h3, fun z => ?_, fun z => ?_, ?_⟩, (Fr.refl _ _).grown hg.grown (fun k e => .inl (by simpa using e.symm))⟩
  · dsimp only
    by_cases e : z = x
    · subst e; rw [Maps.has_del_same, if_pos rfl]; rfl
    · rw [Maps.has_del_other (by simpa using e), h2.1 z, if_neg e]
  · dsimp only
    by_cases e : z = x
    · subst e
      rw [if_pos rfl]
      have hh : Maps.has (D.del (.int .i64 z)) (.int .i64 z) = false := Maps.has_del_same
      rw [Maps.atKey_del_same]
      rfl
    · rw [if_neg e, Maps.atKey_del_other (by simpa using e), h2.2.1 z]
  · have := Maps.size_del (k := .int .i64 x) (h1.tidy intLaw)
    rw [h2.1 x, h2.2.2] at this
    omega
/-- A walk over it under way: m entries are left. -/
def Ri (w : World) (B r n : Nat) (f : Int → Option Int) (cnt m : Nat) (lf : Int → Bool) : Prop := ∃ (D : DataW Unit) (left : Lit → Bool), w.ranges Try.prog 3 (plainElem Try.prog 3) B r n D left m ∧ Di D f cnt ∧ (∀ x : Int, left (.int .i64 x) = lf x) ∧ ∀ x : Int, lf x = true → (f x).isSome = true
theorem Ri.oi {r m : Nat} {lf : Int → Bool} (h : Ri w B r n f cnt m lf) : Oi w B n f cnt := by obtain ⟨D, left, h1, h2, _⟩ := h; exact ⟨D, h1.owns, h2⟩
theorem Ri.lt {r m : Nat} {lf : Int → Bool} (h : Ri w B r n f cnt m lf) : r < w.heap.size := by obtain ⟨D, left, h1, _⟩ := h; exact h1.lt
theorem Ri.left {r m : Nat} {lf : Int → Bool} (h : Ri w B r n f cnt m lf) : w.rangeLeft B r = m := by obtain ⟨D, left, h1, _⟩ := h; exact h1.left_eq
theorem Ri.carry {S : Nat → Prop} {r m : Nat} {lf : Int → Bool} (h : Ri w B r n f cnt m lf) (fr : Fr S w w') (h1 : ¬ S B) (h2 : ¬ S r) : Ri w' B r n f cnt m lf := by
  have hl := h.lt
  have ho := h.oi.lt
  obtain ⟨D, left, ⟨es, clock, since, seen, c0, hb, F, hs, hD, hr, rest⟩, h3⟩ := h
  exact ⟨D, left, ⟨es, clock, since, seen, c0, (fr.block B ho h1).trans hb, F, hs, hD, (fr.block r hl h2).trans hr, rest⟩, h3⟩
end
section
variable {w : World} {ops : Array Oper} {rest : List Oper} {o : Oper} {act : Act} {Q : Exit → Act → World → Prop} {B n cnt : Nat} {f : Int → Option Int}
theorem wp_rangeI (hgd : o.guard = none) (mo : Operand) (hop : o.op = Op.range 73 mo) (hm : act.eval mo = .map (some B)) (h : Oi w B n f cnt)
    (hK : ∀ w', Ri w' B w.heap.size n f cnt cnt (fun x => (f x).isSome) → Fr (fun _ => False) w w' → wpList Try.prog ops Q rest (act.put o.dst (.pointer (some ⟨w.heap.size, 0, none⟩))) w') : wpList Try.prog ops Q (o :: rest) act w := by
  obtain ⟨D, h1, h2⟩ := h
  refine wpList_range_own w hgd mo 73 hop 3 3 intLaw Try.underlying73 _ B n D hm h1 ?_
  intro w' hr hg _
  exact hK w' ⟨D, _, by rw [← h2.2.2]; exact hr, h2, fun x => h2.1 x, fun x hx => hx⟩ ((Fr.refl _ _).grown hg fun k e => by cases e)
theorem wp_dropI (hgd : o.guard = none) (mo xo : Operand) (hop : o.op = Op.call { callee := Callee.builtin Builtin.delete, args := #[mo, xo], argTypes := #[73, 3] }) (hm : act.eval mo = .map (some B)) {x : Int} (hx : act.eval xo = .int .i64 x) (hwf : (Lit.int .i64 x).wf = true) (h : Oi w B n f cnt)
    (hK : ∀ w', Oi w' B n (fun y => if y = x then none else f y) (cnt - (if (f x).isSome then 1 else 0)) → Fr (fun i => i = B) w w' → wpList Try.prog ops Q rest (act.put o.dst (.tuple #[])) w') : wpList Try.prog ops Q (o :: rest) act w := by
  refine wpList_plain hgd fun K' hK' => ?_
  obtain ⟨w', hrun, r1, r2⟩ := h.drop hwf o.type
  unfold Oper.wp
  simp [execOp, hop, resolve, invoke, builtin, hm, hx, hrun, Result.andThen]
  exact hK' _ _ (hK w' r1 r2)
theorem wp_nextI {r m : Nat} {lf : Int → Bool} (hgd : o.guard = none) (it : Operand) (hop : o.op = Op.next it false) (hit : act.eval it = .pointer (some ⟨r, 0, none⟩)) (h : Ri w B r n f cnt m lf)
    (hDone : (∀ x, lf x = false) → wpList Try.prog ops Q rest (act.put o.dst (.tuple #[.bool false])) w)
    (hMore : ∀ (x y : Int) (w' : World) (m' : Nat), f x = some y → lf x = true → Ri w' B r n f cnt m' (fun z => lf z && decide (z ≠ x)) → m' < m → Fr (fun i => i = r) w w' → (Instr.entry (.pointer (some ⟨r, 0, none⟩))).run Try.prog w' = .ok (.tuple #[.int .i64 x, .int .i64 y]) w' → wpList Try.prog ops Q rest (act.put o.dst (.tuple #[.bool true, .int .i64 x, .int .i64 y])) w') : wpList Try.prog ops Q (o :: rest) act w := by
  obtain ⟨D, left, h1, h2, h3, h4⟩ := h
  refine wpList_next_ranges w hgd it hop 3 intLaw (plainElem Try.prog 3) (Value.int .i64) (Value.int .i64) (fun key kl hkey => by obtain ⟨x, rfl, _⟩ := Maps.keyOf_int_inv Try.underlying3 hkey; exact ⟨x, rfl⟩) (fun v y hv => by obtain ⟨c, rfl, _⟩ := plainElem_int_inv Try.underlying3 hv; exact ⟨c, rfl⟩) B r n D left m hit h1 (fun _ hall => hDone fun x => by rw [← h3 x]; exact hall _) ?_
  intro x c kl y w' m' hkey hlk hv hat hrg hlt hg _ hen
  obtain ⟨x', ex, rfl, _⟩ := Maps.keyOf_int_inv Try.underlying3 hkey
  cases ex
  obtain ⟨c', ec, hy⟩ := plainElem_int_inv Try.underlying3 hv
  cases ec
  have hl : lf x = true := by rw [← h3 x]; exact hlk
  obtain ⟨s, hs⟩ := Option.isSome_iff_exists.1 (h4 x hl)
  have e := hat (.lit (.int .i64 0))
  rw [h2.2.1 x, hs, hy.1] at e
  simp only [DataW.lit.injEq, Lit.int.injEq, Option.getD_some] at e
  obtain rfl : s = c := e.2
  refine hMore x s w' m' hs hl ⟨D, _, hrg, h2, fun z => ?_, fun z hz => h4 z (by simp at hz; exact hz.1)⟩ hlt ((Fr.refl _ _).grown hg fun k e => .inl (by simpa using e.symm)) hen
  dsimp only
  rw [h3 z]
  by_cases ez : z = x
  · subst ez; simp [Lit.sameKey]
  · have : (Lit.int IntKind.i64 z).sameKey (Lit.int IntKind.i64 x) = false := by simpa [Lit.sameKey] using ez
    rw [this]
    simp [ez]
/-- As a thing by itself. -/
def Mi (B n : Nat) (f : Int → Option Int) (cnt : Nat) (w : World) (Z : Nat → Prop) : Prop := Oi w B n f cnt ∧ Z B ∧ ∀ i, Z i → i < w.heap.size
theorem Mi.good (B n : Nat) (f : Int → Option Int) (cnt : Nat) : Good (Mi B n f cnt) :=
  ⟨fun h fr hs => ⟨h.1.carry fr (hs _ h.2.1), h.2.1, fun i hi => Nat.lt_of_lt_of_le (h.2.2 i hi) fr.size⟩, fun h h1 h2 => ⟨h.1, h1 _ h.2.1, h2⟩⟩
end
theorem Oi.tight {w : World} {B n cnt : Nat} {f : Int → Option Int} (h : Oi w B n f cnt) : Oi w B cnt f cnt := by
  obtain ⟨D, ⟨es, clock, hb, F, hs, hD⟩, h2⟩ := h
  refine ⟨D, ⟨es, clock, hb, F, ?_, hD⟩, h2⟩
  have := h2.2.2
  subst hD
  rw [← this]
  show es.size ≤ List.length _
  rw [length_read]
  exact Nat.le_refl _
theorem Oi.count {w : World} {B n cnt cnt' : Nat} {f : Int → Option Int} (h : Oi w B n f cnt) (e : cnt = cnt') : Oi w B cnt' f cnt' := e ▸ h.tight
end Go.Proofs.Ytcajdbklchjkkaa
