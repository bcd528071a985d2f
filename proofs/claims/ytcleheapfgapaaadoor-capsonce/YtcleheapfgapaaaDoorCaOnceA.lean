/-
  The law CapsOnce: what it rests on; sets of bits as maps; what it holds in memory.
-/
import Derived.Test.YtcleheapfgapaaaDoorCaOf
import Derived.Maps.Own
import Derived.Maps.OwnOps
import Derived.Maps.OwnSet
import Derived.Maps.Views
import Derived.Maps.RangeWalk
namespace Go.Proofs.YtcleheapfgapaaaDoor
open Go.RowKit

/-- What is so of the handles that were given out, and of those that were revoked. -/
structure Iv (c : Ct) (l ds : List Int) : Prop where
  ok : c.Ok
  known : Known c l
  old : ∀ x ∈ l, ∃ s r n, KR c.T s r n ∧ x = pkB c.T s r n ∧ n < c.nx
  nd : l.Nodup
  sub : ∀ x ∈ ds, x ∈ l
  dead : ∀ x ∈ ds, look c x = none
theorem Iv.start {t : Int} (ht : 0 ≤ t ∧ t ≤ 7) : Iv (newC t 1) [] [] := ⟨newC_ok ⟨ht, by decide⟩, (fun x hx => by cases hx), (fun x hx => by cases hx), List.nodup_nil, (fun x hx => by cases hx), fun x hx => by cases hx⟩
theorem Iv.zero {c c' : Ct} {l ds : List Int} (h : Iv c l ds) (g : Gave c c' 0) : Iv c' l ds := by rw [g.same rfl]; exact h
theorem Iv.gave {c c' : Ct} {v : Int} {l ds : List Int} (h : Iv c l ds) (g : Gave c c' v) (hv : v ≠ 0) : v ∉ l ∧ Iv c' (l ++ [v]) ds := by
  obtain ⟨hn, x, hx, hxn, hk, hm⟩ := g.new hv
  have hnew : v ∉ l := fun hl => by
    obtain ⟨s, r, n, hk2, e, hlt⟩ := h.old v hl
    rw [← hx] at e
    have := (alike hk hk2).1 e
    omega
  have kn := h.known.gave g
  rw [if_neg hv] at kn
  refine ⟨hnew, g.ok, kn, fun z hz => ?_, ?_, fun z hz => List.mem_append.2 (.inl (h.sub z hz)), fun z hz => ?_⟩
  · rw [g.t, hn]
    rcases List.mem_append.1 hz with hz | hz
    · obtain ⟨s, r, n, k1, k2, k3⟩ := h.old z hz
      exact ⟨s, r, n, k1, k2, by omega⟩
    · simp at hz
      subst hz
      exact ⟨x.s, x.r, x.n, hk, hx.symm, by omega⟩
  · rw [List.nodup_append]
    exact ⟨h.nd, by simp, fun a ha b hb => by simp at hb; subst hb; exact fun e => hnew (e ▸ ha)⟩
  · cases hl : look c' z with
    | none => rfl
    | some q =>
      obtain ⟨hq, e⟩ := look_mem hl
      rw [g.t] at e
      rcases (hm q).1 hq with hq | hq
      · exact (look_none (h.dead z hz) q hq e).elim
      · rw [hq, hx] at e
        exact (hnew (e ▸ h.sub z hz)).elim
/-- Those that are good, and at an address. -/
def goneB (c : Ct) (a x : Int) : Bool := match look c x with
  | some s => decide (s.a = a)
  | none => false
def gone (c : Ct) (a : Int) (l : List Int) : List Int := l.filter (goneB c a)
theorem nodup_len : ∀ (l m : List Int), l.Nodup → (∀ x ∈ l, x ∈ m) → l.length ≤ m.length
  | [], m, _, _ => by simp
  | x :: l, m, hn, h => by
    rw [List.nodup_cons] at hn
    have hx := h x (List.mem_cons_self ..)
    have h1 := nodup_len l (m.erase x) hn.2 fun y hy => (List.mem_erase_of_ne (show y ≠ x from fun e => hn.1 (e ▸ hy))).2 (h y (List.mem_cons_of_mem _ hy))
    rw [List.length_erase_of_mem hx] at h1
    have := List.length_pos_of_mem hx
    simp only [List.length_cons]
    omega
theorem Iv.count {c : Ct} {l ds : List Int} (h : Iv c l ds) (a : Int) : rvN c a = (gone c a l).length := by
  have h1 : rvN c a = (c.L.filter fun x => decide (x.a = a)).length := by
    have h2 := List.length_eq_countP_add_countP (l := c.L) (fun x => decide (x.a = a))
    have e : (fun x : Sl => decide (x.a ≠ a)) = fun x => decide (¬ decide (x.a = a) = true) := by funext x; simp
    unfold rvN
    rw [e, ← List.countP_eq_length_filter, ← List.countP_eq_length_filter]
    omega
  rw [h1]
  have e1 : (c.L.filter fun x => decide (x.a = a)).length = ((c.L.filter fun x => decide (x.a = a)).map fun x => x.bits c.T).length := by simp
  rw [e1]
  refine Nat.le_antisymm (nodup_len _ _ ?_ fun y hy => ?_) (nodup_len _ _ (h.nd.filter _) fun y hy => ?_)
  · refine List.pairwise_map.2 (List.pairwise_iff_getElem.2 fun i j hi hj hij e => ?_)
    have hs := List.pairwise_iff_getElem.1 (h.ok.srt.filter fun x => decide (x.a = a)) i j hi hj hij
    have m1 := (List.mem_filter.1 (List.getElem_mem hi)).1
    have m2 := (List.mem_filter.1 (List.getElem_mem hj)).1
    have := (bits_alike h.ok m1 m2 e).1
    omega
  · obtain ⟨x, hx, rfl⟩ := List.mem_map.1 hy
    obtain ⟨hx1, hx2⟩ := List.mem_filter.1 hx
    refine List.mem_filter.2 ⟨h.known x hx1, ?_⟩
    unfold goneB
    rw [look_at h.ok hx1]
    exact hx2
  · obtain ⟨hy1, hy2⟩ := List.mem_filter.1 hy
    unfold goneB at hy2
    cases hl : look c y with
    | none => rw [hl] at hy2; cases hy2
    | some x =>
      rw [hl] at hy2
      obtain ⟨hx, e⟩ := look_mem hl
      exact List.mem_map.2 ⟨x, List.mem_filter.2 ⟨hx, hy2⟩, e⟩
theorem Iv.revoke {c : Ct} {l ds ds' : List Int} (h : Iv c l ds) (a : Int) (hd : ∀ x ∈ ds', x ∈ ds ∨ x ∈ gone c a l) : Iv (rvS c a) l ds' := by
  refine ⟨rvS_ok h.ok a, h.known.revoke a, h.old, h.nd, fun x hx => ?_, fun x hx => ?_⟩
  · rcases hd x hx with k | k
    · exact h.sub x k
    · exact (List.mem_filter.1 k).1
  · cases hl : look (rvS c a) x with
    | none => rfl
    | some q =>
      obtain ⟨hq, e⟩ := look_mem hl
      obtain ⟨hq1, hq2⟩ := List.mem_filter.1 hq
      have e' : q.bits c.T = x := e
      rcases hd x hx with k | k
      · exact (look_none (h.dead x k) q hq1 e').elim
      · have := (List.mem_filter.1 k).2
        unfold goneB at this
        rw [← e', look_at h.ok hq1] at this
        simp at this hq2
        omega
theorem sub_trans {p q r : Int} (h1 : sub p q = true) (h2 : sub q r = true) : sub p r = true := by
  unfold sub at *
  simp only [decide_eq_true_eq] at *
  exact ⟨fun h => h1.1 (h2.1 h), fun h => h1.2.1 (h2.2.1 h), fun h => h1.2.2 (h2.2.2 h)⟩
theorem sub_zero (p : Int) : sub p 0 = true := by unfold sub; simp
/-- A restricted handle has no right that the one it came from hadn't. -/
theorem re_rights {c : Ct} (h : c.Ok) {b q : Int} (he : reE c b q = 0) (k : Int) (hk : fiE (reS c b q) (reV c b q) k = 0) : fiE (reS c b q) b k = 0 := by
  have hg := reS_gave h b q
  unfold reE at he
  cases hl : look c b with
  | none => rw [hl] at he; cases he
  | some x =>
    rw [hl] at he
    simp only at he
    split at he
    · rename_i hq
      split at he
      · rename_i hs
        have hx := look_mem hl
        have hc : c.can 4096 4160 := by
          unfold plE at he
          split at he
          · assumption
          · omega
        have e1 : reS c b q = plS c 4096 4160 q x.a := by unfold reS; rw [hl]; simp only [if_pos hq, hs, if_true]
        have e2 : reV c b q = (c.slot 4096 q x.a).bits c.T := by
          unfold reV; rw [hl]
          simp only [if_pos hq, hs, if_true]
          exact if_pos hc
        obtain ⟨p1, _, _, p4⟩ := plS_yes (r := q) (a := x.a) hc
        have hok := hg.ok
        rw [e1] at hok
        have l1 : look (plS c 4096 4160 q x.a) b = some x := by
          have := look_at hok ((p4 x).2 (.inl hx.1))
          rw [p1, hx.2] at this
          exact this
        have l2 : look (plS c 4096 4160 q x.a) ((c.slot 4096 q x.a).bits c.T) = some (c.slot 4096 q x.a) := by
          have := look_at hok ((p4 _).2 (.inr rfl))
          rw [p1] at this
          exact this
        rw [e1, e2] at hk
        unfold fiE at hk
        rw [l2] at hk
        rw [e1]
        unfold fiE
        rw [l1]
        simp only at hk ⊢
        split at hk
        · rename_i ho
          exact if_pos ⟨ho.1, sub_trans hs ho.2⟩
        · omega
      · omega
    · omega
theorem fi_zero {c : Ct} {x : Int} : (fiE c x 0 = 0 ∧ ∃ s, look c x = some s ∧ fiV c x 0 = s.a) ∨ (fiE c x 0 = 5 ∧ look c x = none) := by
  unfold fiE fiV
  cases hl : look c x with
  | none => exact .inr ⟨rfl, rfl⟩
  | some s => exact .inl ⟨if_pos ⟨by decide, sub_zero _⟩, s, rfl, if_pos ⟨by decide, sub_zero _⟩⟩
/-- A set of bits in a map. -/
theorem u64Law : Maps.Keyed Tryd.prog 32 := Maps.int_keyed Tryd.underlying32
theorem u64_wf {x : Int} (h : 0 ≤ x ∧ x ≤ 18446744073709551615) : (Lit.int .u64 x).wf = true := by
  have e1 : IntKind.u64.min = 0 := by decide
  have e2 : IntKind.u64.max = 18446744073709551615 := by decide
  simp [Lit.wf, e1, e2]
  omega
theorem u64_key {x : Int} (hx : (Lit.int .u64 x).wf = true) : keyOf Tryd.prog 32 (.int .u64 x) = some (.int .u64 x) := by
  unfold keyOf
  rw [Tryd.underlying32]
  simp [mapKey, Tryd.underlying32, hx]
theorem plainElem_bool_inv {H : Type} {P : Program} {e : TypeId} (he : P.underlying e = some .bool) {v : Value} {z : DataW H × List MemPlace} (h : plainElem P e v = some z) : ∃ c, v = .bool c ∧ z = (.lit (.bool c), []) := by
  unfold plainElem at h
  rw [he] at h
  cases v <;> simp at h
  exact ⟨_, rfl, h.symm⟩
theorem zero_bool (w : World) : (zeroValue 4).run Tryd.prog w = .ok (.bool false) w := by kernel_rfl
def Dm (D : DataW Unit) (l : List Int) : Prop := (∀ x : Int, Maps.has D (.int .u64 x) = decide (x ∈ l)) ∧ ∀ x : Int, D.atKey (.int .u64 x) (.lit (.bool false)) = .lit (.bool (decide (x ∈ l)))
/-- In block B lies a map of at most n entries: the set of the bits of l. -/
def Om (w : World) (B n : Nat) (l : List Int) : Prop := ∃ D : DataW Unit, w.ownsMap Tryd.prog 32 (plainElem Tryd.prog 4) B n D ∧ Dm D l
section
variable {w w' : World} {B n : Nat} {l : List Int}
theorem Om.new (w : World) : Om (w.alloc (.map #[] 0)) w.heap.size 0 [] := ⟨_, World.ownsMap_made w _ _ _, fun x => by simp [Maps.has], fun x => by simp; rfl⟩
theorem Om.lt (h : Om w B n l) : B < w.heap.size := by obtain ⟨D, h1, _⟩ := h; exact h1.lt
theorem Om.carry {S : Nat → Prop} (h : Om w B n l) (f : Fr S w w') (hn : ¬ S B) : Om w' B n l := by
  obtain ⟨D, ⟨es, clock, hb, F, hs, hD⟩, h2⟩ := h
  exact ⟨D, ⟨es, clock, by rw [f.block B (Array.getElem?_eq_some_iff.1 hb).1 hn]; exact hb, F, hs, hD⟩, h2⟩
theorem Om.kept (h : Om w B n l) (f : Fr (fun _ => False) w w') : Om w' B n l := h.carry f id
theorem Om.look (h : Om w B n l) {x : Int} (hx : 0 ≤ x ∧ x ≤ 18446744073709551615) : (Instr.lookup 48 (.map (some B)) (.int .u64 x) false).run Tryd.prog w = .ok (.bool (decide (x ∈ l))) w := by
  obtain ⟨D, h1, _, h2⟩ := h
  obtain ⟨v, ps, hrun, hv⟩ := h1.lookup u64Law Tryd.underlying48 (zero_bool w) (plainElem_bool Tryd.underlying4 false) (u64_key (u64_wf hx))
  obtain ⟨c, rfl, hc⟩ := plainElem_bool_inv Tryd.underlying4 hv
  rw [h2 x] at hc
  simp only [Prod.mk.injEq, DataW.lit.injEq, Lit.bool.injEq] at hc
  rw [hrun, hc.1]
theorem Om.store (h : Om w B n l) (hn : n < maxLen) {x : Int} (hx : 0 ≤ x ∧ x ≤ 18446744073709551615) : ∃ w', (Instr.mapUpdate 48 (.map (some B)) (.int .u64 x) (.bool true)).run Tryd.prog w = .ok () w' ∧ Om w' B (n + 1) (x :: l) ∧ Fr (fun i => i = B) w w' := by
  obtain ⟨D, h1, hh, h2⟩ := h
  obtain ⟨w', hrun, h3, hg⟩ := h1.update u64Law Tryd.underlying48 hn (u64_key (u64_wf hx)) (plainElem_bool Tryd.underlying4 true)
  refine ⟨w', hrun, ⟨_, h3, fun y => ?_, fun y => ?_⟩, (Fr.refl _ _).grown hg (fun k e => .inl (by simpa using e.symm))⟩
  · by_cases e : y = x
    · subst e
      rw [Maps.has_put_same h1.isMap (by trivial)]
      simp
    · rw [Maps.has_put_other (by simpa using e), hh y]
      simp [e]
  · by_cases e : y = x
    · subst e
      rw [Maps.atKey_put_same h1.isMap (by trivial)]
      simp
    · rw [Maps.atKey_put_other (by simpa using e), h2 y]
      simp [e]
/-- A walk over such a map under way: what is still to come is of it. -/
def Rg (w : World) (B r n : Nat) (l : List Int) (cnt : Nat) : Prop := ∃ (D : DataW Unit) (left : Lit → Bool), w.ranges Tryd.prog 32 (plainElem Tryd.prog 4) B r n D left cnt ∧ Dm D l ∧ ∀ x : Int, left (.int .u64 x) = true → x ∈ l
theorem Rg.om {r cnt : Nat} (h : Rg w B r n l cnt) : Om w B n l := by obtain ⟨D, left, h1, h2, _⟩ := h; exact ⟨D, h1.owns, h2⟩
theorem Rg.lt {r cnt : Nat} (h : Rg w B r n l cnt) : r < w.heap.size := by obtain ⟨D, left, h1, _⟩ := h; exact h1.lt
theorem Rg.ne {r cnt : Nat} (h : Rg w B r n l cnt) : r ≠ B := by obtain ⟨D, left, h1, _⟩ := h; exact h1.ne
theorem Rg.left {r cnt : Nat} (h : Rg w B r n l cnt) : w.rangeLeft B r = cnt := by obtain ⟨D, left, h1, _⟩ := h; exact h1.left_eq
theorem Rg.carry {S : Nat → Prop} {r cnt : Nat} (h : Rg w B r n l cnt) (f : Fr S w w') (h1 : ¬ S B) (h2 : ¬ S r) : Rg w' B r n l cnt := by
  have hl := h.lt
  have ho := h.om.lt
  obtain ⟨D, left, ⟨es, clock, since, seen, c0, hb, F, hs, hD, hr, rest⟩, h3⟩ := h
  exact ⟨D, left, ⟨es, clock, since, seen, c0, (f.block B ho h1).trans hb, F, hs, hD, (f.block r hl h2).trans hr, rest⟩, h3⟩
end
section
variable {w : World} {ops : Array Oper} {rest : List Oper} {o : Oper} {act : Act} {Q : Exit → Act → World → Prop} {B n : Nat} {l : List Int}
theorem wp_range (hgd : o.guard = none) (m : Operand) (hop : o.op = Op.range 48 m) (hm : act.eval m = .map (some B)) (h : Om w B n l)
    (hK : ∀ w' cnt, Rg w' B w.heap.size n l cnt → Fr (fun _ => False) w w' → wpList Tryd.prog ops Q rest (act.put o.dst (.pointer (some ⟨w.heap.size, 0, none⟩))) w') : wpList Tryd.prog ops Q (o :: rest) act w := by
  obtain ⟨D, h1, h2⟩ := h
  refine wpList_range_own w hgd m 48 hop 32 4 u64Law Tryd.underlying48 _ B n D hm h1 ?_
  intro w' hr hg _
  exact hK w' _ ⟨D, _, hr, h2, fun x hx => by rw [h2.1 x] at hx; simpa using hx⟩ ((Fr.refl _ _).grown hg fun k e => by cases e)
theorem wp_next {r cnt : Nat} (hgd : o.guard = none) (it : Operand) (hop : o.op = Op.next it false) (hit : act.eval it = .pointer (some ⟨r, 0, none⟩)) (h : Rg w B r n l cnt)
    (hDone : wpList Tryd.prog ops Q rest (act.put o.dst (.tuple #[.bool false])) w)
    (hMore : ∀ (x : Int) (b : Bool) (w' : World) (cnt' : Nat), x ∈ l → Rg w' B r n l cnt' → cnt' < cnt → Fr (fun i => i = r) w w' → (Instr.entry (.pointer (some ⟨r, 0, none⟩))).run Tryd.prog w' = .ok (.tuple #[.int .u64 x, .bool b]) w' → wpList Tryd.prog ops Q rest (act.put o.dst (.tuple #[.bool true, .int .u64 x, .bool b])) w') : wpList Tryd.prog ops Q (o :: rest) act w := by
  obtain ⟨D, left, h1, h2, h3⟩ := h
  refine wpList_next_ranges w hgd it hop 32 u64Law (plainElem Tryd.prog 4) (Value.int .u64) Value.bool (fun key kl hkey => by obtain ⟨x, rfl, _⟩ := Maps.keyOf_int_inv Tryd.underlying32 hkey; exact ⟨x, rfl⟩) (fun v y hv => by obtain ⟨c, rfl, _⟩ := plainElem_bool_inv Tryd.underlying4 hv; exact ⟨c, rfl⟩) B r n D left cnt hit h1 (fun _ _ => hDone) ?_
  intro x b kl y w' cnt' hkey hlk _ _ hrg hlt hg _ hen
  obtain ⟨x', ex, rfl, _⟩ := Maps.keyOf_int_inv Tryd.underlying32 hkey
  cases ex
  exact hMore x b w' cnt' (h3 x hlk) ⟨D, _, hrg, h2, fun z hz => h3 z (by simp at hz; exact hz.1)⟩ hlt ((Fr.refl _ _).grown hg fun k e => .inl (by simpa using e.symm)) hen
end
end Go.Proofs.YtcleheapfgapaaaDoor
