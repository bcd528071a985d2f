/-
  Handles that were given out: a row of the call's own; which one a call takes.
-/
import Derived.Test.YtcleheapfgapaaaDoorCaMany
import Derived.Test.YtcleheapfgapaaaDoorCaOpen
import Derived.Laws.Bits64b
namespace Go.Proofs.YtcleheapfgapaaaDoor
open Go.RowKit

def uc (l : List Int) : List Value := l.map fun x => Value.int .u64 x
theorem uc_length (l : List Int) : (uc l).length = l.length := by simp [uc]
theorem u64_info : ∃ i, Tryd.prog.info? 32 = some i ∧ i.zero = some (.int .u64 0) ∧ i.size = 1 ∧ i.bytes = 8 := by
  have h : (Tryd.prog.info? 32).map (fun i => (i.zero, i.size, i.bytes)) = some (some (.int .u64 0), 1, 8) := by kernel_rfl
  cases hq : Tryd.prog.info? 32 with
  | none => rw [hq] at h; cases h
  | some i =>
    rw [hq] at h
    simp only [Option.map_some, Option.some.injEq, Prod.mk.injEq] at h
    exact ⟨i, rfl, h.1, h.2.1, h.2.2⟩
/-- Bits, each a word's. -/
abbrev Wd (l : List Int) : Prop := ∀ x ∈ l, 0 ≤ x ∧ x ≤ 18446744073709551615
/-- A row of bits of the call's own, that lies in no block of Z. -/
structure Gv (W w : World) (Z : Nat → Prop) (y : Value) (l : List Int) : Prop where
  row : w.ownsRow W.heap.size 32 1 y l.length (uc l)
  off : ∀ g, y.ownBlock = some g → ¬ Z g
  wd : Wd l
section
variable {W w w' : World} {Z Z' : Nat → Prop} {y : Value} {l : List Int}
theorem Gv.fresh (W w : World) (Z : Nat → Prop) : Gv W w Z (.slice none 0 0) [] := ⟨World.ownsRow_nil _ _ _ _, (fun g e => by cases e), fun x hx => by cases hx⟩
theorem Gv.on (h : Gv W w Z y l) (f : Fr Z w w') (hz : ∀ i, Z' i → Z i ∨ w.heap.size ≤ i) : Gv W w' Z' y l :=
  ⟨own_carry h.row f h.off, fun g e hg => by
    rcases hz g hg with k | k
    · exact h.off g e k
    · have := (h.row.lt g e).2; omega, h.wd⟩
theorem Gv.kept (h : Gv W w Z y l) (f : Fr (fun _ => False) w w') : Gv W w' Z y l := ⟨own_carry h.row f fun _ _ => id, h.off, h.wd⟩
theorem Gv.alloc (h : Gv W w Z y l) (o : Obj) : Gv W (w.alloc o) Z y l := h.kept ((Fr.refl _ _).alloc o)
/-- What the slice says. -/
theorem Gv.form (h : Gv W w Z y l) : ∃ ad cap, y = .slice ad l.length cap ∧ ∀ i (hi : i < l.length), ∃ g, ad = some ⟨g, 0, none⟩ ∧ w.cell? ⟨g, i, none⟩ = some (.int .u64 l[i]) := by
  rcases h.row.2 with ⟨e1, e2⟩ | ⟨g, cap, cur, e1, hb, hc, h3, _⟩
  · exact ⟨none, 0, by rw [e2]; exact e1, fun i hi => by omega⟩
  · refine ⟨_, cap, e1, fun i hi => ⟨g, rfl, ?_⟩⟩
    have := h.row.cells (g := g) (by rw [e1]; rfl) i (.int .u64 l[i]) (by simp [uc, hi])
    rwa [add_plain, Nat.zero_add] at this
end
theorem xor_range {a b : Int} (ha : 0 ≤ a ∧ a ≤ 18446744073709551615) (hb : 0 ≤ b ∧ b ≤ 18446744073709551615) : 0 ≤ Go.bits .xor .u64 a b ∧ Go.bits .xor .u64 a b ≤ 18446744073709551615 := by
  obtain ⟨x, rfl⟩ : ∃ x : Nat, a = (x : Int) := ⟨a.toNat, by omega⟩
  obtain ⟨z, rfl⟩ : ∃ z : Nat, b = (z : Int) := ⟨b.toNat, by omega⟩
  have h := Nat.xor_lt_two_pow (n := 64) (x := x) (y := z) (by omega) (by omega)
  rw [bits_xor_u64_nat x z (by omega) (by omega)]
  omega
/-- A call of a script in a block of its own. -/
structure Ob (w : World) (B : Nat) (k a r p t : Int) : Prop where
  heap : w.heap[B]? = some (.cells #[.int .i64 k, .int .i64 a, .int .i64 r, .int .i64 p, .int .u64 t] 34 (0, 0))
section
variable {w w' : World} {B : Nat} {k a r p t : Int}
theorem Ob.new (w : World) (k a r p t : Int) : Ob (w.alloc (.cells #[.int .i64 k, .int .i64 a, .int .i64 r, .int .i64 p, .int .u64 t] 34)) w.heap.size k a r p t := ⟨heap_alloc_new _ _⟩
theorem Ob.lt (h : Ob w B k a r p t) : B < w.heap.size := (Array.getElem?_eq_some_iff.1 h.heap).1
theorem Ob.carry {S : Nat → Prop} (h : Ob w B k a r p t) (f : Fr S w w') (hn : ¬ S B) : Ob w' B k a r p t := ⟨by rw [f.block B h.lt hn]; exact h.heap⟩
theorem Ob.kept (h : Ob w B k a r p t) (f : Fr (fun _ => False) w w') : Ob w' B k a r p t := h.carry f id
theorem Ob.c0 (h : Ob w B k a r p t) : w.cell? ⟨B, 0, none⟩ = some (.int .i64 k) := by simp [World.cell?, h.heap]
theorem Ob.c1 (h : Ob w B k a r p t) : w.cell? ⟨B, 1, none⟩ = some (.int .i64 a) := by simp [World.cell?, h.heap]
theorem Ob.c2 (h : Ob w B k a r p t) : w.cell? ⟨B, 2, none⟩ = some (.int .i64 r) := by simp [World.cell?, h.heap]
theorem Ob.c3 (h : Ob w B k a r p t) : w.cell? ⟨B, 3, none⟩ = some (.int .i64 p) := by simp [World.cell?, h.heap]
theorem Ob.c4 (h : Ob w B k a r p t) : w.cell? ⟨B, 4, none⟩ = some (.int .u64 t) := by simp [World.cell?, h.heap]
end
/-- An answer that is some word. -/
def Wo (e : Ending) : Prop := ∃ h : Int, e = .returned (.int .u64 h) ∧ 0 ≤ h ∧ h ≤ 18446744073709551615
theorem of_any {W w : World} {Z : Nat → Prop} {y : Value} {l : List Int} (h : Gv W w Z y l) (hl : l.length ≤ 1000) (k a r p : Int) {t : Int} (ht : 0 ≤ t ∧ t ≤ 18446744073709551615) : Calls Tryd.prog 12 #[y, .agg #[.int .i64 k, .int .i64 a, .int .i64 r, .int .i64 p, .int .u64 t]] w fun e w' => Wo e ∧ Fr (fun _ => False) w w' := by
  obtain ⟨ad, cap, rfl, hc⟩ := (h.alloc (.cells #[.int .i64 k, .int .i64 a, .int .i64 r, .int .i64 p, .int .u64 t] 34)).form
  have o3 := (Ob.new w k a r p t).c3
  have o4 := (Ob.new w k a r p t).c4
  by_cases h0 : l.length = 0
  · rw [h0]
    clear h0 hc hl h
    go_enter Tryd.func12, Tryd.ntmps12
    go_wp2
    go_ret
    exact ⟨⟨t, by simp, ht⟩, (Fr.refl _ _).alloc _⟩
  · obtain ⟨n, hn, hnl⟩ := modu p l.length l.length rfl (by omega) (by omega)
    obtain ⟨g, rfl, hg⟩ := hc n hnl
    have hx := xor_range (h.wd _ (List.getElem_mem hnl)) ht
    clear h hc
    generalize l[n] = x at *
    generalize l.length = m at *
    have hb : ((m : Int) == 0) = false := by simp; omega
    have hw0 : IntKind.u64.wrap (m : Int) = (m : Int) := by rw [IntKind.wrap_u64]; omega
    have HX := hid hx
    have HT := hid ht
    clear hx ht
    generalize hbx : Go.bits .xor .u64 x t = bx at *
    go_enter Tryd.func12, Tryd.ntmps12
    go_wp2
    go_quiet (simp only [hw0, hn, hbx])
    go_wp2
    go_ret
    exact ⟨⟨bx, by simp, HX.out⟩, ((Fr.refl _ _).alloc _).drewN nq⟩
/-- One more is put behind them. -/
theorem push_g {W w : World} {ops : Array Oper} {rest : List Oper} {o : Oper} {act : Act} {Q : Exit → Act → World → Prop} (hgd : o.guard = none) (s x : Operand)
    (ho : o.op = .call { callee := .builtin .append, args := #[s, x], argTypes := #[31, 31] }) {Z : Nat → Prop} {y : Value} {l : List Int} {z : Int} {a : Nat} {c : Ct}
    (hG : Gv W w Z y l) (hK : Kn W w a Z c) (hz : 0 ≤ z ∧ z ≤ 18446744073709551615) (hl : l.length < 100000) (hs : act.eval s = y) (hx : act.eval x = .slice (some ⟨w.heap.size, 0, none⟩) 1 1)
    (h : ∀ g cap w', Gv W w' Z (.slice (some ⟨g, 0, none⟩) (l.length + 1) cap) (l ++ [z]) → Kn W w' a Z c → Fr (fun k => y.ownBlock = some k) w w' → (y.ownBlock = some g ∨ w.heap.size ≤ g) → wpList Tryd.prog ops Q rest (act.put o.dst (.slice (some ⟨g, 0, none⟩) (l.length + 1) cap)) w') : wpList Tryd.prog ops Q (o :: rest) act (w.alloc (.cells #[.int .u64 z] 32)) := by
  obtain ⟨i0, hi, hz0, hz1, hz2⟩ := u64_info
  refine wpList_append_sep hgd s x 31 ho W.heap.size 32 i0 (.int .u64 0) 1 8 Tryd.underlying31 hi hz0 hz1 hz2 rfl (by decide) y l.length (uc l) hs (hG.alloc _).row ⟨w.heap.size, 0, none⟩ 1 1 (by decide) [.int .u64 z] hx rfl ?_ ?_ (by unfold maxLen; omega) (by omega) (by have := hK.nw.le; simp; omega) ?_
  · intro j u hj
    match j, hj with
    | 0, hj => simp at hj; subst hj; simp [Addr.add]
  · intro u hu; simp at hu; subst hu; rfl
  · intro g cap w' hown hg hsep
    have f : Fr (fun k => y.ownBlock = some k) w w' := ((Fr.refl _ w).alloc _).grown hg fun k e => .inl e
    refine h g cap w' ⟨?_, fun g' e hg' => ?_, fun v hv => ?_⟩ (hK.other f fun i e => ⟨(hG.row.lt i e).1, hG.off i e⟩) f (by
      rcases hsep with e | e
      · exact .inl e
      · exact .inr (by simp at e; omega))
    · rw [show uc (l ++ [z]) = uc l ++ [.int .u64 z] by simp [uc], List.length_append]
      exact hown
    · simp only [Value.ownBlock, Option.some.injEq] at e
      subst e
      rcases hsep with e | e
      · exact hG.off g e hg'
      · have := hK.m.zlt g hg'; simp at e; omega
    · rcases List.mem_append.1 hv with hv | hv
      · exact hG.wd v hv
      · simp at hv; subst hv; exact hz
/-- What is put into a table, and what is given out for it. -/
theorem pkB_pos {t s r n : Int} (h : KR t s r n) : 0 < pkB t s r n := by rw [pkB_yes h]; unfold KR at h; omega
theorem plV_range {c : Ct} {lo hi r : Int} : 0 ≤ plV c lo hi r ∧ plV c lo hi r ≤ 18446744073709551615 := by
  unfold plV
  split
  · exact pkB_range _ _ _ _
  · decide
theorem grV_range {c : Ct} {x : Int} : 0 ≤ grV c x ∧ grV c x ≤ 18446744073709551615 := by
  unfold grV
  split
  · decide
  · exact plV_range
theorem reV_range {c : Ct} {b r : Int} : 0 ≤ reV c b r ∧ reV c b r ≤ 18446744073709551615 := by
  unfold reV
  split
  · split
    · split
      · exact plV_range
      · decide
    · decide
  · decide
theorem plS_mem {c : Ct} (h : c.Ok) {lo hi r a : Int} (hlo : 0 ≤ lo) (hhi : hi ≤ 4160) (hr : 1 ≤ r ∧ r ≤ 7) : (plS c lo hi r a).T = c.T ∧ ((plV c lo hi r = 0 ∧ plS c lo hi r a = c) ∨ (plV c lo hi r ≠ 0 ∧ plE c lo hi = 0 ∧ plV c lo hi r = (c.slot lo r a).bits c.T ∧ (plS c lo hi r a).nx = c.nx + 1 ∧ (c.slot lo r a).n = c.nx ∧ KR c.T (c.slot lo r a).s r c.nx ∧ ∀ x, x ∈ (plS c lo hi r a).L ↔ x ∈ c.L ∨ x = c.slot lo r a)) := by
  by_cases hc : c.can lo hi
  · obtain ⟨p1, p2, p3, p4⟩ := plS_yes (r := r) (a := a) hc
    have hk := h.slot_ok hlo hhi hr hc
    have e : plV c lo hi r = (c.slot lo r a).bits c.T := if_pos hc
    refine ⟨p1, .inr ⟨?_, if_pos hc, e, p2, rfl, hk, p4⟩⟩
    rw [e]
    have := pkB_pos hk
    unfold Sl.bits
    show pkB c.T (scan c.L lo).2 r c.nx ≠ 0
    omega
  · have e : plS c lo hi r a = c := if_neg hc
    exact ⟨by rw [e], .inl ⟨if_neg hc, e⟩⟩
/-- What a call leaves: its slots are those that were, and what it gave out. -/
structure Gave (c c' : Ct) (v : Int) : Prop where
  ok : c'.Ok
  t : c'.T = c.T
  same : v = 0 → c' = c
  new : v ≠ 0 → c'.nx = c.nx + 1 ∧ ∃ x : Sl, x.bits c.T = v ∧ x.n = c.nx ∧ KR c.T x.s x.r x.n ∧ ∀ y, y ∈ c'.L ↔ y ∈ c.L ∨ y = x
theorem plS_gave {c : Ct} (h : c.Ok) {lo hi r a : Int} (hlo : 0 ≤ lo) (hhi : hi ≤ 4160) (hr : 1 ≤ r ∧ r ≤ 7) (ha : 0 ≤ a) : Gave c (plS c lo hi r a) (plV c lo hi r) := by
  obtain ⟨h1, h2⟩ := plS_mem h (a := a) hlo hhi hr
  refine ⟨plS_ok h hlo hhi hr ha, h1, fun e => ?_, fun e => ?_⟩
  · rcases h2 with ⟨_, h2⟩ | ⟨h2, _⟩
    · exact h2
    · exact (h2 e).elim
  · rcases h2 with ⟨h2, _⟩ | ⟨_, _, h3, h4, h5, h6, h7⟩
    · exact (e h2).elim
    · exact ⟨h4, c.slot lo r a, h3.symm, h5, h6, h7⟩
theorem none_gave {c : Ct} (h : c.Ok) : Gave c c 0 := ⟨h, rfl, fun _ => rfl, fun e => (e rfl).elim⟩
theorem grS_gave {c : Ct} (h : c.Ok) (x : Int) : Gave c (grS c x) (grV c x) := by
  unfold grS grV
  split
  · exact none_gave h
  · exact plS_gave h (by omega) (by omega) (by omega) (by omega)
theorem reS_gave {c : Ct} (h : c.Ok) (b r : Int) : Gave c (reS c b r) (reV c b r) := by
  unfold reS reV
  split
  · rename_i x hx
    split
    · rename_i hr
      split
      · exact plS_gave h (by omega) (by omega) hr (h.kr x (look_mem hx).1).2.2
      · exact none_gave h
    · exact none_gave h
  · exact none_gave h
/-- All that is good was given out. -/
def Known (c : Ct) (l : List Int) : Prop := ∀ x ∈ c.L, x.bits c.T ∈ l
theorem Known.gave {c c' : Ct} {v : Int} {l : List Int} (h : Known c l) (g : Gave c c' v) : Known c' (if v = 0 then l else l ++ [v]) := by
  intro x hx
  rw [g.t]
  split
  · rename_i e
    rw [g.same e] at hx
    exact h x hx
  · rename_i e
    obtain ⟨_, z, hz, _, _, hm⟩ := g.new e
    rcases (hm x).1 hx with hx | hx
    · exact List.mem_append.2 (.inl (h x hx))
    · subst hx; rw [hz]; exact List.mem_append.2 (.inr (by simp))
theorem Known.revoke {c : Ct} {l : List Int} (h : Known c l) (a : Int) : Known (rvS c a) l := fun x hx => h x (List.mem_filter.1 hx).1
theorem Known.no {c : Ct} {l : List Int} (h : Known c l) {b : Int} (hb : b ∉ l) : look c b = none := by
  cases hl : look c b with
  | none => rfl
  | some x =>
    obtain ⟨hx, e⟩ := look_mem hl
    exact (hb (e ▸ h x hx)).elim
end Go.Proofs.YtcleheapfgapaaaDoor
