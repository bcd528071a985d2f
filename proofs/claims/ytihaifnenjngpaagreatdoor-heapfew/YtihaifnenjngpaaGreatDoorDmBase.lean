/-
  Which blocks are had: mathematics.
  Blocks stay as their owners wrote them: mathematics.
  The arena, the map and the views of two heaps, asked and turned by the laws themselves.
  Small laws that the walks of the heap's laws share.
  What a quota takes: plain mathematics off the document. Nothing of the program is named here.
-/
import Derived.Test.YtihaifnenjngpaaGreatDoorHpView
import Derived.Test.YtihaifnenjngpaaGreatDoorHpAwake
import Derived.Test.YtihaifnenjngpaaGreatDoorViCalls
import Derived.Test.YtihaifnenjngpaaGreatDoorClBase
namespace Go.Proofs.YtihaifnenjngpaaGreatDoor
open Go.RowKit
open An

/-- A block is had. -/
def HadB (L : List Hd) (c s j : Nat) : Prop := ∃ x ∈ L, x.kind = c ∧ x.slot = s ∧ (c ≤ 7 → x.pg.Had j) ∧ j < (nuI c).toNat
section
variable {C : Nat → Prop} {k : Nat} {M : Ms} {H : Hp} {L : List Hd} {c s j : Nat}
theorem nu_small (h : c ≤ 7) : (nuI c).toNat = pp c := by
  obtain ⟨_, k2, _, _, k5⟩ := kind_facts c h
  unfold nuI
  rw [k5, if_neg (by omega)]
  simp
theorem nu_run (h : 8 ≤ c) (h2 : c ≤ 23) : (nuI c).toNat = 1 := by
  have : ∀ c : Fin 24, 8 ≤ (c : Nat) → (nuI c).toNat = 1 := by decide
  exact this ⟨c, by omega⟩ h
theorem HadB.there (h : HpOk C M H) (hb : HadB H.L c s j) : PlT c s j ∧ c ≤ 23 ∧ s < sn c := by
  obtain ⟨x, hx, rfl, rfl, _, hj⟩ := hb
  obtain ⟨c1, c2⟩ := h.at_ x hx
  obtain ⟨_, _, _, _, p5, _⟩ := pn_facts c1
  have f3 := (pl_facts (c := x.kind) (by omega) (by omega)).2.2.1
  exact ⟨⟨by omega, by rw [p5]; omega, by omega, by omega⟩, c1, c2⟩
theorem mem_hBl {a : Int} (nd : (L.map fun x => (x.kind, x.slot)).Nodup) (at_ : ∀ x ∈ L, x.kind ≤ 23 ∧ x.slot < sn x.kind) : a ∈ hBl L ↔ ∃ c s j : Nat, HadB L c s j ∧ a = adI c s j := by
  unfold hBl
  constructor
  · intro h
    obtain ⟨c, hc, h⟩ := List.mem_flatMap.1 h
    obtain ⟨s, hs, h⟩ := List.mem_flatMap.1 h
    cases e : hAt L c s with
    | none => rw [e] at h; cases h
    | some x =>
      rw [e] at h
      obtain ⟨j, hj, h⟩ := List.mem_filterMap.1 h
      obtain ⟨x1, x2, x3⟩ := hAt_some e
      split at h
      case isFalse => cases h
      case isTrue hor =>
        cases h
        refine ⟨c, s, j, ⟨x, x1, x2, x3, fun h7 => ?_, List.mem_range.1 hj⟩, rfl⟩
        rcases hor with e | e
        · omega
        · exact e
  · rintro ⟨c, s, j, ⟨x, hx, rfl, rfl, hh, hj⟩, rfl⟩
    obtain ⟨c1, c2⟩ := at_ x hx
    refine List.mem_flatMap.2 ⟨x.kind, List.mem_range.2 (by omega), List.mem_flatMap.2 ⟨x.slot, List.mem_range.2 c2, ?_⟩⟩
    rw [hAt_mem nd hx]
    refine List.mem_filterMap.2 ⟨j, List.mem_range.2 hj, ?_⟩
    rw [if_pos]
    by_cases h7 : x.kind ≤ 7
    · exact .inr (hh h7)
    · exact .inl (by omega)
/-- They rise. -/
theorem hBl_up (L : List Hd) : (hBl L).Pairwise (· < ·) := by
  have hblk : ∀ c s : Nat, ∀ a ∈ (match hAt L c s with
      | none => []
      | some x => (List.range (nuI c).toNat).filterMap fun j => if 8 ≤ c ∨ x.pg.Had j then some (adI c s j) else none : List Int), ∃ j : Nat, j < (nuI c).toNat ∧ a = adI c s j := fun c s a ha => by
    cases e : hAt L c s with
    | none => rw [e] at ha; cases ha
    | some x =>
      rw [e] at ha
      obtain ⟨j, hj, h⟩ := List.mem_filterMap.1 ha
      split at h
      · cases h; exact ⟨j, List.mem_range.1 hj, rfl⟩
      · cases h
  have hpl : ∀ {c s j : Nat}, c < 24 → s < sn c → j < (nuI c).toNat → PlT c s j := fun {c s j} hc hs hj => by
    obtain ⟨_, _, _, _, p5, _⟩ := pn_facts (show c ≤ 23 by omega)
    have f3 := (pl_facts (c := c) (by omega) (by omega)).2.2.1
    exact ⟨by omega, by rw [p5]; omega, by omega, by omega⟩
  unfold hBl
  rw [List.pairwise_flatMap]
  refine ⟨fun c hc => ?_, ?_⟩
  · have hc := List.mem_range.1 hc
    have f4 := (pl_facts (c := c) (by omega) (by omega)).2.2.2.1
    rw [List.pairwise_flatMap]
    refine ⟨fun s hs => ?_, ?_⟩
    · have hs := List.mem_range.1 hs
      cases e : hAt L c s with
      | none => exact .nil
      | some x =>
        show ((List.range (nuI c).toNat).filterMap fun j => if 8 ≤ c ∨ x.pg.Had j then some (adI c s j) else none).Pairwise (· < ·)
        rw [List.pairwise_filterMap]
        refine List.Pairwise.imp_of_mem ?_ List.pairwise_lt_range
        intro i j hi hj hij a ha b hb
        split at ha
        case isFalse => cases ha
        split at hb
        case isFalse => cases hb
        cases ha
        cases hb
        exact (PlT.lt_iff (hpl hc hs (List.mem_range.1 hi)) (hpl hc hs (List.mem_range.1 hj))).2 (.inr ⟨rfl, by omega⟩)
    · refine List.Pairwise.imp_of_mem ?_ List.pairwise_lt_range
      intro s s' hs hs' hlt a ha b hb
      obtain ⟨i, hi, rfl⟩ := hblk c s a ha
      obtain ⟨j, hj, rfl⟩ := hblk c s' b hb
      exact (PlT.lt_iff (hpl hc (List.mem_range.1 hs) hi) (hpl hc (List.mem_range.1 hs') hj)).2 (.inl (by omega))
  · refine List.Pairwise.imp_of_mem ?_ List.pairwise_lt_range
    intro c c' hc hc' hlt a ha b hb
    obtain ⟨s, hs, ha⟩ := List.mem_flatMap.1 ha
    obtain ⟨s', hs', hb⟩ := List.mem_flatMap.1 hb
    obtain ⟨i, hi, rfl⟩ := hblk c s a ha
    obtain ⟨j, hj, rfl⟩ := hblk c' s' b hb
    have h1 := (hpl (List.mem_range.1 hc) (List.mem_range.1 hs) hi).inside
    have h2 := (hpl (List.mem_range.1 hc') (List.mem_range.1 hs') hj).inside
    have f4 := (pl_facts (c := c) (by omega) (by have := List.mem_range.1 hc; omega)).2.2.2.1
    omega
theorem few_in : ∀ n : Nat, ∀ {l : List Nat}, (∀ j, j < n → j ∈ l) → n ≤ l.length
  | 0, _, _ => Nat.zero_le _
  | n + 1, l, h => by
    have h1 := few_in n (l := l.erase n) fun j hj => (List.mem_erase_of_ne (by omega)).2 (h j (by omega))
    have h2 := List.length_erase_of_mem (h n (by omega))
    have h3 : 0 < l.length := List.length_pos_of_mem (h n (by omega))
    omega
/-- A small page of which blocks are had has one. -/
theorem Pg.Ok.some_had {g : Pg} {bs : List UInt8} (h : g.Ok bs) (hu : 0 < g.used) : ∃ j, j < pp g.kind ∧ g.Had j := by
  by_cases e : ∃ j, j < pp g.kind ∧ g.Had j
  · exact e
  · exfalso
    have := few_in g.fresh (l := g.R ++ g.D) fun j hj => by
      by_cases hm : j ∈ g.R ++ g.D
      · exact hm
      · have hfr := h.fr
        rw [List.mem_append, not_or] at hm
        exact (e ⟨j, by omega, hj, hm.1, hm.2⟩).elim
    rw [List.length_append] at this
    unfold Pg.used at hu
    omega
theorem Pg.Ok.had_used {g : Pg} {bs : List UInt8} (h : g.Ok bs) {i : Nat} (hi : g.Had i) : 0 < g.used := by
  have := nodup_short g.fresh (i :: (g.R ++ g.D)) (List.nodup_cons.2 ⟨fun e => (List.mem_append.1 e).elim hi.2.1 hi.2.2, h.nd⟩) fun x hx => by
    rcases List.mem_cons.1 hx with rfl | e
    · exact hi.1
    · exact h.lt x e
  rw [List.length_cons, List.length_append] at this
  unfold Pg.used
  omega
/-- No block is had: nothing is held. -/
theorem HpOk.nothing (h : HpOk C M H) (us : Us H.L) (hb : ∀ c s j, ¬ HadB H.L c s j) : H.L = [] ∧ H.T = [] := by
  have hL : H.L = [] := by
    cases e : H.L with
    | nil => rfl
    | cons x r =>
      exfalso
      have hx : x ∈ H.L := by rw [e]; simp
      obtain ⟨c1, c2⟩ := h.at_ x hx
      by_cases h7 : x.kind ≤ 7
      · have hs := h.sm x hx h7
        obtain ⟨j, hj, hh⟩ := hs.ok.some_had (us x hx h7)
        exact hb x.kind x.slot j ⟨x, hx, rfl, rfl, fun _ => hh, by rw [nu_small h7, ← hs.kd]; exact hj⟩
      · exact hb x.kind x.slot 0 ⟨x, hx, rfl, rfl, fun e => (h7 e).elim, by rw [nu_run (by omega) c1]; omega⟩
  refine ⟨hL, ?_⟩
  cases e : H.T with
  | nil => rfl
  | cons y r =>
    exfalso
    obtain ⟨x, hx, _⟩ := h.dom y (by rw [e]; simp)
    rw [hL] at hx
    cases hx
/-- Free takes one block away. -/
theorem hF_had (h : HpOk C M H) (hb : HadB H.L c s j) : (hF M H c s j).2.2 = 0 ∧ ∀ c' s' j', HadB (hF M H c s j).2.1.L c' s' j' ↔ HadB H.L c' s' j' ∧ ¬ (c' = c ∧ s' = s ∧ j' = j) := by
  obtain ⟨x, hx, rfl, rfl, hh, hj⟩ := hb
  obtain ⟨c1, c2⟩ := h.at_ x hx
  have hat := hAt_mem h.nd hx
  have hhad : hHad H.L x.kind x.slot j = some x := by
    unfold hHad
    rw [hat]
    dsimp only
    rw [if_neg]
    rintro ⟨h7, hn⟩
    have hs := h.sm x hx h7
    exact hn ⟨⟨by omega, by rw [hs.kd, ← nu_small h7]; omega⟩, by simpa using hh h7⟩
  have hdel : ∀ c' s' j', HadB (hDel H.L x.kind x.slot) c' s' j' ↔ HadB H.L c' s' j' ∧ ¬ (c' = x.kind ∧ s' = x.slot) := fun c' s' j' => by
    constructor
    · rintro ⟨y, hy, rfl, rfl, y3⟩
      have := mem_hDel.1 hy
      exact ⟨⟨y, this.1, rfl, rfl, y3⟩, this.2⟩
    · rintro ⟨⟨y, hy, rfl, rfl, y3⟩, hn⟩
      exact ⟨y, mem_hDel.2 ⟨hy, hn⟩, rfl, rfl, y3⟩
  unfold hF
  rw [hhad]
  dsimp only
  by_cases h8 : 8 ≤ x.kind
  · rw [if_pos h8]
    refine ⟨rfl, fun c' s' j' => ?_⟩
    rw [hdel]
    refine ⟨fun ⟨a, b⟩ => ⟨a, fun e => b ⟨e.1, e.2.1⟩⟩, fun ⟨a, b⟩ => ⟨a, fun e => b ⟨e.1, e.2, ?_⟩⟩⟩
    obtain ⟨y, _, y1, _, _, y4⟩ := a
    rw [e.1, nu_run h8 c1] at y4
    rw [nu_run h8 c1] at hj
    omega
  · rw [if_neg h8]
    have h7 : x.kind ≤ 7 := by omega
    have hs := h.sm x hx h7
    have hm : x.pg.May j := ⟨⟨by omega, by rw [hs.kd, ← nu_small h7]; omega⟩, by simpa using hh h7⟩
    have hpf : pfS x.pg j = ⟨x.pg.base, x.pg.kind, x.pg.fresh, x.pg.R, j :: x.pg.D⟩ := by unfold pfS; rw [if_pos hm]; simp
    have hhd : ∀ i, (pfS x.pg j).Had i ↔ x.pg.Had i ∧ i ≠ j := fun i => by
      rw [hpf]
      unfold Pg.Had
      simp only [List.mem_cons, not_or]
      exact ⟨fun ⟨a, b, d, e⟩ => ⟨⟨a, b, e⟩, d⟩, fun ⟨⟨a, b, e⟩, d⟩ => ⟨a, b, d, e⟩⟩
    by_cases hu : (pfS x.pg j).used = 0
    · rw [if_pos hu]
      refine ⟨rfl, fun c' s' j' => ?_⟩
      rw [hdel]
      refine ⟨fun ⟨a, b⟩ => ⟨a, fun e => b ⟨e.1, e.2.1⟩⟩, fun ⟨a, b⟩ => ⟨a, fun e => ?_⟩⟩
      obtain ⟨y, hy, rfl, rfl, y3, y4⟩ := a
      obtain rfl := slot_one h.nd hy hx e.1 e.2
      have hi := (hhd j').2 ⟨y3 h7, fun e5 => b ⟨rfl, rfl, e5⟩⟩
      have := (hs.ok.free j).1.had_used hi
      omega
    · rw [if_neg hu]
      refine ⟨rfl, fun c' s' j' => ?_⟩
      constructor
      · rintro ⟨y, hy, rfl, rfl, y3, y4⟩
        rcases (mem_hSet h.nd hx).1 hy with rfl | e
        · have := (hhd j').1 (y3 h7)
          exact ⟨⟨x, hx, rfl, rfl, fun _ => this.1, y4⟩, fun e => this.2 e.2.2⟩
        · exact ⟨⟨y, e.1, rfl, rfl, y3, y4⟩, fun e2 => e.2 ⟨e2.1, e2.2.1⟩⟩
      · rintro ⟨⟨y, hy, rfl, rfl, y3, y4⟩, hn⟩
        by_cases e : y.kind = x.kind ∧ y.slot = x.slot
        · obtain rfl := slot_one h.nd hy hx e.1 e.2
          exact ⟨⟨y.kind, y.slot, pfS y.pg j⟩, (mem_hSet h.nd hx).2 (.inl rfl), rfl, rfl, fun h7 => (hhd j').2 ⟨y3 h7, fun e5 => hn ⟨rfl, rfl, e5⟩⟩, y4⟩
        · exact ⟨y, (mem_hSet h.nd hx).2 (.inr ⟨hy, e⟩), rfl, rfl, y3, y4⟩
theorem had_last {g : Pg} {c' s' j' : Nat} : HadB (L ++ [⟨c, s, g⟩]) c' s' j' ↔ HadB L c' s' j' ∨ (c' = c ∧ s' = s ∧ (c ≤ 7 → g.Had j') ∧ j' < (nuI c).toNat) := by
  constructor
  · rintro ⟨y, hy, rfl, rfl, y3, y4⟩
    rcases List.mem_append.1 hy with e | e
    · exact .inl ⟨y, e, rfl, rfl, y3, y4⟩
    · simp only [List.mem_singleton] at e; subst e; exact .inr ⟨rfl, rfl, y3, y4⟩
  · rintro (⟨y, hy, r⟩ | ⟨rfl, rfl, r3, r4⟩)
    · exact ⟨y, List.mem_append_left _ hy, r⟩
    · exact ⟨⟨c', s', g⟩, List.mem_append_right _ (List.mem_singleton.2 rfl), rfl, rfl, r3, r4⟩
/-- What Malloc gives. -/
structure Gave (C : Nat → Prop) (M : Ms) (H : Hp) (n : Int) (M' : Ms) (H' : Hp) (a : Int) (c s j : Nat) : Prop where
  kd : ofI n = (c : Int)
  at_ : a = adI c s j
  new : ¬ HadB H.L c s j
  had : ∀ c' s' j', HadB H'.L c' s' j' ↔ HadB H.L c' s' j' ∨ (c' = c ∧ s' = s ∧ j' = j)
  zero : ∀ i : Nat, i < (unitI c).toNat → lb H'.T M'.bs (a + i) = 0
theorem lb_zero {T : Tb} {bs : List UInt8} {a : Int} {q : Nat} (hq : tbF T (a / 512) = (q : Int)) (hw : win bs (q * 512) = nz 512) : lb T bs a = 0 := by
  unfold lb phys
  rw [hq, show ((q : Int) * 512 + a % 512).toNat = q * 512 + (a % 512).toNat by omega, ← win_get? bs (q * 512) _ (by omega), hw]
  exact nz_get _ _
theorem hM_had (h : HpOk C M H) (ok : MsOk M) {n : Int} {r : Ms × Hp × Int × Int} (w : MWay C k M H n r) : (r.2.2.2 ≠ 0 ∧ r.1 = M ∧ r.2.1 = H ∧ r.2.2.1 = 0) ∨ (r.2.2.2 = 0 ∧ ∃ c s j, Gave C M H n r.1 r.2.1 r.2.2.1 c s j) := by
  have hnone : ∀ {c s : Nat}, ¬ Held H.L c s → ∀ j, ¬ HadB H.L c s j := fun hn j ⟨y, hy, y1, y2, _⟩ => hn ⟨y, hy, y1, y2⟩
  rcases w with ⟨_, rfl⟩ | ⟨_, rfl, _⟩ | ⟨c, hc, h8, s, m', H', g, f, rfl⟩ | ⟨c, hc, h7, hln, s, m', H', q, f, hm, hq, rfl⟩ | ⟨c, hc, h7, x, hx, rfl, hf, _, rfl⟩
  · exact .inl ⟨by show (2 : Int) ≠ 0; decide, rfl, rfl, rfl⟩
  · exact .inl ⟨by show (13 : Int) ≠ 0; decide, rfl, rfl, rfl⟩
  · refine .inr ⟨rfl, c, s, 0, hc, rfl, hnone f.free 0, fun c' s' j' => ?_, fun i hi => ?_⟩
    · rw [f.eH, had_last, nu_run h8 f.fc]
      constructor
      · rintro (e | ⟨e1, e2, _, e4⟩)
        · exact .inl e
        · exact .inr ⟨e1, e2, by omega⟩
      · rintro (e | ⟨e1, e2, e3⟩)
        · exact .inl e
        · exact .inr ⟨e1, e2, fun e => by omega, by omega⟩
    · obtain ⟨t, ht, e⟩ := blk_at (x := ⟨c, s, g⟩) (j := 0) f.fc f.fs (by rw [nu_run h8 f.fc]; omega) hi
      have hg := f.took.got t ht
      have hm := f.took.ok.tb.f_some hg
      obtain ⟨q, hq⟩ : ∃ q : Nat, tbF H'.T (lo c s + t) = (q : Int) := ⟨(tbF H'.T (lo c s + t)).toNat, by omega⟩
      rw [hq] at hm
      have hql : q < M.has.length := by have := f.took.ok.lt ⟨_, hm⟩; rw [f.took.len] at this; exact this
      have hqf : M.has.getD q true = false := by
        rcases f.took.new _ hm with e5 | e5
        · exfalso
          obtain ⟨z, hz, i', hi', e6⟩ := h.dom _ e5
          obtain ⟨b1, b2⟩ := h.at_ z hz
          have := lo_one b1 b2 f.fc f.fs hi' ht e6.symm
          exact f.free ⟨z, hz, this.1, this.2.1⟩
        · simpa using e5.2
      rw [f.em]
      exact lb_zero (q := q) (by have e : (adI c s ((0 : Nat) : Int) + i) / 512 = lo c s + t := e; rw [show (adI (c : Int) (s : Int) 0 + (i : Int)) = adI c s ((0 : Nat) : Int) + i from rfl, e]; exact hq) (ok.cl q hql hqf)
  · obtain ⟨_, ⟨hp2, _⟩, _⟩ := kind_facts c h7
    have hfresh : ∀ j', Pg.Had ⟨q * 512, c, 1, [], []⟩ j' ↔ j' = 0 := fun j' => by unfold Pg.Had; simp
    refine .inr ⟨rfl, c, s, 0, hc, rfl, hnone f.free 0, fun c' s' j' => ?_, fun i hi => ?_⟩
    · rw [f.eH, had_last, nu_small h7]
      constructor
      · rintro (e | ⟨e1, e2, e3, _⟩)
        · exact .inl e
        · exact .inr ⟨e1, e2, (hfresh j').1 (e3 h7)⟩
      · rintro (e | ⟨e1, e2, e3⟩)
        · exact .inl e
        · exact .inr ⟨e1, e2, fun _ => (hfresh j').2 e3, by omega⟩
    · obtain ⟨t, ht, e⟩ := blk_at (x := ⟨c, s, ⟨0, 0, 0, [], []⟩⟩) (j := 0) f.fc f.fs (by rw [nu_small h7]; omega) hi
      have hp1 : pn c = 1 := ((pn_facts f.fc).2.2.2.2.2 h7).1
      have ht0 : t = 0 := by have ht : t < pn c := ht; omega
      subst ht0
      have hql : q < M.has.length := by have := f.took.ok.lt ⟨_, hm⟩; rw [f.took.len] at this; exact this
      rw [f.em]
      exact lb_zero (q := q) (by have e : (adI c s ((0 : Nat) : Int) + i) / 512 = lo c s + ((0 : Nat) : Int) := e; rw [show (adI (c : Int) (s : Int) 0 + (i : Int)) = adI c s ((0 : Nat) : Int) + i from rfl, e]; simp only [Int.natCast_zero, Int.add_zero]; exact tbF_mem f.took.ok.tb hm) (ok.cl q hql hq)
  · have hs := h.sm x hx h7
    have hg := hs.ok.given hs.cl hf
    have hv : paV x.pg = (paK x.pg : Int) := if_neg hf
    have hkd := hs.kd
    have hz := hg.zero hs.cl hs.ok ⟨rfl, rfl, rfl⟩ hf
    have hlt : paK x.pg < (nuI x.kind).toNat := by rw [nu_small h7, ← hkd]; exact hg.lt
    refine .inr ⟨rfl, x.kind, x.slot, paK x.pg, hc, by show adI _ _ (paV x.pg) = _; rw [hv], fun ⟨y, hy, y1, y2, y3, _⟩ => ?_, fun c' s' j' => ?_, fun i hi => ?_⟩
    · obtain rfl := slot_one h.nd hy hx y1 y2
      exact hg.was (y3 h7)
    · constructor
      · rintro ⟨y, hy, rfl, rfl, y3, y4⟩
        rcases (mem_hSet h.nd hx).1 hy with rfl | e
        · rcases (hg.had j').1 (y3 h7) with e | e
          · exact .inl ⟨x, hx, rfl, rfl, fun _ => e, y4⟩
          · exact .inr ⟨rfl, rfl, e⟩
        · exact .inl ⟨y, e.1, rfl, rfl, y3, y4⟩
      · rintro (⟨y, hy, rfl, rfl, y3, y4⟩ | ⟨rfl, rfl, rfl⟩)
        · by_cases e : y.kind = x.kind ∧ y.slot = x.slot
          · obtain rfl := slot_one h.nd hy hx e.1 e.2
            exact ⟨⟨y.kind, y.slot, paS y.pg⟩, (mem_hSet h.nd hx).2 (.inl rfl), rfl, rfl, fun h7 => (hg.had j').2 (.inl (y3 h7)), y4⟩
          · exact ⟨y, (mem_hSet h.nd hx).2 (.inr ⟨hy, e⟩), rfl, rfl, y3, y4⟩
        · exact ⟨⟨x.kind, x.slot, paS x.pg⟩, (mem_hSet h.nd hx).2 (.inl rfl), rfl, rfl, fun _ => (hg.had _).2 (.inr rfl), hlt⟩
    · show lb H.T (paB x.pg M.bs) (adI x.kind x.slot (paV x.pg) + i) = 0
      have hi : i < pu x.kind := hi
      unfold lb
      rw [hv, small_phys h hx h7 (by rw [← hkd]; exact hg.lt) hi, Int.toNat_natCast, ← blk_get? x.pg (paB x.pg M.bs) (paK x.pg) i (by rw [hkd]; exact hi), hz]
      exact nz_get _ _
end
end Go.Proofs.YtihaifnenjngpaaGreatDoor

namespace Go.Proofs.YtihaifnenjngpaaGreatDoor
open Go.RowKit
open An

section
variable {C : Nat → Prop} {k : Nat} {M M' : Ms} {H : Hp} {T T' : Tb} {bs bs' : List UInt8}
end
end Go.Proofs.YtihaifnenjngpaaGreatDoor

namespace Go.Proofs.YtihaifnenjngpaaGreatDoor
open Go.RowKit
open An

theorem Both.left2 {P Q : World → (Nat → Prop) → Prop} {w : World} {U : Nat → Prop} (h : Both P Q w U) (hQ : Good Q) : ∃ Z Y, P w Z ∧ Q w Y ∧ (∀ i, Z i → ¬ Y i) ∧ ∀ {P' : World → (Nat → Prop) → Prop} {w' : World} {Z' : Nat → Prop}, P' w' Z' → Gw w w' Z Z' → ∃ U', Both P' Q w' U' ∧ Gw w w' U U' := by
  obtain ⟨Z, Y, h1, h2, h3, h4, h5, h6⟩ := h
  refine ⟨Z, Y, h1, h2, h3, fun {P' w' Z'} k1 g => ?_⟩
  have hs := g.fr.size
  refine ⟨fun i => Z' i ∨ U i, ⟨Z', Y, k1, hQ.carry h2 g.fr fun i a b => h3 i b a, fun i a b => ?_, fun i a => .inl a, fun i a => .inr (h5 i a), fun i a => a.elim (g.lt i) fun a => Nat.lt_of_lt_of_le (h6 i a) hs⟩, ⟨fun i a => .inr a, fun i a => ?_, fun i a => a.elim (g.lt i) fun a => Nat.lt_of_lt_of_le (h6 i a) hs, g.fr.mono fun i _ => h4 i⟩⟩
  · rcases g.new i a with e | e
    · exact h3 i e b
    · have := h6 i (h5 i b); omega
  · rcases a with a | a
    · rcases g.new i a with e | e
      · exact .inl (h4 i e)
      · exact .inr e
    · exact .inl a
section
variable {W w : World} {ts : List (World → (Nat → Prop) → Prop)} {a m k h t h' t' b : Nat} {M : Ms} {H H' : Hp}
/-- The arena of two heaps turns. -/
theorem Things.arena {Pr : Program} {F : Nat} {args : Array Value} {R : Ending → Prop} {bs' : List UInt8} {ss' : List Sp} (q : Things W w ts) (j : Nat) (hj : ts[j]? = some (S2 a m k M h t H h' t' H'))
    (call : ∀ Z Y, Am 128 a M.bs M.ss w Z → Tm t H.T w Y → (∀ i, Z i → ¬ Y i) → Calls Pr F args w fun e w' => R e ∧ ∃ Z', Am 128 a bs' ss' w' Z' ∧ Gw w w' Z Z') : Calls Pr F args w fun e w' => R e ∧ Things W w' (ts.set j (S2 a m k ⟨M.has, bs', ss'⟩ h t H h' t' H')) := by
  obtain ⟨U, h1, h2, h3⟩ := q.turn j hj
  obtain ⟨V, Y0, v1, w0, v2, v3⟩ := Both.left2 h1 (Both.good (Hm.good ..) (Hm.good ..))
  obtain ⟨Z, z1, z2, z3⟩ := Both.left v1 (Ct.good ..)
  obtain ⟨Y1, y3, y4⟩ := Both.fst' w0
  obtain ⟨Y, y1, y5⟩ := Both.snd y3
  have y2 : ∀ i, Z i → ¬ Y i := fun i a b => v2 i (z2 i a) (y4 i (y5 i b))
  refine (call Z Y z1 y1 y2).mono ?_
  rintro e w' ⟨he, Z', k1, k2⟩
  obtain ⟨V', a1, a2⟩ := z3 k1 k2
  obtain ⟨U', b1, b2⟩ := v3 (P' := Ac a m k ⟨M.has, bs', ss'⟩) a1 a2
  exact ⟨he, h3 _ w' U' (S2.good ..) b1 b2⟩
/-- What is written into a block that is had leaves both right. -/
theorem Two.write (tw : Two k b M H H') {c s j : Nat} (hb : HadB H.L c s j) {ds : List UInt8} (hd : ds.length = (unitI c).toNat) {ss' : List Sp} (hs : ss'.length ≤ b) : Two k b ⟨M.has, vwB H.T M.bs (adI c s j) ds, ss'⟩ H H' := by
  obtain ⟨x, hx, rfl, rfl, hh, hj⟩ := hb
  exact tw.step (tw.ok.write tw.ms hx hj hh hd) rfl tw.W hs
end
end Go.Proofs.YtihaifnenjngpaaGreatDoor

namespace Go.Proofs.YtihaifnenjngpaaGreatDoor
open Go.RowKit
open An

theorem modu (x : Int) (m : Nat) (M : Int) (hM : M = (m : Int)) (h0 : 0 < m) (h1 : m ≤ 4000000) : ∃ n : Nat, wrap64 ((IntKind.u64.wrap x).tmod M) = (n : Int) ∧ n < m := by
  subst hM
  have hu : 0 ≤ IntKind.u64.wrap x := by rw [IntKind.wrap_u64]; omega
  have he : (IntKind.u64.wrap x).tmod (m : Int) = (IntKind.u64.wrap x) % (m : Int) := Int.tmod_eq_emod_of_nonneg hu
  have h2 := Int.emod_nonneg (IntKind.u64.wrap x) (b := (m : Int)) (by omega)
  have h3 := Int.emod_lt_of_pos (IntKind.u64.wrap x) (b := (m : Int)) (by omega)
  refine ⟨((IntKind.u64.wrap x) % (m : Int)).toNat, ?_, by omega⟩
  rw [he]
  generalize (IntKind.u64.wrap x) % (m : Int) = z at *
  unfold wrap64
  omega
theorem hBl_len (L : List Hd) : (hBl L).length ≤ 4000000 := by
  have hin : ∀ a ∈ hBl L, 0 ≤ a ∧ a < 4000000 := fun a ha => by
    unfold hBl at ha
    obtain ⟨c, hc, ha⟩ := List.mem_flatMap.1 ha
    obtain ⟨s, hs, ha⟩ := List.mem_flatMap.1 ha
    have hc := List.mem_range.1 hc
    have hs := List.mem_range.1 hs
    cases e : hAt L c s with
    | none => rw [e] at ha; cases ha
    | some x =>
      rw [e] at ha
      obtain ⟨j, hj, h⟩ := List.mem_filterMap.1 ha
      have hj := List.mem_range.1 hj
      obtain ⟨_, _, _, _, p5, _⟩ := pn_facts (show c ≤ 23 by omega)
      have f := pl_facts (c := c) (by omega) (by omega)
      have pt : PlT c s j := ⟨by omega, by rw [p5]; omega, by omega, by have := f.2.2.1; omega⟩
      have := pt.inside
      have := f.2.2.2.1
      split at h
      · cases h; omega
      · cases h
  have hn : ((hBl L).map Int.toNat).Nodup := by
    rw [List.nodup_iff_pairwise_ne, List.pairwise_map]
    refine List.Pairwise.imp_of_mem ?_ (hBl_up L)
    intro x y hx hy hlt e
    have := hin x hx
    have := hin y hy
    omega
  have := nodup_short 4000000 _ hn fun x hx => by
    obtain ⟨y, hy, rfl⟩ := List.mem_map.1 hx
    have := hin y hy
    omega
  rwa [List.length_map] at this
theorem had_us {C : Nat → Prop} {M : Ms} {H : Hp} (h : HpOk C M H) {c s j : Nat} (hb : HadB H.L c s j) : hUs H c s j 0 = (unitI c, 0) := by
  obtain ⟨x, hx, rfl, rfl, hh, hj⟩ := hb
  unfold hUs
  rw [if_pos rfl, Int.toNat_natCast, Int.toNat_natCast]
  have hhad : hHad H.L x.kind x.slot j = some x := by
    unfold hHad
    rw [hAt_mem h.nd hx]
    dsimp only
    rw [if_neg]
    rintro ⟨h7, hn⟩
    have hs := h.sm x hx h7
    exact hn ⟨⟨by omega, by rw [hs.kd, ← nu_small h7]; omega⟩, by simpa using hh h7⟩
  rw [hhad]
end Go.Proofs.YtihaifnenjngpaaGreatDoor

namespace Go.Proofs.YtihaifnenjngpaaGreatDoor

/-- May it be a quota? -/
abbrev May (q : Int) : Prop := 1 ≤ q ∧ q ≤ 65536
/-- Pages of a small kind. -/
def byI (c q : Int) : Int := if 0 ≤ c ∧ c ≤ 7 ∧ May q then (q / unitI c + perI c - 1) / perI c else 0
/-- Pages of runs. -/
def runsI (q : Int) : Int := if May q then q / 512 else 0
/-- The small kinds' pages, of the first k kinds. -/
def sumBy (q : Int) : Nat → Int
  | 0 => 0
  | k + 1 => sumBy q k + byI k q
/-- All together. -/
def takesI (q : Int) : Int := sumBy q 8 + runsI q

theorem fin8 (c : Int) (h0 : 0 ≤ c) (h1 : c ≤ 7) : c = 0 ∨ c = 1 ∨ c = 2 ∨ c = 3 ∨ c = 4 ∨ c = 5 ∨ c = 6 ∨ c = 7 := by omega
theorem small_unit (c : Int) (h0 : 0 ≤ c) (h1 : c ≤ 7) : 16 ≤ unitI c ∧ unitI c ≤ 256 ∧ 2 ≤ perI c ∧ perI c ≤ 32 ∧ perI c * unitI c ≤ 512 := by
  rcases fin8 c h0 h1 with rfl | rfl | rfl | rfl | rfl | rfl | rfl | rfl <;> decide
theorem byI_out (c q : Int) (h : ¬ (0 ≤ c ∧ c ≤ 7 ∧ May q)) : byI c q = 0 := by unfold byI; rw [if_neg h]
theorem byI_in (c q : Int) (h0 : 0 ≤ c) (h1 : c ≤ 7) (hq : May q) : byI c q = (q / unitI c + perI c - 1) / perI c := by unfold byI; rw [if_pos ⟨h0, h1, hq⟩]
theorem byI_nonneg (c q : Int) : 0 ≤ byI c q := by
  by_cases h : 0 ≤ c ∧ c ≤ 7 ∧ May q
  · obtain ⟨_, _, p1, _, _⟩ := small_unit c h.1 h.2.1
    rw [byI_in c q h.1 h.2.1 h.2.2]
    have hk : 0 ≤ q / unitI c := Int.ediv_nonneg (by have := h.2.2; unfold May at this; omega) (by omega)
    exact Int.ediv_nonneg (by omega) (by omega)
  · rw [byI_out c q h]; exact Int.le_refl _
/-- If so many whole pages and one block more have room in the quota, there are more pages than those. -/
theorem byI_more (c q n : Int) (h0 : 0 ≤ c) (h1 : c ≤ 7) (hq : May q) (h : (n * perI c + 1) * unitI c ≤ q) : n + 1 ≤ byI c q := by
  obtain ⟨u1, _, p1, _, _⟩ := small_unit c h0 h1
  have hk : n * perI c + 1 ≤ q / unitI c := (Int.le_ediv_iff_mul_le (by omega)).2 h
  rw [byI_in c q h0 h1 hq]
  refine (Int.le_ediv_iff_mul_le (by omega)).2 ?_
  rw [Int.add_mul, Int.one_mul]
  omega
theorem byI_more' (c q n : Int) (h0 : 0 ≤ c) (h1 : c ≤ 7) (hq : May q) (h : n * perI c < q / unitI c) : n + 1 ≤ byI c q := by
  obtain ⟨u1, _, p1, _, _⟩ := small_unit c h0 h1
  rw [byI_in c q h0 h1 hq]
  refine (Int.le_ediv_iff_mul_le (by omega)).2 ?_
  rw [Int.add_mul, Int.one_mul]
  omega
theorem byI_le (c q n : Int) (h0 : 0 ≤ c) (h1 : c ≤ 7) (hq : May q) (h : q / unitI c ≤ n * perI c) : byI c q ≤ n := by
  obtain ⟨u1, _, p1, _, _⟩ := small_unit c h0 h1
  rw [byI_in c q h0 h1 hq]
  have : (q / unitI c + perI c - 1) / perI c < n + 1 := (Int.ediv_lt_iff_lt_mul (by omega)).2 (by rw [Int.add_mul, Int.one_mul]; omega)
  omega
theorem byI_small (c q : Int) : byI c q ≤ 4096 := by
  by_cases h : 0 ≤ c ∧ c ≤ 7 ∧ May q
  · obtain ⟨u1, _, p1, _, _⟩ := small_unit c h.1 h.2.1
    refine byI_le c q 4096 h.1 h.2.1 h.2.2 ?_
    have hq := h.2.2
    unfold May at hq
    have : q / unitI c ≤ q / 16 := by
      refine (Int.le_ediv_iff_mul_le (by decide)).2 ?_
      have e := Int.ediv_mul_le q (show unitI c ≠ 0 by omega)
      have k0 : 0 ≤ q / unitI c := Int.ediv_nonneg (by omega) (by omega)
      have := Int.mul_le_mul_of_nonneg_left u1 k0
      omega
    omega
  · rw [byI_out c q h]; decide
theorem sumBy_nonneg (q : Int) : ∀ k, 0 ≤ sumBy q k
  | 0 => Int.le_refl _
  | k + 1 => by have h1 := sumBy_nonneg q k; have h2 := byI_nonneg k q; simp only [sumBy]; omega
theorem sumBy_small (q : Int) : ∀ k : Nat, sumBy q k ≤ 4096 * k
  | 0 => by simp [sumBy]
  | k + 1 => by have h1 := sumBy_small q k; have h2 := byI_small k q; simp only [sumBy]; omega
end Go.Proofs.YtihaifnenjngpaaGreatDoor
