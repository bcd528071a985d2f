/-
  Which blocks are had: mathematics.
-/
import Derived.Test.YtihaifnenjngpaaGreatDoorHpView
import Derived.Test.YtihaifnenjngpaaGreatDoorHpAwake
namespace Go.Proofs.YtihaifnenjngpaaGreatDoor
open Go.RowKit
open An

/-- A block is had. -/
def HadB (L : List Hd) (c s j : Nat) : Prop := ∃ x ∈ L, x.kind = c ∧ x.slot = s ∧ (c ≤ 7 → x.pg.Had j) ∧ j < (nuI c).toNat
section
variable {C : Nat → Prop} {k : Nat} {M : Ms} {H : Hp} {L : List Hd} {c s j : Nat}
theorem nu_small (h : c ≤ 7) : (nuI c).toNat = pp c := by
  obtain ⟨_, k2, _, _, k5⟩ := kind_facts c h
  unfold nuI
  rw [k5, if_neg (by omega)]
  simp
theorem nu_run (h : 8 ≤ c) (h2 : c ≤ 23) : (nuI c).toNat = 1 := by
  have : ∀ c : Fin 24, 8 ≤ (c : Nat) → (nuI c).toNat = 1 := by decide
  exact this ⟨c, by omega⟩ h
theorem HadB.there (h : HpOk C M H) (hb : HadB H.L c s j) : PlT c s j ∧ c ≤ 23 ∧ s < sn c := by
  obtain ⟨x, hx, rfl, rfl, _, hj⟩ := hb
  obtain ⟨c1, c2⟩ := h.at_ x hx
  obtain ⟨_, _, _, _, p5, _⟩ := pn_facts c1
  have f3 := (pl_facts (c := x.kind) (by omega) (by omega)).2.2.1
  exact ⟨⟨by omega, by rw [p5]; omega, by omega, by omega⟩, c1, c2⟩
theorem mem_hBl {a : Int} (nd : (L.map fun x => (x.kind, x.slot)).Nodup) (at_ : ∀ x ∈ L, x.kind ≤ 23 ∧ x.slot < sn x.kind) : a ∈ hBl L ↔ ∃ c s j : Nat, HadB L c s j ∧ a = adI c s j := by
  unfold hBl
  constructor
  · intro h
    obtain ⟨c, hc, h⟩ := List.mem_flatMap.1 h
    obtain ⟨s, hs, h⟩ := List.mem_flatMap.1 h
    cases e : hAt L c s with
    | none => rw [e] at h; cases h
    | some x =>
      rw [e] at h
      obtain ⟨j, hj, h⟩ := List.mem_filterMap.1 h
      obtain ⟨x1, x2, x3⟩ := hAt_some e
      split at h
      case isFalse => cases h
      case isTrue hor =>
        cases h
        refine ⟨c, s, j, ⟨x, x1, x2, x3, fun h7 => ?_, List.mem_range.1 hj⟩, rfl⟩
        rcases hor with e | e
        · omega
        · exact e
  · rintro ⟨c, s, j, ⟨x, hx, rfl, rfl, hh, hj⟩, rfl⟩
    obtain ⟨c1, c2⟩ := at_ x hx
    refine List.mem_flatMap.2 ⟨x.kind, List.mem_range.2 (by omega), List.mem_flatMap.2 ⟨x.slot, List.mem_range.2 c2, ?_⟩⟩
    rw [hAt_mem nd hx]
    refine List.mem_filterMap.2 ⟨j, List.mem_range.2 hj, ?_⟩
    rw [if_pos]
    by_cases h7 : x.kind ≤ 7
    · exact .inr (hh h7)
    · exact .inl (by omega)
/-- They rise. -/
theorem hBl_up (L : List Hd) : (hBl L).Pairwise (· < ·) := by
  have hblk : ∀ c s : Nat, ∀ a ∈ (match hAt L c s with
      | none => []
      | some x => (List.range (nuI c).toNat).filterMap fun j => if 8 ≤ c ∨ x.pg.Had j then some (adI c s j) else none : List Int), ∃ j : Nat, j < (nuI c).toNat ∧ a = adI c s j := fun c s a ha => by
    cases e : hAt L c s with
    | none => rw [e] at ha; cases ha
    | some x =>
      rw [e] at ha
      obtain ⟨j, hj, h⟩ := List.mem_filterMap.1 ha
      split at h
      · cases h; exact ⟨j, List.mem_range.1 hj, rfl⟩
      · cases h
  have hpl : ∀ {c s j : Nat}, c < 24 → s < sn c → j < (nuI c).toNat → PlT c s j := fun {c s j} hc hs hj => by
    obtain ⟨_, _, _, _, p5, _⟩ := pn_facts (show c ≤ 23 by omega)
    have f3 := (pl_facts (c := c) (by omega) (by omega)).2.2.1
    exact ⟨by omega, by rw [p5]; omega, by omega, by omega⟩
  unfold hBl
  rw [List.pairwise_flatMap]
  refine ⟨fun c hc => ?_, ?_⟩
  · have hc := List.mem_range.1 hc
    have f4 := (pl_facts (c := c) (by omega) (by omega)).2.2.2.1
    rw [List.pairwise_flatMap]
    refine ⟨fun s hs => ?_, ?_⟩
    · have hs := List.mem_range.1 hs
      cases e : hAt L c s with
      | none => exact .nil
      | some x =>
        show ((List.range (nuI c).toNat).filterMap fun j => if 8 ≤ c ∨ x.pg.Had j then some (adI c s j) else none).Pairwise (· < ·)
        rw [List.pairwise_filterMap]
        refine List.Pairwise.imp_of_mem ?_ List.pairwise_lt_range
        intro i j hi hj hij a ha b hb
        split at ha
        case isFalse => cases ha
        split at hb
        case isFalse => cases hb
        cases ha
        cases hb
        exact (PlT.lt_iff (hpl hc hs (List.mem_range.1 hi)) (hpl hc hs (List.mem_range.1 hj))).2 (.inr ⟨rfl, by omega⟩)
    · refine List.Pairwise.imp_of_mem ?_ List.pairwise_lt_range
      intro s s' hs hs' hlt a ha b hb
      obtain ⟨i, hi, rfl⟩ := hblk c s a ha
      obtain ⟨j, hj, rfl⟩ := hblk c s' b hb
      exact (PlT.lt_iff (hpl hc (List.mem_range.1 hs) hi) (hpl hc (List.mem_range.1 hs') hj)).2 (.inl (by omega))
  · refine List.Pairwise.imp_of_mem ?_ List.pairwise_lt_range
    intro c c' hc hc' hlt a ha b hb
    obtain ⟨s, hs, ha⟩ := List.mem_flatMap.1 ha
    obtain ⟨s', hs', hb⟩ := List.mem_flatMap.1 hb
    obtain ⟨i, hi, rfl⟩ := hblk c s a ha
    obtain ⟨j, hj, rfl⟩ := hblk c' s' b hb
    have h1 := (hpl (List.mem_range.1 hc) (List.mem_range.1 hs) hi).inside
    have h2 := (hpl (List.mem_range.1 hc') (List.mem_range.1 hs') hj).inside
    have f4 := (pl_facts (c := c) (by omega) (by have := List.mem_range.1 hc; omega)).2.2.2.1
    omega
theorem few_in : ∀ n : Nat, ∀ {l : List Nat}, (∀ j, j < n → j ∈ l) → n ≤ l.length
  | 0, _, _ => Nat.zero_le _
  | n + 1, l, h => by
    have h1 := few_in n (l := l.erase n) fun j hj => (List.mem_erase_of_ne (by omega)).2 (h j (by omega))
    have h2 := List.length_erase_of_mem (h n (by omega))
    have h3 : 0 < l.length := List.length_pos_of_mem (h n (by omega))
    omega
/-- A small page of which blocks are had has one. -/
theorem Pg.Ok.some_had {g : Pg} {bs : List UInt8} (h : g.Ok bs) (hu : 0 < g.used) : ∃ j, j < pp g.kind ∧ g.Had j := by
  by_cases e : ∃ j, j < pp g.kind ∧ g.Had j
  · exact e
  · exfalso
    have := few_in g.fresh (l := g.R ++ g.D) fun j hj => by
      by_cases hm : j ∈ g.R ++ g.D
      · exact hm
      · have hfr := h.fr
        rw [List.mem_append, not_or] at hm
        exact (e ⟨j, by omega, hj, hm.1, hm.2⟩).elim
    rw [List.length_append] at this
    unfold Pg.used at hu
    omega
theorem Pg.Ok.had_used {g : Pg} {bs : List UInt8} (h : g.Ok bs) {i : Nat} (hi : g.Had i) : 0 < g.used := by
  have := nodup_short g.fresh (i :: (g.R ++ g.D)) (List.nodup_cons.2 ⟨fun e => (List.mem_append.1 e).elim hi.2.1 hi.2.2, h.nd⟩) fun x hx => by
    rcases List.mem_cons.1 hx with rfl | e
    · exact hi.1
    · exact h.lt x e
  rw [List.length_cons, List.length_append] at this
  unfold Pg.used
  omega
/-- No block is had: nothing is held. -/
theorem HpOk.nothing (h : HpOk C M H) (us : Us H.L) (hb : ∀ c s j, ¬ HadB H.L c s j) : H.L = [] ∧ H.T = [] := by
  have hL : H.L = [] := by
    cases e : H.L with
    | nil => rfl
    | cons x r =>
      exfalso
      have hx : x ∈ H.L := by rw [e]; simp
      obtain ⟨c1, c2⟩ := h.at_ x hx
      by_cases h7 : x.kind ≤ 7
      · have hs := h.sm x hx h7
        obtain ⟨j, hj, hh⟩ := hs.ok.some_had (us x hx h7)
        exact hb x.kind x.slot j ⟨x, hx, rfl, rfl, fun _ => hh, by rw [nu_small h7, ← hs.kd]; exact hj⟩
      · exact hb x.kind x.slot 0 ⟨x, hx, rfl, rfl, fun e => (h7 e).elim, by rw [nu_run (by omega) c1]; omega⟩
  refine ⟨hL, ?_⟩
  cases e : H.T with
  | nil => rfl
  | cons y r =>
    exfalso
    obtain ⟨x, hx, _⟩ := h.dom y (by rw [e]; simp)
    rw [hL] at hx
    cases hx
/-- Free takes one block away. -/
theorem hF_had (h : HpOk C M H) (hb : HadB H.L c s j) : (hF M H c s j).2.2 = 0 ∧ ∀ c' s' j', HadB (hF M H c s j).2.1.L c' s' j' ↔ HadB H.L c' s' j' ∧ ¬ (c' = c ∧ s' = s ∧ j' = j) := by
  obtain ⟨x, hx, rfl, rfl, hh, hj⟩ := hb
  obtain ⟨c1, c2⟩ := h.at_ x hx
  have hat := hAt_mem h.nd hx
  have hhad : hHad H.L x.kind x.slot j = some x := by
    unfold hHad
    rw [hat]
    dsimp only
    rw [if_neg]
    rintro ⟨h7, hn⟩
    have hs := h.sm x hx h7
    exact hn ⟨⟨by omega, by rw [hs.kd, ← nu_small h7]; omega⟩, by simpa using hh h7⟩
  have hdel : ∀ c' s' j', HadB (hDel H.L x.kind x.slot) c' s' j' ↔ HadB H.L c' s' j' ∧ ¬ (c' = x.kind ∧ s' = x.slot) := fun c' s' j' => by
    constructor
    · rintro ⟨y, hy, rfl, rfl, y3⟩
      have := mem_hDel.1 hy
      exact ⟨⟨y, this.1, rfl, rfl, y3⟩, this.2⟩
    · rintro ⟨⟨y, hy, rfl, rfl, y3⟩, hn⟩
      exact ⟨y, mem_hDel.2 ⟨hy, hn⟩, rfl, rfl, y3⟩
  unfold hF
  rw [hhad]
  dsimp only
  by_cases h8 : 8 ≤ x.kind
  · rw [if_pos h8]
    refine ⟨rfl, fun c' s' j' => ?_⟩
    rw [hdel]
    refine ⟨fun ⟨a, b⟩ => ⟨a, fun e => b ⟨e.1, e.2.1⟩⟩, fun ⟨a, b⟩ => ⟨a, fun e => b ⟨e.1, e.2, ?_⟩⟩⟩
    obtain ⟨y, _, y1, _, _, y4⟩ := a
    rw [e.1, nu_run h8 c1] at y4
    rw [nu_run h8 c1] at hj
    omega
  · rw [if_neg h8]
    have h7 : x.kind ≤ 7 := by omega
    have hs := h.sm x hx h7
    have hm : x.pg.May j := ⟨⟨by omega, by rw [hs.kd, ← nu_small h7]; omega⟩, by simpa using hh h7⟩
    have hpf : pfS x.pg j = ⟨x.pg.base, x.pg.kind, x.pg.fresh, x.pg.R, j :: x.pg.D⟩ := by unfold pfS; rw [if_pos hm]; simp
    have hhd : ∀ i, (pfS x.pg j).Had i ↔ x.pg.Had i ∧ i ≠ j := fun i => by
      rw [hpf]
      unfold Pg.Had
      simp only [List.mem_cons, not_or]
      exact ⟨fun ⟨a, b, d, e⟩ => ⟨⟨a, b, e⟩, d⟩, fun ⟨⟨a, b, e⟩, d⟩ => ⟨a, b, d, e⟩⟩
    by_cases hu : (pfS x.pg j).used = 0
    · rw [if_pos hu]
      refine ⟨rfl, fun c' s' j' => ?_⟩
      rw [hdel]
      refine ⟨fun ⟨a, b⟩ => ⟨a, fun e => b ⟨e.1, e.2.1⟩⟩, fun ⟨a, b⟩ => ⟨a, fun e => ?_⟩⟩
      obtain ⟨y, hy, rfl, rfl, y3, y4⟩ := a
      obtain rfl := slot_one h.nd hy hx e.1 e.2
      have hi := (hhd j').2 ⟨y3 h7, fun e5 => b ⟨rfl, rfl, e5⟩⟩
      have := (hs.ok.free j).1.had_used hi
      omega
    · rw [if_neg hu]
      refine ⟨rfl, fun c' s' j' => ?_⟩
      constructor
      · rintro ⟨y, hy, rfl, rfl, y3, y4⟩
        rcases (mem_hSet h.nd hx).1 hy with rfl | e
        · have := (hhd j').1 (y3 h7)
          exact ⟨⟨x, hx, rfl, rfl, fun _ => this.1, y4⟩, fun e => this.2 e.2.2⟩
        · exact ⟨⟨y, e.1, rfl, rfl, y3, y4⟩, fun e2 => e.2 ⟨e2.1, e2.2.1⟩⟩
      · rintro ⟨⟨y, hy, rfl, rfl, y3, y4⟩, hn⟩
        by_cases e : y.kind = x.kind ∧ y.slot = x.slot
        · obtain rfl := slot_one h.nd hy hx e.1 e.2
          exact ⟨⟨y.kind, y.slot, pfS y.pg j⟩, (mem_hSet h.nd hx).2 (.inl rfl), rfl, rfl, fun h7 => (hhd j').2 ⟨y3 h7, fun e5 => hn ⟨rfl, rfl, e5⟩⟩, y4⟩
        · exact ⟨y, (mem_hSet h.nd hx).2 (.inr ⟨hy, e⟩), rfl, rfl, y3, y4⟩
theorem had_last {g : Pg} {c' s' j' : Nat} : HadB (L ++ [⟨c, s, g⟩]) c' s' j' ↔ HadB L c' s' j' ∨ (c' = c ∧ s' = s ∧ (c ≤ 7 → g.Had j') ∧ j' < (nuI c).toNat) := by
  constructor
  · rintro ⟨y, hy, rfl, rfl, y3, y4⟩
    rcases List.mem_append.1 hy with e | e
    · exact .inl ⟨y, e, rfl, rfl, y3, y4⟩
    · simp only [List.mem_singleton] at e; subst e; exact .inr ⟨rfl, rfl, y3, y4⟩
  · rintro (⟨y, hy, r⟩ | ⟨rfl, rfl, r3, r4⟩)
    · exact ⟨y, List.mem_append_left _ hy, r⟩
    · exact ⟨⟨c', s', g⟩, List.mem_append_right _ (List.mem_singleton.2 rfl), rfl, rfl, r3, r4⟩
/-- What Malloc gives. -/
structure Gave (C : Nat → Prop) (M : Ms) (H : Hp) (n : Int) (M' : Ms) (H' : Hp) (a : Int) (c s j : Nat) : Prop where
  kd : ofI n = (c : Int)
  at_ : a = adI c s j
  new : ¬ HadB H.L c s j
  had : ∀ c' s' j', HadB H'.L c' s' j' ↔ HadB H.L c' s' j' ∨ (c' = c ∧ s' = s ∧ j' = j)
  zero : ∀ i : Nat, i < (unitI c).toNat → lb H'.T M'.bs (a + i) = 0
theorem lb_zero {T : Tb} {bs : List UInt8} {a : Int} {q : Nat} (hq : tbF T (a / 512) = (q : Int)) (hw : win bs (q * 512) = nz 512) : lb T bs a = 0 := by
  unfold lb phys
  rw [hq, show ((q : Int) * 512 + a % 512).toNat = q * 512 + (a % 512).toNat by omega, ← win_get? bs (q * 512) _ (by omega), hw]
  exact nz_get _ _
theorem hM_had (h : HpOk C M H) (ok : MsOk M) {n : Int} {r : Ms × Hp × Int × Int} (w : MWay C k M H n r) : (r.2.2.2 ≠ 0 ∧ r.1 = M ∧ r.2.1 = H ∧ r.2.2.1 = 0) ∨ (r.2.2.2 = 0 ∧ ∃ c s j, Gave C M H n r.1 r.2.1 r.2.2.1 c s j) := by
  have hnone : ∀ {c s : Nat}, ¬ Held H.L c s → ∀ j, ¬ HadB H.L c s j := fun hn j ⟨y, hy, y1, y2, _⟩ => hn ⟨y, hy, y1, y2⟩
  rcases w with ⟨_, rfl⟩ | ⟨_, rfl, _⟩ | ⟨c, hc, h8, s, m', H', g, f, rfl⟩ | ⟨c, hc, h7, hln, s, m', H', q, f, hm, hq, rfl⟩ | ⟨c, hc, h7, x, hx, rfl, hf, _, rfl⟩
  · exact .inl ⟨by show (2 : Int) ≠ 0; decide, rfl, rfl, rfl⟩
  · exact .inl ⟨by show (13 : Int) ≠ 0; decide, rfl, rfl, rfl⟩
  · refine .inr ⟨rfl, c, s, 0, hc, rfl, hnone f.free 0, fun c' s' j' => ?_, fun i hi => ?_⟩
    · rw [f.eH, had_last, nu_run h8 f.fc]
      constructor
      · rintro (e | ⟨e1, e2, _, e4⟩)
        · exact .inl e
        · exact .inr ⟨e1, e2, by omega⟩
      · rintro (e | ⟨e1, e2, e3⟩)
        · exact .inl e
        · exact .inr ⟨e1, e2, fun e => by omega, by omega⟩
    · obtain ⟨t, ht, e⟩ := blk_at (x := ⟨c, s, g⟩) (j := 0) f.fc f.fs (by rw [nu_run h8 f.fc]; omega) hi
      have hg := f.took.got t ht
      have hm := f.took.ok.tb.f_some hg
      obtain ⟨q, hq⟩ : ∃ q : Nat, tbF H'.T (lo c s + t) = (q : Int) := ⟨(tbF H'.T (lo c s + t)).toNat, by omega⟩
      rw [hq] at hm
      have hql : q < M.has.length := by have := f.took.ok.lt ⟨_, hm⟩; rw [f.took.len] at this; exact this
      have hqf : M.has.getD q true = false := by
        rcases f.took.new _ hm with e5 | e5
        · exfalso
          obtain ⟨z, hz, i', hi', e6⟩ := h.dom _ e5
          obtain ⟨b1, b2⟩ := h.at_ z hz
          have := lo_one b1 b2 f.fc f.fs hi' ht e6.symm
          exact f.free ⟨z, hz, this.1, this.2.1⟩
        · simpa using e5.2
      rw [f.em]
      exact lb_zero (q := q) (by have e : (adI c s ((0 : Nat) : Int) + i) / 512 = lo c s + t := e; rw [show (adI (c : Int) (s : Int) 0 + (i : Int)) = adI c s ((0 : Nat) : Int) + i from rfl, e]; exact hq) (ok.cl q hql hqf)
  · obtain ⟨_, ⟨hp2, _⟩, _⟩ := kind_facts c h7
    have hfresh : ∀ j', Pg.Had ⟨q * 512, c, 1, [], []⟩ j' ↔ j' = 0 := fun j' => by unfold Pg.Had; simp
    refine .inr ⟨rfl, c, s, 0, hc, rfl, hnone f.free 0, fun c' s' j' => ?_, fun i hi => ?_⟩
    · rw [f.eH, had_last, nu_small h7]
      constructor
      · rintro (e | ⟨e1, e2, e3, _⟩)
        · exact .inl e
        · exact .inr ⟨e1, e2, (hfresh j').1 (e3 h7)⟩
      · rintro (e | ⟨e1, e2, e3⟩)
        · exact .inl e
        · exact .inr ⟨e1, e2, fun _ => (hfresh j').2 e3, by omega⟩
    · obtain ⟨t, ht, e⟩ := blk_at (x := ⟨c, s, ⟨0, 0, 0, [], []⟩⟩) (j := 0) f.fc f.fs (by rw [nu_small h7]; omega) hi
      have hp1 : pn c = 1 := ((pn_facts f.fc).2.2.2.2.2 h7).1
      have ht0 : t = 0 := by have ht : t < pn c := ht; omega
      subst ht0
      have hql : q < M.has.length := by have := f.took.ok.lt ⟨_, hm⟩; rw [f.took.len] at this; exact this
      rw [f.em]
      exact lb_zero (q := q) (by have e : (adI c s ((0 : Nat) : Int) + i) / 512 = lo c s + ((0 : Nat) : Int) := e; rw [show (adI (c : Int) (s : Int) 0 + (i : Int)) = adI c s ((0 : Nat) : Int) + i from rfl, e]; simp only [Int.natCast_zero, Int.add_zero]; exact tbF_mem f.took.ok.tb hm) (ok.cl q hql hq)
  · have hs := h.sm x hx h7
    have hg := hs.ok.given hs.cl hf
    have hv : paV x.pg = (paK x.pg : Int) := if_neg hf
    have hkd := hs.kd
    have hz := hg.zero hs.cl hs.ok ⟨rfl, rfl, rfl⟩ hf
    have hlt : paK x.pg < (nuI x.kind).toNat := by rw [nu_small h7, ← hkd]; exact hg.lt
    refine .inr ⟨rfl, x.kind, x.slot, paK x.pg, hc, by show adI _ _ (paV x.pg) = _; rw [hv], fun ⟨y, hy, y1, y2, y3, _⟩ => ?_, fun c' s' j' => ?_, fun i hi => ?_⟩
    · obtain rfl := slot_one h.nd hy hx y1 y2
      exact hg.was (y3 h7)
    · constructor
      · rintro ⟨y, hy, rfl, rfl, y3, y4⟩
        rcases (mem_hSet h.nd hx).1 hy with rfl | e
        · rcases (hg.had j').1 (y3 h7) with e | e
          · exact .inl ⟨x, hx, rfl, rfl, fun _ => e, y4⟩
          · exact .inr ⟨rfl, rfl, e⟩
        · exact .inl ⟨y, e.1, rfl, rfl, y3, y4⟩
      · rintro (⟨y, hy, rfl, rfl, y3, y4⟩ | ⟨rfl, rfl, rfl⟩)
        · by_cases e : y.kind = x.kind ∧ y.slot = x.slot
          · obtain rfl := slot_one h.nd hy hx e.1 e.2
            exact ⟨⟨y.kind, y.slot, paS y.pg⟩, (mem_hSet h.nd hx).2 (.inl rfl), rfl, rfl, fun h7 => (hg.had j').2 (.inl (y3 h7)), y4⟩
          · exact ⟨y, (mem_hSet h.nd hx).2 (.inr ⟨hy, e⟩), rfl, rfl, y3, y4⟩
        · exact ⟨⟨x.kind, x.slot, paS x.pg⟩, (mem_hSet h.nd hx).2 (.inl rfl), rfl, rfl, fun _ => (hg.had _).2 (.inr rfl), hlt⟩
    · show lb H.T (paB x.pg M.bs) (adI x.kind x.slot (paV x.pg) + i) = 0
      have hi : i < pu x.kind := hi
      unfold lb
      rw [hv, small_phys h hx h7 (by rw [← hkd]; exact hg.lt) hi, Int.toNat_natCast, ← blk_get? x.pg (paB x.pg M.bs) (paK x.pg) i (by rw [hkd]; exact hi), hz]
      exact nz_get _ _
end
end Go.Proofs.YtihaifnenjngpaaGreatDoor
