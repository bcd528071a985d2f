/-
  What lies in memory and the heap that it stands for; a heap as one thing, and as things side by side.
-/
import Derived.Test.YtihaifnenjngpaaGreatDoorHpCallsE
namespace Go.Proofs.YtihaifnenjngpaaGreatDoor
open Go.RowKit
open An

/-- The slots of a kind, as a shelf has them. -/
def shL (L : List Hd) (c : Nat) : List Bool := (List.range (sn c)).map (heldB L c)
section
variable {L L' : List Hd} {c d s t : Nat} {g : Pg}
theorem shL_length : (shL L c).length = sn c := by simp [shL]
theorem shL_get (hs : s < sn c) : (shL L c)[s]'(by rw [shL_length]; exact hs) = heldB L c s := by simp [shL]
theorem shL_isT (hs : s < sn c) : Sf.isT (shL L c) s = heldB L c s := by
  unfold Sf.isT Sf.hasN
  rw [shL_length, decide_eq_true ⟨by omega, by omega⟩, Bool.true_and, Int.toNat_natCast, List.getD_eq_getElem?_getD, List.getElem?_eq_getElem (by rw [shL_length]; exact hs), Option.getD_some, shL_get hs]
theorem shL_low : Sf.low (shL L c) = hSl L c := by
  rcases Cq.low_cases (fun s => !heldB L c s) (sn c) with ⟨h1, h2, h3⟩ | ⟨h1, h2⟩
  · have h1 : hSl L c < sn c := h1
    refine Sf.low_unique _ _ (by rw [shL_length]; exact h1) ?_ fun i hi => ?_
    · rw [shL_get h1]
      have h2 : (!heldB L c (hSl L c)) = true := h2
      simpa using h2
    · have hi : i < hSl L c := hi
      rw [shL_get (by omega)]
      have := h3 i hi
      simpa using this
  · have h1 : hSl L c = sn c := h1
    rw [h1, ← shL_length (L := L)]
    exact Sf.low_full _ fun i hi => by
      rw [shL_length] at hi
      rw [shL_get hi]
      have := h2 i hi
      simpa using this
theorem shL_yes (h : hSl L c < sn c) : Sf.lowI (shL L c) = (hSl L c : Int) := by unfold Sf.lowI; rw [shL_low, shL_length, if_pos h]
theorem shL_no (h : ¬ hSl L c < sn c) : Sf.lowI (shL L c) = -1 := by unfold Sf.lowI; rw [shL_low, shL_length, if_neg h]
theorem heldB_keys (h : L.map (fun x => (x.kind, x.slot)) = L'.map fun x => (x.kind, x.slot)) (c s : Nat) : heldB L c s = heldB L' c s := by
  have key : ∀ L : List Hd, heldB L c s = true ↔ (c, s) ∈ L.map fun x => (x.kind, x.slot) := fun L => by
    rw [heldB_iff, List.mem_map]
    constructor
    · rintro ⟨x, hx, h1, h2⟩; exact ⟨x, hx, by rw [h1, h2]⟩
    · rintro ⟨x, hx, h1⟩; simp only [Prod.mk.injEq] at h1; exact ⟨x, hx, h1⟩
  have : heldB L c s = true ↔ heldB L' c s = true := by rw [key L, key L', h]
  cases h1 : heldB L c s <;> cases h2 : heldB L' c s <;> simp_all
theorem shL_keys (h : L.map (fun x => (x.kind, x.slot)) = L'.map fun x => (x.kind, x.slot)) (c : Nat) : shL L c = shL L' c := by
  unfold shL
  apply List.map_congr_left
  intro s _
  exact heldB_keys h c s
theorem taS_in (hs : s < sn c) : Sf.taS (shL L c) s = (shL L c).set s true := by
  unfold Sf.taS Sf.hasN
  rw [shL_length, if_pos (by simp; omega), Int.toNat_natCast]
theorem giS_in (hs : s < sn c) : Sf.giS (shL L c) s = (shL L c).set s false := by
  unfold Sf.giS Sf.hasN
  rw [shL_length, if_pos (by simp; omega), Int.toNat_natCast]
theorem taE_in (hs : s < sn c) (hn : ¬ Held L c s) : Sf.taE (shL L c) s = 0 := by
  unfold Sf.taE
  rw [shL_isT hs, if_pos (by unfold Sf.hasN; rw [shL_length]; simp; omega)]
  have : heldB L c s = false := by
    cases h : heldB L c s
    · rfl
    · exact (hn (heldB_iff.1 h)).elim
  rw [this]; rfl
theorem giE_in (hs : s < sn c) (hn : Held L c s) : Sf.giE (shL L c) s = 0 := by
  unfold Sf.giE
  rw [shL_isT hs, heldB_iff.2 hn, if_pos (by unfold Sf.hasN; rw [shL_length]; simp; omega)]; rfl
theorem heldB_add : heldB (L ++ [⟨c, s, g⟩]) d t = (heldB L d t || decide (c = d ∧ s = t)) := by simp [heldB]
theorem heldB_del : heldB (hDel L c s) d t = (heldB L d t && decide (¬ (d = c ∧ t = s))) := by
  have : heldB (hDel L c s) d t = true ↔ (heldB L d t && decide (¬ (d = c ∧ t = s))) = true := by
    rw [heldB_iff, Bool.and_eq_true, heldB_iff, decide_eq_true_eq]
    constructor
    · rintro ⟨x, hx, rfl, rfl⟩
      have := mem_hDel.1 hx
      exact ⟨⟨x, this.1, rfl, rfl⟩, this.2⟩
    · rintro ⟨⟨x, hx, rfl, rfl⟩, h2⟩
      exact ⟨x, mem_hDel.2 ⟨hx, h2⟩, rfl, rfl⟩
  cases h1 : heldB (hDel L c s) d t <;> cases h2 : (heldB L d t && decide (¬ (d = c ∧ t = s))) <;> simp_all
theorem shL_add (hs : s < sn c) : shL (L ++ [⟨c, s, g⟩]) d = fset (shL L) c (Sf.taS (shL L c) s) d := by
  rw [taS_in hs]
  by_cases e : d = c
  · subst e
    rw [fset_same]
    apply List.ext_getElem (by rw [List.length_set, shL_length, shL_length])
    intro i h1 h2
    rw [shL_length] at h1
    rw [shL_get h1, List.getElem_set, heldB_add]
    by_cases e2 : s = i
    · subst e2; simp
    · rw [if_neg e2, shL_get h1]; simp [e2]
  · rw [fset_ne _ _ e]
    unfold shL
    apply List.map_congr_left
    intro i _
    rw [heldB_add]
    simp [show ¬ c = d from fun k => e k.symm]
theorem shL_del (hs : s < sn c) : shL (hDel L c s) d = fset (shL L) c (Sf.giS (shL L c) s) d := by
  rw [giS_in hs]
  by_cases e : d = c
  · subst e
    rw [fset_same]
    apply List.ext_getElem (by rw [List.length_set, shL_length, shL_length])
    intro i h1 h2
    rw [shL_length] at h1
    rw [shL_get h1, List.getElem_set, heldB_del]
    by_cases e2 : s = i
    · subst e2; simp
    · rw [if_neg e2, shL_get h1]; simp [show ¬ i = s from fun k => e2 k.symm]
  · rw [fset_ne _ _ e]
    unfold shL
    apply List.map_congr_left
    intro i _
    rw [heldB_del]
    simp [e]
end
/-- What lies in memory stands for that heap. -/
structure Rep17 (R : Rs) (H : Hp) : Prop where
  W : R.W = H.W
  T : R.T = H.T
  sh : ∀ c, c < 24 → R.sh c = shL H.L c
  ln : ∀ c, c < 8 → R.ln c = H.ln c
  pg : ∀ v g, v < 6400 → ((∃ p, R.pg v = some (p, g)) ↔ ∃ x ∈ H.L, x.kind ≤ 7 ∧ lo x.kind x.slot = (v : Int) ∧ x.pg = g)
  hi : ∀ v, 6400 ≤ v → R.pg v = none
  cn : R.cnt = pgN R.pg
theorem pgN_same {pg : Nat → Option (Nat × Pg)} {u : Nat} {y : Nat × Pg} (h : (pg u).isSome = true) : pgN (fset pg u (some y)) = pgN pg := by
  unfold pgN
  apply Cq.cnt_ext
  intro i _
  by_cases e : i = u
  · subst e; rw [fset_same, h]; rfl
  · rw [fset_ne _ _ e]
theorem pgN_more {pg : Nat → Option (Nat × Pg)} {u : Nat} {y : Nat × Pg} (hu : u < 6400) (h : pg u = none) : pgN (fset pg u (some y)) = pgN pg + 1 := by
  unfold pgN
  refine Cq.cnt_less 6400 hu (by rw [fset_same]; rfl) (by rw [h]; rfl) fun i _ hne => ?_
  rw [fset_ne _ _ hne]
theorem pgN_less {pg : Nat → Option (Nat × Pg)} {u : Nat} (hu : u < 6400) (h : (pg u).isSome = true) : pgN (fset pg u none) = pgN pg - 1 := by
  have : pgN pg = pgN (fset pg u none) + 1 := by
    unfold pgN
    refine Cq.cnt_less 6400 hu h (by rw [fset_same]; rfl) fun i _ hne => ?_
    rw [fset_ne _ _ hne]
  omega
section
variable {C : Nat → Prop} {M : Ms} {R : Rs} {H : Hp} {c s p : Nat} {g : Pg} {T' : Tb} {ln1 ln2 : Nat → List Int}
theorem lo_same {x : Hd} (h : HpOk C M H) (hx : x ∈ H.L) (hc : c ≤ 23) (hs : s < sn c) (e : lo x.kind x.slot = lo c s) : x.kind = c ∧ x.slot = s := by
  obtain ⟨a1, a2⟩ := h.at_ x hx
  have p1 := (pn_facts a1).1.1
  have p2 := (pn_facts hc).1.1
  have := lo_one a1 a2 hc hs (i := 0) (i' := 0) (by omega) (by omega) (by simpa using e)
  exact ⟨this.1, this.2.1⟩
theorem Rep17.at (r : Rep17 R H) (h : HpOk C M H) {x : Hd} (hx : x ∈ H.L) (h7 : x.kind ≤ 7) : ∃ p, R.pg (lo x.kind x.slot).toNat = some (p, x.pg) := by
  obtain ⟨l1, l2⟩ := lo_small_in h7 (h.at_ x hx).2
  exact (r.pg _ x.pg l2).2 ⟨x, hx, h7, l1, rfl⟩
theorem Rep17.empty (r : Rep17 R H) (h : HpOk C M H) (h7 : c ≤ 7) (hs : s < sn c) (hn : ¬ Held H.L c s) : R.pg (lo c s).toNat = none := by
  obtain ⟨l1, l2⟩ := lo_small_in h7 hs
  cases e : R.pg (lo c s).toNat with
  | none => rfl
  | some y =>
    exfalso
    obtain ⟨x, hx, x1, x2, _⟩ := (r.pg _ y.2 l2).1 ⟨y.1, e⟩
    rw [← l1] at x2
    have := lo_same h hx (by omega) hs x2
    exact hn ⟨x, hx, this⟩
theorem Rep17.ok (r : Rep17 R H) (h : HpOk C M H) : PgOk M R := fun v p g e => by
  by_cases hv : v < 6400
  · obtain ⟨x, hx, x1, _, rfl⟩ := (r.pg v g hv).1 ⟨p, e⟩
    exact (h.sm x hx x1).ok
  · rw [r.hi v (by omega)] at e; cases e
theorem ln_ok (h : HpOk C M H) (c : Nat) : LiOk (H.ln c) ∧ (H.ln c).length ≤ 5000 := by
  have key : ∀ v ∈ H.ln c, ∃ s : Nat, c ≤ 7 ∧ s < 256 ∧ v = lo c s ∧ lo c s = ((c + 1) * 256 + s : Nat) := fun v hv => by
    obtain ⟨x, hx, x1, x2, x3, _⟩ := ((h.ln c).2 v).1 hv
    obtain ⟨a1, a2⟩ := h.at_ x hx
    subst x1
    have := (pn_facts a1).2.1.2
    exact ⟨x.slot, x2, by omega, x3, lo_small x2 _⟩
  refine ⟨⟨(h.ln c).1, fun v hv => ?_⟩, ?_⟩
  · obtain ⟨s, h1, h2, h3, h4⟩ := key v hv
    omega
  · have hn : ((H.ln c).map Int.toNat).Nodup := by
      rw [List.nodup_iff_pairwise_ne, List.pairwise_map]
      refine List.Pairwise.imp_of_mem ?_ (List.nodup_iff_pairwise_ne.1 (h.ln c).1)
      intro a b ha hb hne e
      obtain ⟨s, h1, h2, h3, h4⟩ := key a ha
      obtain ⟨s', k1, k2, k3, k4⟩ := key b hb
      exact hne (by omega)
    have := nodup_short 2304 _ hn fun v hv => by
      obtain ⟨a, ha, rfl⟩ := List.mem_map.1 hv
      obtain ⟨s, h1, h2, h3, h4⟩ := key a ha
      omega
    rw [List.length_map] at this
    omega
/-- A small page turns. -/
theorem Rep17.page (r : Rep17 R H) (h : HpOk C M H) {x : Hd} (hx : x ∈ H.L) (h7 : x.kind ≤ 7) (hp : R.pg (lo x.kind x.slot).toNat = some (p, x.pg)) (hl : ∀ c, c < 8 → ln1 c = ln2 c) : Rep17 ⟨R.W, R.T, R.sh, ln1, fset R.pg (lo x.kind x.slot).toNat (some (p, g)), R.cnt⟩ ⟨H.W, H.T, hSet H.L x.kind x.slot g, ln2⟩ := by
  obtain ⟨a1, a2⟩ := h.at_ x hx
  obtain ⟨l1, l2⟩ := lo_small_in h7 a2
  refine ⟨r.W, r.T, fun c hc => ?_, hl, fun v g' hv => ?_, fun v hv => ?_, ?_⟩
  · rw [r.sh c hc]; exact (shL_keys hSet_keys c).symm
  · show (∃ p', fset R.pg (lo x.kind x.slot).toNat (some (p, g)) v = some (p', g')) ↔ ∃ y ∈ hSet H.L x.kind x.slot g, _
    by_cases e : v = (lo x.kind x.slot).toNat
    · subst e
      rw [fset_same]
      constructor
      · rintro ⟨p', e⟩
        simp only [Option.some.injEq, Prod.mk.injEq] at e
        exact ⟨⟨x.kind, x.slot, g⟩, (mem_hSet h.nd hx).2 (.inl rfl), h7, l1, e.2⟩
      · rintro ⟨y, hy, y1, y2, y3⟩
        rcases (mem_hSet h.nd hx).1 hy with rfl | ⟨e1, e2⟩
        · exact ⟨p, by rw [← y3]⟩
        · rw [← l1] at y2
          exact (e2 (lo_same h e1 a1 a2 y2)).elim
    · rw [fset_ne _ _ e, r.pg v g' hv]
      constructor
      · rintro ⟨y, hy, y1, y2, y3⟩
        exact ⟨y, (mem_hSet h.nd hx).2 (.inr ⟨hy, fun e2 => e (by rw [e2.1, e2.2] at y2; omega)⟩), y1, y2, y3⟩
      · rintro ⟨y, hy, y1, y2, y3⟩
        rcases (mem_hSet h.nd hx).1 hy with rfl | ⟨e1, e2⟩
        · exact (e (by have y2 : lo x.kind x.slot = v := y2; omega)).elim
        · exact ⟨y, e1, y1, y2, y3⟩
  · show fset R.pg (lo x.kind x.slot).toNat (some (p, g)) v = none
    rw [fset_ne _ _ (by omega)]; exact r.hi v hv
  · show R.cnt = pgN (fset R.pg _ _)
    rw [pgN_same (by rw [hp]; rfl)]; exact r.cn
/-- A run is held. -/
theorem Rep17.run (r : Rep17 R H) (h8 : 8 ≤ c) (hc : c ≤ 23) (hs : s < sn c) : Rep17 ⟨R.W, T', fset R.sh c (Sf.taS (R.sh c) s), R.ln, R.pg, R.cnt⟩ ⟨H.W, T', H.L ++ [⟨c, s, g⟩], H.ln⟩ := by
  refine ⟨r.W, rfl, fun d hd => ?_, r.ln, fun v g' hv => ?_, r.hi, r.cn⟩
  · show fset R.sh c (Sf.taS (R.sh c) s) d = shL (H.L ++ [⟨c, s, g⟩]) d
    rw [shL_add hs, r.sh c (by omega)]
    by_cases e : d = c
    · subst e; rw [fset_same, fset_same]
    · rw [fset_ne _ _ e, fset_ne _ _ e, r.sh d hd]
  · rw [r.pg v g' hv]
    constructor
    · rintro ⟨y, hy, rest⟩; exact ⟨y, List.mem_append_left _ hy, rest⟩
    · rintro ⟨y, hy, y1, rest⟩
      rcases List.mem_append.1 hy with e | e
      · exact ⟨y, e, y1, rest⟩
      · simp only [List.mem_singleton] at e
        subst e
        have y1 : c ≤ 7 := y1
        omega
/-- A small slot is held, with its page. -/
theorem Rep17.small (r : Rep17 R H) (h : HpOk C M H) (h7 : c ≤ 7) (hs : s < sn c) (hn : ¬ Held H.L c s) (hl : ∀ c, c < 8 → ln1 c = ln2 c) : Rep17 ⟨R.W, T', fset R.sh c (Sf.taS (R.sh c) s), ln1, fset R.pg (lo c s).toNat (some (p, g)), R.cnt + 1⟩ ⟨H.W, T', H.L ++ [⟨c, s, g⟩], ln2⟩ := by
  obtain ⟨l1, l2⟩ := lo_small_in h7 hs
  refine ⟨r.W, rfl, fun d hd => ?_, hl, fun v g' hv => ?_, fun v hv => ?_, ?_⟩
  · show fset R.sh c (Sf.taS (R.sh c) s) d = shL (H.L ++ [⟨c, s, g⟩]) d
    rw [shL_add hs, r.sh c (by omega)]
    by_cases e : d = c
    · subst e; rw [fset_same, fset_same]
    · rw [fset_ne _ _ e, fset_ne _ _ e, r.sh d hd]
  · show (∃ p', fset R.pg (lo c s).toNat (some (p, g)) v = some (p', g')) ↔ ∃ y ∈ H.L ++ [⟨c, s, g⟩], _
    by_cases e : v = (lo c s).toNat
    · subst e
      rw [fset_same]
      constructor
      · rintro ⟨p', e⟩
        simp only [Option.some.injEq, Prod.mk.injEq] at e
        exact ⟨⟨c, s, g⟩, by simp, h7, l1, e.2⟩
      · rintro ⟨y, hy, y1, y2, y3⟩
        rcases List.mem_append.1 hy with e | e
        · rw [← l1] at y2
          exact (hn ⟨y, e, lo_same h e (by omega) hs y2⟩).elim
        · simp only [List.mem_singleton] at e
          subst e
          exact ⟨p, by rw [← y3]⟩
    · rw [fset_ne _ _ e, r.pg v g' hv]
      constructor
      · rintro ⟨y, hy, rest⟩; exact ⟨y, List.mem_append_left _ hy, rest⟩
      · rintro ⟨y, hy, y1, y2, y3⟩
        rcases List.mem_append.1 hy with e2 | e2
        · exact ⟨y, e2, y1, y2, y3⟩
        · simp only [List.mem_singleton] at e2
          subst e2
          exact (e (by have y2 : lo c s = v := y2; omega)).elim
  · show fset R.pg (lo c s).toNat (some (p, g)) v = none
    rw [fset_ne _ _ (by omega)]; exact r.hi v hv
  · show R.cnt + 1 = pgN (fset R.pg _ _)
    rw [pgN_more l2 (r.empty h h7 hs hn), r.cn]
/-- A slot is let go of. -/
theorem Rep17.delRun (r : Rep17 R H) {x : Hd} (h8 : 8 ≤ x.kind) (hc : x.kind ≤ 23) (hs : x.slot < sn x.kind) : Rep17 ⟨R.W, T', fset R.sh x.kind (Sf.giS (R.sh x.kind) x.slot), R.ln, R.pg, R.cnt⟩ ⟨H.W, T', hDel H.L x.kind x.slot, H.ln⟩ := by
  refine ⟨r.W, rfl, fun d hd => ?_, r.ln, fun v g' hv => ?_, r.hi, r.cn⟩
  · show fset R.sh x.kind (Sf.giS (R.sh x.kind) x.slot) d = shL (hDel H.L x.kind x.slot) d
    rw [shL_del hs, r.sh x.kind (by omega)]
    by_cases e : d = x.kind
    · subst e; rw [fset_same, fset_same]
    · rw [fset_ne _ _ e, fset_ne _ _ e, r.sh d hd]
  · rw [r.pg v g' hv]
    constructor
    · rintro ⟨y, hy, y1, rest⟩; exact ⟨y, mem_hDel.2 ⟨hy, fun e => by omega⟩, y1, rest⟩
    · rintro ⟨y, hy, rest⟩; exact ⟨y, (mem_hDel.1 hy).1, rest⟩
theorem Rep17.delSmall (r : Rep17 R H) (h : HpOk C M H) {x : Hd} (hx : x ∈ H.L) (h7 : x.kind ≤ 7) (hp : R.pg (lo x.kind x.slot).toNat = some (p, x.pg)) (hl : ∀ c, c < 8 → ln1 c = ln2 c) : Rep17 ⟨R.W, T', fset R.sh x.kind (Sf.giS (R.sh x.kind) x.slot), ln1, fset R.pg (lo x.kind x.slot).toNat none, R.cnt - 1⟩ ⟨H.W, T', hDel H.L x.kind x.slot, ln2⟩ := by
  obtain ⟨a1, a2⟩ := h.at_ x hx
  obtain ⟨l1, l2⟩ := lo_small_in h7 a2
  refine ⟨r.W, rfl, fun d hd => ?_, hl, fun v g' hv => ?_, fun v hv => ?_, ?_⟩
  · show fset R.sh x.kind (Sf.giS (R.sh x.kind) x.slot) d = shL (hDel H.L x.kind x.slot) d
    rw [shL_del a2, r.sh x.kind (by omega)]
    by_cases e : d = x.kind
    · subst e; rw [fset_same, fset_same]
    · rw [fset_ne _ _ e, fset_ne _ _ e, r.sh d hd]
  · show (∃ p', fset R.pg (lo x.kind x.slot).toNat none v = some (p', g')) ↔ ∃ y ∈ hDel H.L x.kind x.slot, _
    by_cases e : v = (lo x.kind x.slot).toNat
    · subst e
      rw [fset_same]
      constructor
      · rintro ⟨p', e⟩; cases e
      · rintro ⟨y, hy, y1, y2, y3⟩
        rw [← l1] at y2
        exact ((mem_hDel.1 hy).2 (lo_same h (mem_hDel.1 hy).1 a1 a2 y2)).elim
    · rw [fset_ne _ _ e, r.pg v g' hv]
      constructor
      · rintro ⟨y, hy, y1, y2, y3⟩
        exact ⟨y, mem_hDel.2 ⟨hy, fun e2 => e (by rw [e2.1, e2.2] at y2; omega)⟩, y1, y2, y3⟩
      · rintro ⟨y, hy, rest⟩; exact ⟨y, (mem_hDel.1 hy).1, rest⟩
  · show fset R.pg (lo x.kind x.slot).toNat none v = none
    rw [fset_ne _ _ (by omega)]; exact r.hi v hv
  · show R.cnt - 1 = pgN (fset R.pg _ _)
    rw [pgN_less l2 (by rw [hp]; rfl), r.cn]
end
end Go.Proofs.YtihaifnenjngpaaGreatDoor
