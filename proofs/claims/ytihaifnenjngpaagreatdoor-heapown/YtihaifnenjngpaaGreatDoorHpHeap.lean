/-
  A heap and what each call leaves of it: mathematics. Malloc.
-/
import Derived.Test.YtihaifnenjngpaaGreatDoorHpPages
namespace Go.Proofs.YtihaifnenjngpaaGreatDoor
open Go.RowKit
open An

/-- A small slot with its page. -/
structure SmOk (bs : List UInt8) (T : Tb) (x : Hd) : Prop where
  ok : x.pg.Ok bs
  cl : x.pg.Clean bs
  kd : x.pg.kind = x.kind
  at_ : (x.pg.base : Int) = tbF T (lo x.kind x.slot) * 512
/-- A right heap; C: where its pages may lie. -/
structure HpOk (C : Nat → Prop) (m : Ms) (H : Hp) : Prop where
  tp : TpOk C m.has H.T
  nd : (H.L.map fun x => (x.kind, x.slot)).Nodup
  at_ : ∀ x ∈ H.L, x.kind ≤ 23 ∧ x.slot < sn x.kind
  dom : ∀ y ∈ H.T, ∃ x ∈ H.L, ∃ i : Nat, i < pn x.kind ∧ y.1 = lo x.kind x.slot + i
  cov : ∀ x ∈ H.L, ∀ i : Nat, i < pn x.kind → ¬ tbF H.T (lo x.kind x.slot + i) < 0
  sm : ∀ x ∈ H.L, x.kind ≤ 7 → SmOk m.bs H.T x
  ln : ∀ c, (H.ln c).Nodup ∧ ∀ v, v ∈ H.ln c ↔ ∃ x ∈ H.L, x.kind = c ∧ c ≤ 7 ∧ v = lo c x.slot ∧ ¬ x.pg.Full
section
variable {C : Nat → Prop} {k : Nat} {m m' : Ms} {H : Hp} {bs bs' : List UInt8} {g : Pg} {T T' : Tb} {L : List Hd} {c s : Nat}
theorem Pg.Ok.ext (h : g.Ok bs) (hl : bs'.length = bs.length) (hw : win bs' g.base = win bs g.base) : g.Ok bs' :=
  ⟨h.kind, h.mod, by rw [hl]; exact h.fit, rep_win h.kind hw h.lr h.r, rep_win h.kind hw h.ld h.d, h.nd, h.lt, h.fr⟩
theorem byte_win {b i : Nat} (hw : win bs' b = win bs b) (h1 : b ≤ i) (h2 : i < b + 512) : bs'[i]? = bs[i]? := by
  have e1 := win_get? bs b (i - b) (by omega)
  have e2 := win_get? bs' b (i - b) (by omega)
  rw [show b + (i - b) = i by omega] at e1 e2
  rw [← e1, ← e2, hw]
theorem Pg.Clean.ext (h : g.Clean bs) (hw : win bs' g.base = win bs g.base) : g.Clean bs' := fun i h1 h2 hne => h i h1 h2 (by rw [byte_win hw h1 h2] at hne; exact hne)
theorem SmOk.ext {x : Hd} (h : SmOk bs T x) (hl : bs'.length = bs.length) (hw : win bs' x.pg.base = win bs x.pg.base) (hf : tbF T' (lo x.kind x.slot) = tbF T (lo x.kind x.slot)) : SmOk bs' T' x :=
  ⟨h.ok.ext hl hw, h.cl.ext hw, h.kd, by rw [hf]; exact h.at_⟩
theorem SmOk.page {x : Hd} (h : SmOk bs T x) (tb : TbOk T) : ∃ q : Nat, x.pg.base = q * 512 ∧ (lo x.kind x.slot, (q : Int)) ∈ T := by
  have h1 := h.at_
  have h2 := h.ok.mod
  refine ⟨x.pg.base / 512, by omega, ?_⟩
  have h3 : tbF T (lo x.kind x.slot) = ((x.pg.base / 512 : Nat) : Int) := by omega
  have := tb.f_some (v := lo x.kind x.slot) (by omega)
  rw [h3] at this
  exact this
/-- What is held is found. -/
theorem hAt_mem {x : Hd} (nd : (L.map fun x => (x.kind, x.slot)).Nodup) (hx : x ∈ L) : hAt L x.kind x.slot = some x := by
  unfold hAt
  induction L with
  | nil => simp at hx
  | cons y r ih =>
    rw [List.map_cons, List.nodup_cons] at nd
    rcases List.mem_cons.1 hx with rfl | e
    · rw [List.find?_cons_of_pos (by simp)]
    · rw [List.find?_cons_of_neg, ih nd.2 e]
      intro h
      simp only [decide_eq_true_eq] at h
      exact nd.1 (List.mem_map.2 ⟨x, e, by rw [h.1, h.2]⟩)
theorem hAt_some {x : Hd} (h : hAt L c s = some x) : x ∈ L ∧ x.kind = c ∧ x.slot = s := by
  unfold hAt at h
  have := List.find?_some h
  simp only [decide_eq_true_eq] at this
  exact ⟨List.mem_of_find?_eq_some h, this⟩
theorem hAt_none (h : hAt L c s = none) : ¬ Held L c s := by
  unfold hAt at h
  rw [List.find?_eq_none] at h
  rintro ⟨x, hx, e⟩
  exact h x hx (by simpa using e)
theorem slot_one {x y : Hd} (nd : (L.map fun x => (x.kind, x.slot)).Nodup) (hx : x ∈ L) (hy : y ∈ L) (h1 : x.kind = y.kind) (h2 : x.slot = y.slot) : x = y := by
  have e1 := hAt_mem nd hx
  have e2 := hAt_mem nd hy
  rw [h1, h2, e2] at e1
  exact (Option.some.inj e1).symm
theorem hSl_free (h : hSl L c < sn c) : ¬ Held L c (hSl L c) := by
  rcases Cq.low_cases (fun s => !heldB L c s) (sn c) with ⟨_, h2, _⟩ | ⟨h2, _⟩
  · intro e
    have : (!heldB L c (hSl L c)) = true := h2
    rw [heldB_iff.2 e] at this
    cases this
  · have : hSl L c = sn c := h2
    omega
theorem mem_hSet {y : Hd} (_nd : (L.map fun x => (x.kind, x.slot)).Nodup) {x : Hd} (hx : x ∈ L) : y ∈ hSet L x.kind x.slot g ↔ y = ⟨x.kind, x.slot, g⟩ ∨ (y ∈ L ∧ ¬ (y.kind = x.kind ∧ y.slot = x.slot)) := by
  unfold hSet
  rw [List.mem_map]
  constructor
  · rintro ⟨z, hz, rfl⟩
    by_cases e : z.kind = x.kind ∧ z.slot = x.slot
    · rw [if_pos e, e.1, e.2]; exact .inl rfl
    · rw [if_neg e]; exact .inr ⟨hz, e⟩
  · rintro (rfl | ⟨h1, h2⟩)
    · exact ⟨x, hx, by rw [if_pos ⟨rfl, rfl⟩]⟩
    · exact ⟨y, h1, by rw [if_neg h2]⟩
theorem hSet_keys : (hSet L c s g).map (fun x => (x.kind, x.slot)) = L.map fun x => (x.kind, x.slot) := by
  unfold hSet
  rw [List.map_map]
  apply List.map_congr_left
  intro x _
  by_cases e : x.kind = c ∧ x.slot = s
  · simp [e]
  · simp [e]
theorem mem_hDel {y : Hd} : y ∈ hDel L c s ↔ y ∈ L ∧ ¬ (y.kind = c ∧ y.slot = s) := by unfold hDel; rw [List.mem_filter, decide_eq_true_eq]
theorem Like.refl (h : g.Ok bs) : Like g g bs bs := ⟨rfl, rfl, rfl, rfl, rfl, h.mod, h.fit⟩
/-- The page of a small slot is of nobody else. -/
theorem HpOk.base_ne (h : HpOk C m H) {x y : Hd} (hx : x ∈ H.L) (hy : y ∈ H.L) (hk : x.kind ≤ 7) (hk2 : y.kind ≤ 7) (hne : ¬ (y.kind = x.kind ∧ y.slot = x.slot)) : y.pg.base + 512 ≤ x.pg.base ∨ x.pg.base + 512 ≤ y.pg.base := by
  obtain ⟨q, e1, m1⟩ := (h.sm x hx hk).page h.tp.tb
  obtain ⟨r, e2, m2⟩ := (h.sm y hy hk2).page h.tp.tb
  have : q ≠ r := fun e => by
    subst e
    have h1 := tbH_mem h.tp.tb m1
    rw [tbH_mem h.tp.tb m2] at h1
    obtain ⟨a1, a2⟩ := h.at_ x hx
    obtain ⟨b1, b2⟩ := h.at_ y hy
    have p1 := (pn_facts a1).1.1
    have p2 := (pn_facts b1).1.1
    have := lo_one b1 b2 a1 a2 (i := 0) (i' := 0) (by omega) (by omega) (by simpa using h1)
    exact hne ⟨this.1, this.2.1⟩
  omega
/-- The page of a small slot turns. -/
theorem HpOk.page (h : HpOk C m H) (ok : MsOk m) {x : Hd} (hx : x ∈ H.L) (hk : x.kind ≤ 7) {g' : Pg} {bs' : List UInt8} {ss' : List Sp} {ln' : Nat → List Int} (p1 : g'.Ok bs') (p2 : g'.Clean bs') (p3 : g'.base = x.pg.base) (p4 : g'.kind = x.kind) (p6 : bs'.length = m.bs.length)
    (p7 : ∀ b, (b + 512 ≤ x.pg.base ∨ x.pg.base + 512 ≤ b) → win bs' b = win m.bs b) (hl : ∀ c, (ln' c).Nodup ∧ ∀ v, v ∈ ln' c ↔ if c = x.kind ∧ v = lo x.kind x.slot then ¬ g'.Full else v ∈ H.ln c) :
    HpOk C ⟨m.has, bs', ss'⟩ ⟨H.W, H.T, hSet H.L x.kind x.slot g', ln'⟩ ∧ MsOk ⟨m.has, bs', ss'⟩ ∧ Stp m H.T ⟨m.has, bs', ss'⟩ H.T := by
  obtain ⟨q, e1, m1⟩ := (h.sm x hx hk).page h.tp.tb
  have hon := (h.tp.on ⟨_, m1⟩).1
  have hfar : ∀ r : Nat, r ≠ q → win bs' (r * 512) = win m.bs (r * 512) := fun r hr => p7 _ (by omega)
  have hms : MsOk ⟨m.has, bs', ss'⟩ := ⟨by rw [← ok.len]; exact p6, ok.cap, fun r hr hf => by
    have : r ≠ q := fun e => by subst e; have hf : m.has.getD r true = false := hf; rw [hon] at hf; cases hf
    show win bs' (r * 512) = _
    rw [hfar r this]; exact ok.cl r hr hf⟩
  have hmem := fun y => mem_hSet (y := y) (g := g') h.nd hx
  refine ⟨⟨h.tp, by rw [hSet_keys]; exact h.nd, fun y hy => ?_, fun y hy => ?_, fun y hy i hi => ?_, fun y hy hy7 => ?_, fun c => ⟨(hl c).1, fun v => ?_⟩⟩, hms, ⟨rfl, p6, fun r hr h1 _ => ⟨rfl, hfar r fun e => h1 (by subst e; exact ⟨_, m1⟩)⟩, fun r h1 h2 => (h2 h1).elim, fun r h1 h2 => (h2 h1).elim⟩⟩
  · rcases (hmem y).1 hy with rfl | e
    · exact h.at_ x hx
    · exact h.at_ y e.1
  · obtain ⟨z, hz, i, hi, e⟩ := h.dom y hy
    by_cases e2 : z.kind = x.kind ∧ z.slot = x.slot
    · exact ⟨⟨x.kind, x.slot, g'⟩, (hmem _).2 (.inl rfl), i, by rw [← e2.1]; exact hi, by rw [← e2.1, ← e2.2]; exact e⟩
    · exact ⟨z, (hmem _).2 (.inr ⟨hz, e2⟩), i, hi, e⟩
  · rcases (hmem y).1 hy with rfl | e
    · exact h.cov x hx i hi
    · exact h.cov y e.1 i hi
  · rcases (hmem y).1 hy with rfl | e
    · exact ⟨p1, p2, p4, by show (g'.base : Int) = _; rw [p3]; exact (h.sm x hx hk).at_⟩
    · exact (h.sm y e.1 hy7).ext p6 (p7 _ (h.base_ne hx e.1 hk hy7 e.2)) rfl
  · have hlv := (hl c).2 v
    rw [hlv]
    obtain ⟨a1, a2⟩ := h.at_ x hx
    have p1' := (pn_facts a1).1.1
    by_cases e : c = x.kind ∧ v = lo x.kind x.slot
    · rw [if_pos e]
      constructor
      · intro hf
        exact ⟨⟨x.kind, x.slot, g'⟩, (hmem _).2 (.inl rfl), e.1.symm, by omega, by rw [e.1]; exact e.2, hf⟩
      · rintro ⟨y, hy, y1, y2, y3, y4⟩
        rcases (hmem y).1 hy with rfl | e3
        · exact y4
        · exfalso
          obtain ⟨b1, b2⟩ := h.at_ y e3.1
          have p2' := (pn_facts b1).1.1
          have := lo_one b1 b2 a1 a2 (i := 0) (i' := 0) (by omega) (by omega) (by rw [y1, ← y3, e.2])
          exact e3.2 ⟨this.1, this.2.1⟩
    · rw [if_neg e, (h.ln c).2 v]
      constructor
      · rintro ⟨y, hy, y1, y2, y3, y4⟩
        refine ⟨y, (hmem y).2 (.inr ⟨hy, fun e3 => e ⟨by rw [← y1, e3.1], by rw [← e3.1, ← e3.2, y1]; exact y3⟩⟩), y1, y2, y3, y4⟩
      · rintro ⟨y, hy, y1, y2, y3, y4⟩
        rcases (hmem y).1 hy with rfl | e3
        · exact (e ⟨y1.symm, by rw [y3, ← y1]⟩).elim
        · exact ⟨y, e3.1, y1, y2, y3, y4⟩
/-- A slot is let go of. -/
theorem HpOk.del (h : HpOk C m H) (ok : MsOk m) {x : Hd} (hx : x ∈ H.L) {ln' : Nat → List Int} (hl : ∀ c, (ln' c).Nodup ∧ ∀ v, v ∈ ln' c ↔ v ∈ H.ln c ∧ ¬ (c = x.kind ∧ v = lo x.kind x.slot)) :
    HpOk C (letN (pn x.kind) (lo x.kind x.slot) m H.T).1 ⟨H.W, (letN (pn x.kind) (lo x.kind x.slot) m H.T).2, hDel H.L x.kind x.slot, ln'⟩ ∧ Went C (pn x.kind) (lo x.kind x.slot) m H.T (letN (pn x.kind) (lo x.kind x.slot) m H.T).1 (letN (pn x.kind) (lo x.kind x.slot) m H.T).2 := by
  have w := letN_spec (C := C) (pn x.kind) (lo x.kind x.slot) m H.T h.tp ok fun i hi => h.cov x hx i hi
  obtain ⟨a1, a2⟩ := h.at_ x hx
  generalize (letN (pn x.kind) (lo x.kind x.slot) m H.T).1 = m' at *
  generalize (letN (pn x.kind) (lo x.kind x.slot) m H.T).2 = T' at *
  have hfar : ∀ y ∈ H.L, ¬ (y.kind = x.kind ∧ y.slot = x.slot) → ∀ i : Nat, i < pn y.kind → ∀ j : Nat, j < pn x.kind → lo y.kind y.slot + i ≠ lo x.kind x.slot + j := fun y hy hne i hi j hj e => by
    obtain ⟨b1, b2⟩ := h.at_ y hy
    have := lo_one b1 b2 a1 a2 hi hj e
    exact hne ⟨this.1, this.2.1⟩
  refine ⟨⟨w.ok, ?_, fun y hy => h.at_ y (mem_hDel.1 hy).1, fun y hy => ?_, fun y hy i hi => ?_, fun y hy hy7 => ?_, fun c => ⟨(hl c).1, fun v => ?_⟩⟩, w⟩
  · unfold hDel; exact List.Nodup.sublist (List.Sublist.map _ List.filter_sublist) h.nd
  · have hy2 := (w.mem y).1 hy
    obtain ⟨z, hz, i, hi, e⟩ := h.dom y hy2.1
    refine ⟨z, mem_hDel.2 ⟨hz, fun e2 => ?_⟩, i, hi, e⟩
    exact hy2.2 i (by rw [← e2.1]; exact hi) (by rw [e, e2.1, e2.2])
  · have hy2 := mem_hDel.1 hy
    rw [w.far _ fun j hj => hfar y hy2.1 hy2.2 i hi j hj]
    exact h.cov y hy2.1 i hi
  · have hy2 := mem_hDel.1 hy
    have p := (pn_facts (h.at_ y hy2.1).1).1.1
    have hs := h.sm y hy2.1 hy7
    have hff : tbF T' (lo y.kind y.slot) = tbF H.T (lo y.kind y.slot) := w.far _ fun j hj => by have := hfar y hy2.1 hy2.2 0 (by omega) j hj; simpa using this
    obtain ⟨q, e1, m1⟩ := hs.page h.tp.tb
    have m2 : (lo y.kind y.slot, (q : Int)) ∈ T' := (w.mem _).2 ⟨m1, fun j hj => by have := hfar y hy2.1 hy2.2 0 (by omega) j hj; simpa using this⟩
    exact hs.ext w.stp.bl (by rw [e1]; exact w.win q ⟨_, m2⟩) hff
  · rw [(hl c).2 v, (h.ln c).2 v]
    constructor
    · rintro ⟨⟨y, hy, y1, y2, y3, y4⟩, e⟩
      exact ⟨y, mem_hDel.2 ⟨hy, fun e2 => e ⟨by rw [← y1, e2.1], by rw [y3, ← y1, e2.1, e2.2]⟩⟩, y1, y2, y3, y4⟩
    · rintro ⟨y, hy, y1, y2, y3, y4⟩
      have hy2 := mem_hDel.1 hy
      refine ⟨⟨y, hy2.1, y1, y2, y3, y4⟩, fun e => ?_⟩
      obtain ⟨b1, b2⟩ := h.at_ y hy2.1
      have q1 := (pn_facts a1).1.1
      have q2 := (pn_facts b1).1.1
      have := lo_one b1 b2 a1 a2 (i := 0) (i' := 0) (by omega) (by omega) (by rw [y1, ← y3, e.2])
      exact hy2.2 ⟨this.1, this.2.1⟩
/-- A slot is held. -/
theorem HpOk.add (h : HpOk C m H) (_ : MsOk m) {has' : List Bool} {T' : Tb} (hc : c ≤ 23) (hs : s < sn c) (hn : ¬ Held H.L c s) (tk : Took C k H.W (pn c) (lo c s) m.has H.T has' T') (hg : c ≤ 7 → SmOk m.bs T' ⟨c, s, g⟩) {ln' : Nat → List Int} {ss' : List Sp}
    (hl : ∀ d, (ln' d).Nodup ∧ ∀ v, v ∈ ln' d ↔ v ∈ H.ln d ∨ (d = c ∧ c ≤ 7 ∧ v = lo c s ∧ ¬ g.Full)) : HpOk C ⟨has', m.bs, ss'⟩ ⟨H.W, T', H.L ++ [⟨c, s, g⟩], ln'⟩ := by
  have hfar : ∀ y ∈ H.L, ∀ i : Nat, i < pn y.kind → ∀ j : Nat, j < pn c → lo y.kind y.slot + i ≠ lo c s + j := fun y hy i hi j hj e => by
    obtain ⟨b1, b2⟩ := h.at_ y hy
    have := lo_one b1 b2 hc hs hi hj e
    exact hn ⟨y, hy, this.1, this.2.1⟩
  have hmem : ∀ y : Hd, y ∈ H.L ++ [⟨c, s, g⟩] ↔ y ∈ H.L ∨ y = ⟨c, s, g⟩ := fun y => by simp
  refine ⟨tk.ok, ?_, fun y hy => ?_, fun y hy => ?_, fun y hy i hi => ?_, fun y hy hy7 => ?_, fun d => ⟨(hl d).1, fun v => ?_⟩⟩
  · rw [List.map_append, List.nodup_append]
    refine ⟨h.nd, by simp, fun a ha b hb e => ?_⟩
    obtain ⟨y, hy, rfl⟩ := List.mem_map.1 ha
    simp only [List.map_cons, List.map_nil, List.mem_singleton] at hb
    rw [hb] at e
    simp only [Prod.mk.injEq] at e
    exact hn ⟨y, hy, e.1, e.2⟩
  · rcases (hmem y).1 hy with e | rfl
    · exact h.at_ y e
    · exact ⟨hc, hs⟩
  · rcases tk.new y hy with e | ⟨⟨i, hi, e⟩, _⟩
    · obtain ⟨z, hz, i, hi, e2⟩ := h.dom y e
      exact ⟨z, (hmem z).2 (.inl hz), i, hi, e2⟩
    · exact ⟨⟨c, s, g⟩, (hmem _).2 (.inr rfl), i, hi, e⟩
  · rcases (hmem y).1 hy with e | rfl
    · rw [tk.far _ fun j hj => hfar y e i hi j hj]; exact h.cov y e i hi
    · exact tk.got i hi
  · rcases (hmem y).1 hy with e | rfl
    · have p := (pn_facts (h.at_ y e).1).1.1
      exact (h.sm y e hy7).ext rfl rfl (tk.far _ fun j hj => by have := hfar y e 0 (by omega) j hj; simpa using this)
    · exact hg hy7
  · rw [(hl d).2 v, (h.ln d).2 v]
    constructor
    · rintro (⟨y, hy, r⟩ | ⟨rfl, r1, r2, r3⟩)
      · exact ⟨y, (hmem y).2 (.inl hy), r⟩
      · exact ⟨⟨d, s, g⟩, (hmem _).2 (.inr rfl), rfl, r1, r2, r3⟩
    · rintro ⟨y, hy, r1, r2, r3, r4⟩
      rcases (hmem y).1 hy with e | rfl
      · exact .inl ⟨y, e, r1, r2, r3, r4⟩
      · have r1 : c = d := r1
        subst r1
        exact .inr ⟨rfl, r2, r3, r4⟩
/-- Another heap turns: this one stays right. -/
theorem HpOk.other {T T' : Tb} (h : HpOk C m H) (st : Stp m T m' T') (hd : ∀ q, Pgs H.T q → ¬ Pgs T q) : HpOk C m' H ∧ ∀ q, Pgs H.T q → ¬ Pgs T' q := by
  have hd2 : ∀ q, Pgs H.T q → ¬ Pgs T' q := fun q hq e => by
    have := st.new q e (hd q hq)
    rw [(h.tp.on hq).1] at this
    cases this
  have hout := fun q hq => st.out q (h.tp.lt hq) (hd q hq) (hd2 q hq)
  refine ⟨⟨⟨h.tp.tb, fun y hy => ?_⟩, h.nd, h.at_, h.dom, h.cov, fun x hx h7 => ?_, h.ln⟩, hd2⟩
  · obtain ⟨t1, t2, t3, t4⟩ := h.tp.tk y hy
    have hq : Pgs H.T y.2.toNat := ⟨y.1, by rw [show ((y.2.toNat : Nat) : Int) = y.2 by omega]; exact hy⟩
    refine ⟨t1, by rw [st.len]; exact t2, ?_, t4⟩
    rw [getD_in (by rw [st.len]; exact t2) (d' := true), (hout _ hq).1, getD_in t2 (d' := false)]
    exact t3
  · obtain ⟨q, e1, m1⟩ := (h.sm x hx h7).page h.tp.tb
    exact (h.sm x hx h7).ext st.bl (by rw [e1]; exact (hout q ⟨_, m1⟩).2) rfl
end
/-- A line is another one. -/
def lnS (ln : Nat → List Int) (c : Nat) (x : List Int) : Nat → List Int := fun d => if d = c then x else ln d
/-- A slot is held, with its pages. -/
def hHold (k : Nat) (m : Ms) (H : Hp) (c : Nat) : Option (Ms × Hp) :=
  if hSl H.L c < sn c ∧ pn c ≤ Cq.frI k m.has H.W then
    some (⟨(takN k H.W (pn c) (lo c (hSl H.L c)) m.has H.T).1, m.bs, m.ss⟩, ⟨H.W, (takN k H.W (pn c) (lo c (hSl H.L c)) m.has H.T).2, H.L ++ [⟨c, hSl H.L c, ⟨(tbF (takN k H.W (pn c) (lo c (hSl H.L c)) m.has H.T).2 (lo c (hSl H.L c))).toNat * 512, c, 0, [], []⟩⟩], H.ln⟩)
  else none
/-- A small block of the slot whose local page is v. -/
def hSm (m : Ms) (H : Hp) (c : Nat) (v : Int) : Ms × Hp × Int :=
  match hAt H.L c (v - lo c 0).toNat with
  | none => (m, H, 0)
  | some x => (⟨m.has, paB x.pg m.bs, paT x.pg m.ss⟩, ⟨H.W, H.T, hSet H.L c x.slot (paS x.pg), if (paS x.pg).Full then lnS H.ln c (liR (H.ln c) v) else H.ln⟩, adI c x.slot (paV x.pg))
/-- Malloc: what is left, the address, the error. -/
def hM (k : Nat) (m : Ms) (H : Hp) (n : Int) : Ms × Hp × Int × Int :=
  if ofI n < 0 then (m, H, 0, 2)
  else if 8 ≤ (ofI n).toNat then
    match hHold k m H (ofI n).toNat with
    | none => (m, H, 0, 13)
    | some r => (r.1, r.2, adI (ofI n) (hSl H.L (ofI n).toNat) 0, 0)
  else match H.ln (ofI n).toNat with
    | v :: _ => ((hSm m H (ofI n).toNat v).1, (hSm m H (ofI n).toNat v).2.1, (hSm m H (ofI n).toNat v).2.2, 0)
    | [] => match hHold k m H (ofI n).toNat with
      | none => (m, H, 0, 13)
      | some r =>
        let v := lo (ofI n).toNat (hSl H.L (ofI n).toNat)
        let H' : Hp := ⟨r.2.W, r.2.T, r.2.L, lnS r.2.ln (ofI n).toNat [v]⟩
        ((hSm r.1 H' (ofI n).toNat v).1, (hSm r.1 H' (ofI n).toNat v).2.1, (hSm r.1 H' (ofI n).toNat v).2.2, 0)
end Go.Proofs.YtihaifnenjngpaaGreatDoor
