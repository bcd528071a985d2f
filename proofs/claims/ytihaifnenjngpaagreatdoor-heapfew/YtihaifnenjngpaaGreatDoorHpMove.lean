/-
  Malloc, Free, Usable: what they leave: mathematics.
  Move and Drop: what they leave: mathematics.
-/
import Derived.Test.YtihaifnenjngpaaGreatDoorHpHeap
namespace Go.Proofs.YtihaifnenjngpaaGreatDoor
open Go.RowKit
open An

section
variable {C : Nat → Prop} {k : Nat} {m : Ms} {H : Hp} {bs : List UInt8} {g : Pg} {T : Tb} {L : List Hd} {c s : Nat}
theorem lo_small (h : c ≤ 7) (s : Nat) : lo c s = ((c + 1) * 256 + s : Nat) := by
  rw [lo_eq (by omega), ((pn_facts (show c ≤ 23 by omega)).2.2.2.2.2 h).1, Nat.mul_one]
theorem slot_back (h : c ≤ 7) (s : Nat) : (lo c s - lo c 0).toNat = s := by rw [lo_small h, lo_small h]; omega
/-- The first small block of a page that nobody had. -/
theorem fresh_one {b : Nat} (h : c ≤ 7) : paS ⟨b, c, 0, [], []⟩ = ⟨b, c, 1, [], []⟩ ∧ paV ⟨b, c, 0, [], []⟩ = 0 ∧ (∀ bs, paB ⟨b, c, 0, [], []⟩ bs = bs) ∧ (∀ ss, paT ⟨b, c, 0, [], []⟩ ss = ss) ∧ ¬ Pg.Full ⟨b, c, 1, [], []⟩ := by
  obtain ⟨_, ⟨h2, _⟩, _⟩ := kind_facts c h
  have hf : ¬ Pg.Full ⟨b, c, 0, [], []⟩ := by unfold Pg.Full Pg.used; simp; omega
  have h1 : ¬ Pg.Full ⟨b, c, 1, [], []⟩ := by unfold Pg.Full Pg.used; simp; omega
  obtain ⟨_, e2, e3, _, e5⟩ := pa_F (bs := []) hf rfl rfl
  exact ⟨e3, by rw [e2]; rfl, fun bs => (pa_F (bs := bs) hf rfl rfl).2.2.2.1, e5, h1⟩
theorem fresh_sm (ok : MsOk m) (hc : c ≤ 7) {q : Nat} (hq : q < m.has.length) (hf : m.has.getD q true = false) (ht : tbF T (lo c s) = (q : Int)) : SmOk m.bs T ⟨c, s, ⟨q * 512, c, 1, [], []⟩⟩ := by
  obtain ⟨_, ⟨h2, _⟩, _⟩ := kind_facts c hc
  have hb : q * 512 + 512 ≤ m.bs.length := by have := ok.len; omega
  refine ⟨⟨hc, by show q * 512 % 512 = 0; omega, hb, trivial, trivial, List.nodup_nil, fun x hx => by simp at hx, by show 1 ≤ pp c; omega⟩, fun i h1 h2 hne => ?_, rfl, by rw [ht]; show ((q * 512 : Nat) : Int) = _; omega⟩
  exfalso
  have hw := ok.cl q hq hf
  have e1 := win_get? m.bs (q * 512) (i - q * 512) (by have h2 : i < q * 512 + 512 := h2; omega)
  rw [show q * 512 + (i - q * 512) = i by have h1 : q * 512 ≤ i := h1; omega, hw] at e1
  rw [← e1] at hne
  exact hne (nz_get _ _)
/-- What Malloc leaves where a slot is held anew. -/
structure Fresh (C : Nat → Prop) (k : Nat) (m : Ms) (H : Hp) (c s : Nat) (g : Pg) (ln' : Nat → List Int) (m' : Ms) (H' : Hp) : Prop where
  fc : c ≤ 23
  fs : s < sn c
  free : ¬ Held H.L c s
  low : s = hSl H.L c
  took : Took C k H.W (pn c) (lo c s) m.has H.T m'.has H'.T
  em : m' = ⟨m'.has, m.bs, m.ss⟩
  eH : H' = ⟨H.W, H'.T, H.L ++ [⟨c, s, g⟩], ln'⟩
/-- The ways of Malloc. -/
def MWay (C : Nat → Prop) (k : Nat) (m : Ms) (H : Hp) (n : Int) (r : Ms × Hp × Int × Int) : Prop :=
  (ofI n < 0 ∧ r = (m, H, 0, 2)) ∨
  (0 ≤ ofI n ∧ r = (m, H, 0, 13) ∧ (8 ≤ ofI n ∨ H.ln (ofI n).toNat = []) ∧ (sn (ofI n).toNat ≤ hSl H.L (ofI n).toNat ∨ Cq.frI k m.has H.W < pn (ofI n).toNat)) ∨
  (∃ c : Nat, ofI n = (c : Int) ∧ 8 ≤ c ∧ ∃ s m' H' g, Fresh C k m H c s g H.ln m' H' ∧ r = (m', H', adI c s 0, 0)) ∨
  (∃ c : Nat, ofI n = (c : Int) ∧ c ≤ 7 ∧ H.ln c = [] ∧ ∃ s m' H' q, Fresh C k m H c s ⟨q * 512, c, 1, [], []⟩ (lnS H.ln c [lo c s]) m' H' ∧ (lo c s, (q : Int)) ∈ H'.T ∧ m.has.getD q true = false ∧ r = (m', H', adI c s 0, 0)) ∨
  (∃ c : Nat, ofI n = (c : Int) ∧ c ≤ 7 ∧ ∃ x ∈ H.L, x.kind = c ∧ ¬ x.pg.Full ∧ (∃ t, H.ln c = lo c x.slot :: t) ∧ r = (⟨m.has, paB x.pg m.bs, paT x.pg m.ss⟩, ⟨H.W, H.T, hSet H.L c x.slot (paS x.pg), if (paS x.pg).Full then lnS H.ln c (liR (H.ln c) (lo c x.slot)) else H.ln⟩, adI c x.slot (paV x.pg), 0))
theorem hold_took (hC : ∀ q, Cq.inW k H.W q = true → C q) (h : HpOk C m H) (ok : MsOk m) (hc : c ≤ 23) (hs : hSl H.L c < sn c) (hf : pn c ≤ Cq.frI k m.has H.W) :
    Took C k H.W (pn c) (lo c (hSl H.L c)) m.has H.T (takN k H.W (pn c) (lo c (hSl H.L c)) m.has H.T).1 (takN k H.W (pn c) (lo c (hSl H.L c)) m.has H.T).2 :=
  takN_spec hC _ _ _ _ h.tp ok.cap hf fun i hi => by
    have l := lo_in hc hs hi
    refine ⟨l.2.2, ?_⟩
    by_cases e : tbF H.T (lo c (hSl H.L c) + i) < 0
    · exact e
    · exfalso
      obtain ⟨x, hx, j, hj, e2⟩ := h.dom _ (h.tp.tb.f_some e)
      obtain ⟨b1, b2⟩ := h.at_ x hx
      have := lo_one hc hs b1 b2 hi hj e2
      exact hSl_free hs ⟨x, hx, this.1.symm, this.2.1.symm⟩
theorem hAt_last (hn : ¬ Held L c s) : hAt (L ++ [⟨c, s, g⟩]) c s = some ⟨c, s, g⟩ := by
  unfold hAt
  rw [List.find?_append, List.find?_eq_none.2 fun x hx e => hn ⟨x, hx, by simpa using e⟩]
  simp
theorem hSet_last (hn : ¬ Held L c s) (g' : Pg) : hSet (L ++ [⟨c, s, g⟩]) c s g' = L ++ [⟨c, s, g'⟩] := by
  unfold hSet
  rw [List.map_append]
  congr 1
  · conv => rhs; rw [← List.map_id L]
    apply List.map_congr_left
    intro x hx
    rw [if_neg fun e => hn ⟨x, hx, e⟩]
    rfl
  · simp
theorem hM_ways (hC : ∀ q, Cq.inW k H.W q = true → C q) (h : HpOk C m H) (ok : MsOk m) (n : Int) : MWay C k m H n (hM k m H n) := by
  unfold hM
  by_cases h0 : ofI n < 0
  · rw [if_pos h0]; exact Or.inl ⟨h0, rfl⟩
  rw [if_neg h0]
  have hr : ofI n ≤ 23 := by
    have : ¬ (n < 1 ∨ 8192 < n) := fun e => h0 (by rw [(ofI_none n).2 e]; decide)
    exact (ofI_range n (by omega) (by omega)).2
  obtain ⟨c, hc⟩ : ∃ c : Nat, ofI n = (c : Int) := ⟨(ofI n).toNat, by omega⟩
  have hcc : c ≤ 23 := by omega
  rw [hc, Int.toNat_natCast]
  by_cases hroom : hSl H.L c < sn c ∧ pn c ≤ Cq.frI k m.has H.W
  case neg =>
    have hno : hHold k m H c = none := if_neg hroom
    have hor : sn c ≤ hSl H.L c ∨ Cq.frI k m.has H.W < pn c := by omega
    by_cases h8 : 8 ≤ c
    · rw [if_pos h8, hno]; exact Or.inr (.inl ⟨by omega, rfl, .inl (by omega), by rw [hc, Int.toNat_natCast]; exact hor⟩)
    · rw [if_neg h8]
      cases hln : H.ln c with
      | nil => dsimp only; rw [hno]; exact Or.inr (.inl ⟨by omega, rfl, .inr (by rw [hc, Int.toNat_natCast]; exact hln), by rw [hc, Int.toNat_natCast]; exact hor⟩)
      | cons v t =>
        obtain ⟨x, hx, x1, x2, x3, x4⟩ := ((h.ln c).2 v).1 (by rw [hln]; simp)
        refine Or.inr (.inr (.inr (.inr ⟨c, hc, by omega, x, hx, x1, x4, ⟨t, by rw [hln, x3]⟩, ?_⟩)))
        dsimp only
        unfold hSm
        have := hAt_mem h.nd hx
        rw [x1] at this
        rw [x3, slot_back (by omega), this]
  have ht := hold_took hC h ok hcc hroom.1 hroom.2
  have hno : hHold k m H c = some _ := if_pos hroom
  rw [hno]
  have hfr := hSl_free hroom.1
  generalize hs : hSl H.L c = s at *
  generalize (takN k H.W (pn c) (lo c s) m.has H.T).1 = has' at *
  generalize (takN k H.W (pn c) (lo c s) m.has H.T).2 = T' at *
  by_cases h8 : 8 ≤ c
  · rw [if_pos h8]
    exact Or.inr (.inr (.inl ⟨c, hc, h8, s, _, _, _, ⟨hcc, hroom.1, hfr, hs.symm, ht, rfl, rfl⟩, rfl⟩))
  · rw [if_neg h8]
    cases hln : H.ln c with
    | cons v t =>
      obtain ⟨x, hx, x1, x2, x3, x4⟩ := ((h.ln c).2 v).1 (by rw [hln]; simp)
      refine Or.inr (.inr (.inr (.inr ⟨c, hc, by omega, x, hx, x1, x4, ⟨t, by rw [hln, x3]⟩, ?_⟩)))
      dsimp only
      unfold hSm
      have := hAt_mem h.nd hx
      rw [x1] at this
      rw [x3, slot_back (by omega), this]
    | nil =>
      dsimp only
      have h7 : c ≤ 7 := by omega
      have hp1 := ((pn_facts hcc).2.2.2.2.2 h7).1
      have hg := ht.got 0 (by omega)
      simp only [Int.natCast_zero, Int.add_zero] at hg
      have hmem := ht.ok.tb.f_some hg
      obtain ⟨q, hq⟩ : ∃ q : Nat, tbF T' (lo c s) = (q : Int) := ⟨(tbF T' (lo c s)).toNat, by omega⟩
      rw [hq] at hmem
      have hqf : m.has.getD q true = false := by
        rcases ht.new _ hmem with e | e
        · exfalso
          obtain ⟨x, hx, j, hj, e2⟩ := h.dom _ e
          obtain ⟨b1, b2⟩ := h.at_ x hx
          have := lo_one hcc hroom.1 b1 b2 (i := 0) (by omega) hj (by simpa using e2)
          exact hfr ⟨x, hx, this.1.symm, this.2.1.symm⟩
        · simpa using e.2
      refine Or.inr (.inr (.inr (.inl ⟨c, hc, h7, hln, s, ⟨has', m.bs, m.ss⟩, ⟨H.W, T', H.L ++ [⟨c, s, ⟨q * 512, c, 1, [], []⟩⟩], lnS H.ln c [lo c s]⟩, q, ⟨hcc, hroom.1, hfr, hs.symm, ht, rfl, rfl⟩, hmem, hqf, ?_⟩)))
      unfold hSm
      obtain ⟨f1, f2, f3, f4, f5⟩ := fresh_one (b := q * 512) h7
      dsimp only
      rw [slot_back h7, hq, Int.toNat_natCast, hAt_last hfr]
      dsimp only
      rw [f1, f2, f3, f4, if_neg f5, hSet_last hfr]
/-- Each small page that is held has blocks that are had. -/
def Us (L : List Hd) : Prop := ∀ x ∈ L, x.kind ≤ 7 → 0 < x.pg.used
theorem lnS_in {ln : Nat → List Int} {x : List Int} {d : Nat} {v : Int} : v ∈ lnS ln c x d ↔ if d = c then v ∈ x else v ∈ ln d := by
  unfold lnS
  split <;> rfl
theorem lnS_nd {ln : Nat → List Int} {x : List Int} {d : Nat} (h : (ln d).Nodup) (hx : x.Nodup) : (lnS ln c x d).Nodup := by
  unfold lnS
  split
  · exact hx
  · exact h
/-- What a call leaves. -/
structure Left17 (C : Nat → Prop) (m : Ms) (H : Hp) (m' : Ms) (H' : Hp) : Prop where
  ok : HpOk C m' H'
  ms : MsOk m'
  stp : Stp m H.T m' H'.T
  us : Us H.L → Us H'.L
theorem HpOk.left (h : HpOk C m H) (ok : MsOk m) : Left17 C m H m H := ⟨h, ok, Stp.refl _ _, id⟩
theorem HpOk.alloc (h : HpOk C m H) (ok : MsOk m) {x : Hd} (hx : x ∈ H.L) (hk : x.kind ≤ 7) (hf : ¬ x.pg.Full) {ss' : List Sp} : Left17 C m H ⟨m.has, paB x.pg m.bs, ss'⟩ ⟨H.W, H.T, hSet H.L x.kind x.slot (paS x.pg), if (paS x.pg).Full then lnS H.ln x.kind (liR (H.ln x.kind) (lo x.kind x.slot)) else H.ln⟩ := by
  have hs := h.sm x hx hk
  have hg := hs.ok.given hs.cl hf
  obtain ⟨_, l2, l3⟩ := (Like.refl hs.ok).alloc hs.ok
  have hv : lo x.kind x.slot ∈ H.ln x.kind := ((h.ln x.kind).2 _).2 ⟨x, hx, rfl, hk, rfl, hf⟩
  obtain ⟨a1, a2, a3⟩ := h.page (ss' := ss') ok hx hk (g' := paS x.pg) (bs' := paB x.pg m.bs) (ln' := if (paS x.pg).Full then lnS H.ln x.kind (liR (H.ln x.kind) (lo x.kind x.slot)) else H.ln) hg.ok hg.clean l2 (by rw [hg.kind, hs.kd]) hs.ok.alloc.2 l3 fun c => by
    by_cases hF : (paS x.pg).Full
    · rw [if_pos hF]
      refine ⟨lnS_nd (h.ln c).1 ((h.ln _).1.filter _), fun v => ?_⟩
      rw [lnS_in]
      by_cases e : c = x.kind
      · subst e
        rw [if_pos rfl, mem_liR]
        by_cases e2 : v = lo x.kind x.slot
        · simp [e2, hF]
        · simp [e2]
      · rw [if_neg e, if_neg fun e2 => e e2.1]
    · rw [if_neg hF]
      refine ⟨(h.ln c).1, fun v => ?_⟩
      by_cases e : c = x.kind ∧ v = lo x.kind x.slot
      · rw [if_pos e, e.1, e.2]; simp [hF, hv]
      · rw [if_neg e]
  refine ⟨a1, a2, a3, fun u y hy h7 => ?_⟩
  rcases (mem_hSet h.nd hx).1 hy with rfl | e
  · show 0 < (paS x.pg).used
    rw [hg.used]; omega
  · exact u y e.1 h7
theorem MWay.ok (h : HpOk C m H) (ok : MsOk m) {n : Int} {r : Ms × Hp × Int × Int} (w : MWay C k m H n r) : Left17 C m H r.1 r.2.1 ∧ r.2.1.W = H.W ∧ r.1.ss.length ≤ m.ss.length + 2 := by
  rcases w with ⟨_, rfl⟩ | ⟨_, rfl, _⟩ | ⟨c, hc, h8, s, m', H', g, f, rfl⟩ | ⟨c, hc, h7, hln, s, m', H', q, f, hm, hq, rfl⟩ | ⟨c, hc, h7, x, hx, rfl, hf, _, rfl⟩
  · exact ⟨h.left ok, rfl, by simp⟩
  · exact ⟨h.left ok, rfl, by simp⟩
  · have hT := f.took
    rw [f.em, f.eH]
    refine ⟨⟨h.add ok f.fc f.fs f.free hT (fun e => by omega) (fun d => ⟨(h.ln d).1, fun v => ⟨.inl, fun e => e.elim id fun e => by omega⟩⟩), hT.ms ok, hT.stp, fun u y hy h7 => ?_⟩, rfl, by simp⟩
    rcases List.mem_append.1 hy with e | e
    · exact u y e h7
    · simp only [List.mem_singleton] at e; subst e; exact absurd h7 (by show ¬ c ≤ 7; omega)
  · have hT := f.took
    have hlt := hT.ok.lt ⟨_, hm⟩
    rw [hT.len] at hlt
    rw [f.em, f.eH]
    refine ⟨⟨h.add ok f.fc f.fs f.free hT (fun e => fresh_sm ok h7 hlt hq (tbF_mem hT.ok.tb hm)) (fun d => ⟨lnS_nd (h.ln d).1 (by simp), fun v => ?_⟩), hT.ms ok, hT.stp, fun u y hy h7 => ?_⟩, rfl, by simp⟩
    · rw [lnS_in]
      have f5 := (fresh_one (b := q * 512) h7).2.2.2.2
      by_cases e : d = c
      · subst e; rw [if_pos rfl, hln]; simp [h7, f5]
      · rw [if_neg e]; simp [e]
    · rcases List.mem_append.1 hy with e | e
      · exact u y e h7
      · simp only [List.mem_singleton] at e; subst e; show 0 < Pg.used ⟨q * 512, c, 1, [], []⟩; simp [Pg.used]
  · refine ⟨h.alloc ok hx h7 hf, rfl, ?_⟩
    show (paT x.pg m.ss).length ≤ _
    unfold paT
    split <;> simp
/-- The block that begins somewhere, if it is had. -/
def hHad (L : List Hd) (c s : Nat) (j : Int) : Option Hd := match hAt L c s with
  | none => none
  | some x => if x.kind ≤ 7 ∧ ¬ x.pg.May j then none else some x
/-- Free. -/
def hF (m : Ms) (H : Hp) (c s : Nat) (j : Int) : Ms × Hp × Int := match hHad H.L c s j with
  | none => (m, H, 13)
  | some x =>
    if 8 ≤ x.kind then ((letN (pn x.kind) (lo x.kind x.slot) m H.T).1, ⟨H.W, (letN (pn x.kind) (lo x.kind x.slot) m H.T).2, hDel H.L x.kind x.slot, H.ln⟩, 0)
    else if (pfS x.pg j).used = 0 then
      ((letN (pn x.kind) (lo x.kind x.slot) ⟨m.has, pfB x.pg m.bs j, pfT x.pg m.ss j⟩ H.T).1, ⟨H.W, (letN (pn x.kind) (lo x.kind x.slot) ⟨m.has, pfB x.pg m.bs j, pfT x.pg m.ss j⟩ H.T).2, hDel H.L x.kind x.slot, lnS H.ln x.kind (liR (H.ln x.kind) (lo x.kind x.slot))⟩, 0)
    else (⟨m.has, pfB x.pg m.bs j, pfT x.pg m.ss j⟩, ⟨H.W, H.T, hSet H.L x.kind x.slot (pfS x.pg j), if x.pg.Full then lnS H.ln x.kind (H.ln x.kind ++ [lo x.kind x.slot]) else H.ln⟩, 0)
theorem HpOk.free (h : HpOk C m H) (ok : MsOk m) {x : Hd} (hx : x ∈ H.L) (hk : x.kind ≤ 7) {j : Int} (hj : x.pg.May j) {ss' : List Sp} : HpOk C ⟨m.has, pfB x.pg m.bs j, ss'⟩ ⟨H.W, H.T, hSet H.L x.kind x.slot (pfS x.pg j), if x.pg.Full then lnS H.ln x.kind (H.ln x.kind ++ [lo x.kind x.slot]) else H.ln⟩ ∧ MsOk ⟨m.has, pfB x.pg m.bs j, ss'⟩ ∧ Stp m H.T ⟨m.has, pfB x.pg m.bs j, ss'⟩ H.T := by
  have hs := h.sm x hx hk
  obtain ⟨f1, _, _, f4⟩ := hs.ok.freed hs.cl j
  obtain ⟨_, l2, l3⟩ := (Like.refl hs.ok).free hs.ok j
  have f4 := f4 hj
  have hkd : (pfS x.pg j).kind = x.pg.kind := by unfold pfS; split <;> rfl
  have hnf : ¬ (pfS x.pg j).Full := by
    unfold Pg.Full
    rw [hkd]
    have := hs.ok.free j
    have h1 := hs.ok.count
    have h2 := hs.ok.fr
    unfold Pg.used at f4 ⊢
    omega
  refine h.page ok hx hk (hs.ok.free j).1 f1 l2 (by rw [hkd, hs.kd]) (hs.ok.free j).2 l3 fun c => ?_
  by_cases hF : x.pg.Full
  · have hv : lo x.kind x.slot ∉ H.ln x.kind := fun e => by
      obtain ⟨y, hy, y1, y2, y3, y4⟩ := ((h.ln x.kind).2 _).1 e
      obtain ⟨a1, a2⟩ := h.at_ x hx
      obtain ⟨b1, b2⟩ := h.at_ y hy
      have p1 := (pn_facts a1).1.1
      have := lo_one a1 a2 b1 b2 (i := 0) (i' := 0) (by omega) (by rw [y1]; omega) (by rw [y1]; simpa using y3)
      rw [slot_one h.nd hx hy this.1 this.2.1] at hF
      exact y4 hF
    rw [if_pos hF]
    refine ⟨lnS_nd (h.ln c).1 ?_, fun v => ?_⟩
    · rw [List.nodup_append]
      exact ⟨(h.ln _).1, by simp, fun a ha b hb e => by simp only [List.mem_singleton] at hb; subst hb; subst e; exact hv ha⟩
    · rw [lnS_in]
      by_cases e : c = x.kind
      · subst e
        rw [if_pos rfl, List.mem_append, List.mem_singleton]
        by_cases e2 : v = lo x.kind x.slot
        · simp [e2, hnf]
        · simp [e2]
      · rw [if_neg e, if_neg fun e2 => e e2.1]
  · rw [if_neg hF]
    refine ⟨(h.ln c).1, fun v => ?_⟩
    by_cases e : c = x.kind ∧ v = lo x.kind x.slot
    · rw [if_pos e, e.1, e.2]
      have hv : lo x.kind x.slot ∈ H.ln x.kind := ((h.ln x.kind).2 _).2 ⟨x, hx, rfl, hk, rfl, hF⟩
      simp [hnf, hv]
    · rw [if_neg e]
theorem hHad_some {x : Hd} {j : Int} (h : hHad L c s j = some x) : x ∈ L ∧ x.kind = c ∧ x.slot = s ∧ (x.kind ≤ 7 → x.pg.May j) := by
  unfold hHad at h
  cases e : hAt L c s with
  | none => rw [e] at h; cases h
  | some y =>
    rw [e] at h
    dsimp only at h
    split at h
    · cases h
    case isFalse hn =>
      cases h
      obtain ⟨a1, a2, a3⟩ := hAt_some e
      exact ⟨a1, a2, a3, fun h7 => Classical.not_not.1 fun h8 => hn ⟨h7, h8⟩⟩
theorem letN_ss : ∀ (n : Nat) (v : Int) (m : Ms) (T : Tb), (letN n v m T).1.ss.length = m.ss.length + n
  | 0, _, _, _ => rfl
  | n + 1, v, m, T => by
    unfold letN
    rw [letN_ss n]
    show (m.ss ++ [_]).length + n = _
    rw [List.length_append, List.length_singleton]
    omega
theorem hp_pfT_len (ss : List Sp) (j : Int) : (pfT g ss j).length ≤ ss.length + 2 := by unfold pfT; split <;> simp
theorem hF_ok (h : HpOk C m H) (ok : MsOk m) (c s : Nat) (j : Int) : Left17 C m H (hF m H c s j).1 (hF m H c s j).2.1 ∧ (hF m H c s j).2.1.W = H.W ∧ (hF m H c s j).1.ss.length ≤ m.ss.length + 18 := by
  unfold hF
  cases e : hHad H.L c s j with
  | none => exact ⟨h.left ok, rfl, by simp⟩
  | some x =>
    obtain ⟨hx, x1, x2, x3⟩ := hHad_some e
    obtain ⟨a1, a2⟩ := h.at_ x hx
    have hp := (pn_facts a1).1
    dsimp only
    by_cases h8 : 8 ≤ x.kind
    · rw [if_pos h8]
      obtain ⟨d1, d2⟩ := h.del ok hx (ln' := H.ln) fun d => ⟨(h.ln d).1, fun v => ⟨fun hv => ⟨hv, fun e => by
        obtain ⟨y, _, y1, y2, _⟩ := ((h.ln d).2 v).1 hv
        omega⟩, fun hv => hv.1⟩⟩
      refine ⟨⟨d1, d2.ms, d2.stp, fun u y hy h7 => u y (mem_hDel.1 hy).1 h7⟩, rfl, ?_⟩
      dsimp only
      rw [letN_ss]; omega
    · rw [if_neg h8]
      have hk : x.kind ≤ 7 := by omega
      have hj := x3 hk
      obtain ⟨b1, b2, b3⟩ := h.free ok hx hk hj (ss' := pfT x.pg m.ss j)
      have hpl := hp_pfT_len (g := x.pg) m.ss j
      by_cases hu : (pfS x.pg j).used = 0
      · rw [if_pos hu]
        have hx' : (⟨x.kind, x.slot, pfS x.pg j⟩ : Hd) ∈ hSet H.L x.kind x.slot (pfS x.pg j) := (mem_hSet h.nd hx).2 (.inl rfl)
        have hnf : ¬ x.pg.Full := fun hF => by
          have hs := h.sm x hx hk
          have := (hs.ok.freed hs.cl j).2.2.2 hj
          have hp2 := (kind_facts x.pg.kind hs.ok.kind).2.1.1
          unfold Pg.Full at hF
          omega
        rw [if_neg hnf] at b1
        obtain ⟨d1, d2⟩ := b1.del b2 hx' (ln' := lnS H.ln x.kind (liR (H.ln x.kind) (lo x.kind x.slot))) fun d => ⟨lnS_nd (h.ln d).1 ((h.ln _).1.filter _), fun v => by
          show _ ↔ v ∈ H.ln d ∧ ¬ (d = x.kind ∧ v = lo x.kind x.slot)
          rw [lnS_in]
          by_cases e : d = x.kind
          · subst e; rw [if_pos rfl, mem_liR]; simp
          · rw [if_neg e]; simp [e]⟩
        have hdel : hDel (hSet H.L x.kind x.slot (pfS x.pg j)) x.kind x.slot = hDel H.L x.kind x.slot := by
          unfold hDel hSet
          rw [List.filter_map]
          have : (H.L.filter ((fun x_1 : Hd => decide (¬ (x_1.kind = x.kind ∧ x_1.slot = x.slot))) ∘ fun x_1 => if x_1.kind = x.kind ∧ x_1.slot = x.slot then ⟨x_1.kind, x_1.slot, pfS x.pg j⟩ else x_1)) = H.L.filter fun x_1 => decide (¬ (x_1.kind = x.kind ∧ x_1.slot = x.slot)) := by
            apply List.filter_congr
            intro y _
            by_cases e : y.kind = x.kind ∧ y.slot = x.slot
            · simp [e]
            · show decide (¬ ((if y.kind = x.kind ∧ y.slot = x.slot then (⟨y.kind, y.slot, pfS x.pg j⟩ : Hd) else y).kind = x.kind ∧ (if y.kind = x.kind ∧ y.slot = x.slot then (⟨y.kind, y.slot, pfS x.pg j⟩ : Hd) else y).slot = x.slot)) = _
              rw [if_neg e]
          rw [this]
          conv => rhs; rw [← List.map_id (List.filter _ H.L)]
          apply List.map_congr_left
          intro y hy
          have := (List.mem_filter.1 hy).2
          simp only [decide_eq_true_eq] at this
          rw [if_neg this]; rfl
        dsimp only at d1 d2 ⊢
        rw [hdel] at d1
        refine ⟨⟨d1, d2.ms, b3.trans d2.stp ok d2.ms, fun u y hy h7 => u y (mem_hDel.1 hy).1 h7⟩, rfl, ?_⟩
        rw [letN_ss]
        show (pfT x.pg m.ss j).length + _ ≤ _
        omega
      · rw [if_neg hu]
        refine ⟨⟨b1, b2, b3, fun u y hy h7 => ?_⟩, rfl, by show (pfT x.pg m.ss j).length ≤ _; omega⟩
        rcases (mem_hSet h.nd hx).1 hy with rfl | e
        · show 0 < (pfS x.pg j).used
          omega
        · exact u y e.1 h7
end
end Go.Proofs.YtihaifnenjngpaaGreatDoor

namespace Go.Proofs.YtihaifnenjngpaaGreatDoor
open Go.RowKit
open An

/-- All local pages are let go of. -/
def drA : List Int → Ms → Tb → Ms × Tb
  | [], m, T => (m, T)
  | v :: r, m, T => drA r (drM m T v) (tbU T v)
/-- A page lies elsewhere. -/
def Pg.at (g : Pg) (b : Nat) : Pg := ⟨b, g.kind, g.fresh, g.R, g.D⟩
def hMv (L : List Hd) (v : Int) (b : Nat) : List Hd := L.map fun x => if x.kind ≤ 7 ∧ lo x.kind x.slot = v then ⟨x.kind, x.slot, x.pg.at b⟩ else x
/-- A local page gets a page of the window, where it hasn't one. -/
def mvOne (k : Nat) (W : List Int) (v : Int) (m : Ms) (T : Tb) (L : List Hd) : Ms × Tb × List Hd :=
  if Cq.inW k W (tbF T v).toNat = true then (m, T, L)
  else (⟨Cq.giS (Cq.takS k m.has W) (tbF T v), over (over m.bs ((Cq.takV k m.has W).toNat * 512) (win m.bs ((tbF T v).toNat * 512))) ((tbF T v).toNat * 512) (nz 512), m.ss ++ [(tbF T v * 512, 512, false), (Cq.takV k m.has W * 512, 512, true), (tbF T v * 512, 512, true)]⟩, tbS T v (Cq.takV k m.has W), hMv L v ((Cq.takV k m.has W).toNat * 512))
def mvAll (k : Nat) (W : List Int) : List Int → Ms → Tb → List Hd → Ms × Tb × List Hd
  | [], m, T, L => (m, T, L)
  | v :: r, m, T, L => mvAll k W r (mvOne k W v m T L).1 (mvOne k W v m T L).2.1 (mvOne k W v m T L).2.2
/-- How many local pages aren't of the window. -/
def mvN (k : Nat) (W : List Int) (T : Tb) : Nat := T.countP fun y => !Cq.inW k W y.2.toNat
/-- Move. -/
def hMo (k : Nat) (m : Ms) (H : Hp) (W : List Int) : Ms × Hp × Int :=
  if Cq.frI k m.has W < mvN k W H.T then (m, H, 13)
  else ((mvAll k W (H.T.map Prod.fst) m H.T H.L).1, ⟨W, (mvAll k W (H.T.map Prod.fst) m H.T H.L).2.1, (mvAll k W (H.T.map Prod.fst) m H.T H.L).2.2, H.ln⟩, 0)
/-- Drop. -/
def hDr (m : Ms) (H : Hp) : Ms × Hp := ((drA (H.T.map Prod.fst) m H.T).1, ⟨H.W, [], [], fun _ => []⟩)
section
variable {C : Nat → Prop} {k : Nat} {m : Ms} {H : Hp} {bs bs' : List UInt8} {g : Pg} {T : Tb} {L : List Hd} {W : List Int} {v : Int}
theorem tbU_head {x : Int × Int} {r : Tb} (h : TbOk (x :: r)) : tbU (x :: r) x.1 = r := by
  unfold tbU
  rw [List.filter_cons_of_neg (by simp), List.filter_eq_self.2]
  intro y hy
  have := (List.pairwise_cons.1 h.up).1 y hy
  simp at this ⊢
  omega
theorem drA_spec : ∀ (T : Tb) (m : Ms), TpOk C m.has T → MsOk m → MsOk (drA (T.map Prod.fst) m T).1 ∧ (drA (T.map Prod.fst) m T).2 = [] ∧ Stp m T (drA (T.map Prod.fst) m T).1 [] ∧ (drA (T.map Prod.fst) m T).1.ss.length = m.ss.length + T.length
  | [], m, h, ok => ⟨ok, rfl, Stp.refl _ _, rfl⟩
  | x :: r, m, h, ok => by
    rw [List.map_cons]
    unfold drA
    have hf : tbF (x :: r) x.1 = x.2 := tbF_mem h.tb (by simp)
    have hx := h.tk x (by simp)
    obtain ⟨p, _, _, _, _, _, w⟩ := drop_one h ok (v := x.1) (by rw [hf]; omega)
    have e := tbU_head h.tb
    rw [e] at w ⊢
    obtain ⟨i1, i2, i3, i4⟩ := drA_spec r (drM m (x :: r) x.1) w.ok w.ms
    refine ⟨i1, i2, w.stp.trans i3 ok i1, ?_⟩
    rw [i4]
    show (m.ss ++ [_]).length + r.length = _
    rw [List.length_append, List.length_singleton, List.length_cons]
    omega
theorem hDr_ok (h : HpOk C m H) (ok : MsOk m) : Left17 C m H (hDr m H).1 (hDr m H).2 ∧ (hDr m H).1.ss.length = m.ss.length + H.T.length := by
  obtain ⟨i1, i2, i3, i4⟩ := drA_spec H.T m h.tp ok
  refine ⟨⟨⟨⟨TbOk.none, fun y hy => (by cases hy)⟩, List.nodup_nil, fun y hy => (by cases hy), fun y hy => (by cases hy), fun y hy => (by cases hy), fun y hy => (by cases hy), fun c => ⟨List.nodup_nil, fun v => ⟨fun e => (by cases e), fun ⟨y, hy, _⟩ => (by cases hy)⟩⟩⟩, i1, i3, fun _ y hy => (by cases hy)⟩, i4⟩
theorem Pg.Ok.move (h : g.Ok bs) {b : Nat} (hm : b % 512 = 0) (hf : b + 512 ≤ bs'.length) (hw : win bs' b = win bs g.base) : (g.at b).Ok bs' :=
  ⟨h.kind, hm, hf, rep_win h.kind hw h.lr h.r, rep_win h.kind hw h.ld h.d, h.nd, h.lt, h.fr⟩
theorem Pg.Clean.move (h : g.Clean bs) {b : Nat} (hw : win bs' b = win bs g.base) : (g.at b).Clean bs' := fun i h1 h2 hne => by
  have h1 : b ≤ i := h1
  have h2 : i < b + 512 := h2
  have e1 := win_get? bs' b (i - b) (by omega)
  have e2 := win_get? bs g.base (i - b) (by omega)
  rw [show b + (i - b) = i by omega, hw, e2] at e1
  rw [← e1] at hne
  obtain ⟨x, hx, h3⟩ := h (g.base + (i - b)) (by omega) (by omega) hne
  refine ⟨x, hx, ?_⟩
  unfold Pg.pos at h3
  show (g.Had x ∧ b + x * pu g.kind ≤ i ∧ i < b + x * pu g.kind + pu g.kind) ∨ ((x ∈ g.R ∨ x ∈ g.D) ∧ b + x * pu g.kind ≤ i ∧ i < b + x * pu g.kind + 8)
  rcases h3 with ⟨h3, h4, h5⟩ | ⟨h3, h4, h5⟩
  · exact .inl ⟨h3, by omega, by omega⟩
  · exact .inr ⟨h3, by omega, by omega⟩
theorem win_copy {b : Nat} {ds : List UInt8} (h : b + 512 ≤ bs.length) (hd : ds.length = 512) : win (over bs b ds) b = ds := by
  have := win_over (bs := bs) (ds := ds) (b := b) (q := 0) h (by omega)
  rw [Nat.add_zero] at this
  rw [this]
  unfold over
  simp [win_length h, hd]
theorem hp_memW {y : Int × Int} {p : Int} (h : TbOk T) (hv : ¬ tbF T v < 0) : y ∈ tbW T v p ↔ y = (v, p) ∨ (y ∈ T ∧ y.1 ≠ v) := by
  unfold tbW
  rw [List.mem_map]
  constructor
  · rintro ⟨z, hz, rfl⟩
    by_cases e : z.1 = v
    · rw [if_pos e, e]; exact .inl rfl
    · rw [if_neg e]; exact .inr ⟨hz, e⟩
  · rintro (rfl | ⟨h1, h2⟩)
    · exact ⟨_, h.f_some hv, by rw [if_pos rfl]⟩
    · exact ⟨y, h1, by rw [if_neg h2]⟩
theorem tbW_keys (p : Int) : (tbW T v p).map Prod.fst = T.map Prod.fst := by
  unfold tbW
  rw [List.map_map]
  apply List.map_congr_left
  intro x _
  show (if x.1 = v then (x.1, p) else x).1 = x.1
  split <;> rfl
theorem tbW_f {p : Int} (h : TbOk T) (hv : ¬ tbF T v < 0) (h' : TbOk (tbW T v p)) (u : Int) : tbF (tbW T v p) u = if u = v then p else tbF T u := by
  by_cases e : u = v
  · subst e; rw [if_pos rfl]; exact tbF_mem h' ((hp_memW h hv).2 (.inl rfl))
  · rw [if_neg e]
    by_cases hu : tbF T u < 0
    · have h1 := h.f_none hu
      by_cases hu2 : tbF (tbW T v p) u < 0
      · rw [(h'.f_none hu2).1, h1.1]
      · rcases (hp_memW h hv).1 (h'.f_some hu2) with e2 | e2
        · simp only [Prod.mk.injEq] at e2; exact (e e2.1).elim
        · exact (h1.2 _ e2.1 rfl).elim
    · exact tbF_mem h' ((hp_memW h hv).2 (.inr ⟨h.f_some hu, e⟩))
/-- What is behind one local page. -/
structure Moved (C : Nat → Prop) (k : Nat) (W : List Int) (v : Int) (m : Ms) (T : Tb) (L : List Hd) (m' : Ms) (T' : Tb) (L' : List Hd) : Prop where
  ok : ∀ W0 ln, HpOk C m ⟨W0, T, L, ln⟩ → HpOk C m' ⟨W0, T', L', ln⟩
  ms : MsOk m'
  stp : Stp m T m' T'
  us : Us L → Us L'
  keys : T'.map Prod.fst = T.map Prod.fst
  in_ : Cq.inW k W (tbF T' v).toNat = true
  far : ∀ u, u ≠ v → tbF T' u = tbF T u
  fr : Cq.frI k m'.has W + (if Cq.inW k W (tbF T v).toNat then 0 else 1) = Cq.frI k m.has W
  ss : m'.ss.length ≤ m.ss.length + 3
  wn : ∀ (u : Int) (q q' : Nat), tbF T u = (q : Int) → tbF T' u = (q' : Int) → win m'.bs (q' * 512) = win m.bs (q * 512)
/-- A slot whose local page got another page. -/
def mvd (v : Int) (b : Nat) (x : Hd) : Hd := if x.kind ≤ 7 ∧ lo x.kind x.slot = v then ⟨x.kind, x.slot, x.pg.at b⟩ else x
theorem mvd_key (b : Nat) (x : Hd) : (mvd v b x).kind = x.kind ∧ (mvd v b x).slot = x.slot ∧ (mvd v b x).pg.used = x.pg.used ∧ ((mvd v b x).pg.Full ↔ x.pg.Full) := by
  unfold mvd
  split
  · exact ⟨rfl, rfl, rfl, Iff.rfl⟩
  · exact ⟨rfl, rfl, rfl, Iff.rfl⟩
theorem mem_hMv {b : Nat} {y : Hd} : y ∈ hMv L v b ↔ ∃ x ∈ L, mvd v b x = y := by unfold hMv; rw [List.mem_map]; rfl
theorem hMv_keys (b : Nat) : (hMv L v b).map (fun x => (x.kind, x.slot)) = L.map fun x => (x.kind, x.slot) := by
  unfold hMv
  rw [List.map_map]
  apply List.map_congr_left
  intro x _
  show ((mvd v b x).kind, (mvd v b x).slot) = _
  rw [(mvd_key b x).1, (mvd_key b x).2.1]
theorem mv_one (hC : ∀ q, Cq.inW k W q = true → C q) {W0 : List Int} {ln : Nat → List Int} (h : HpOk C m ⟨W0, T, L, ln⟩) (ok : MsOk m) (hv : ¬ tbF T v < 0) (hf : Cq.inW k W (tbF T v).toNat = true ∨ 0 < Cq.frI k m.has W) : Moved C k W v m T L (mvOne k W v m T L).1 (mvOne k W v m T L).2.1 (mvOne k W v m T L).2.2 := by
  unfold mvOne
  by_cases hin : Cq.inW k W (tbF T v).toNat = true
  · rw [if_pos hin]
    exact ⟨fun _ _ h => h, ok, Stp.refl _ _, id, rfl, hin, fun _ _ => rfl, by rw [if_pos hin]; rfl, by show m.ss.length ≤ _; omega, fun u q q' e1 e2 => (by
      have e2 : tbF T u = (q' : Int) := e2
      rw [e1] at e2
      obtain rfl : q = q' := by omega
      rfl)⟩
  rw [if_neg hin]
  have hf : 0 < Cq.frI k m.has W := by rcases hf with e | e; exact (hin e).elim; exact e
  obtain ⟨p, h1, h2, h3, _, h5, _, h7, _⟩ := Cq.take_yes hf
  unfold Cq.meant at h2
  simp only [Bool.and_eq_true, Bool.not_eq_true'] at h2
  obtain ⟨hpf, hpw⟩ := h2
  have htb : TbOk T := h.tp.tb
  have hmem := htb.f_some hv
  obtain ⟨o, ho⟩ : ∃ o : Nat, tbF T v = (o : Int) := ⟨(tbF T v).toNat, by omega⟩
  rw [ho] at hmem hin
  rw [h3, h5, ho]
  simp only [Int.toNat_natCast] at hin ⊢
  have hol : o < m.has.length := h.tp.lt ⟨v, hmem⟩
  have hon := (h.tp.on ⟨v, hmem⟩).1
  have hne : p ≠ o := fun e => by subst e; rw [hpf] at hon; cases hon
  have hcap := ok.cap
  have hlen := ok.len
  have hgi : Cq.giS (m.has.set p true) (o : Int) = (m.has.set p true).set o false := by unfold Cq.giS; rw [if_pos ⟨by omega, by simp; omega⟩]; rfl
  have hsw : SwOk T v p := ⟨by unfold POk; omega, hv, h.tp.holder hpf⟩
  have hS : tbS T v p = tbW T v p := if_pos hsw
  have htb' : TbOk (tbW T v p) := by rw [← hS]; exact htb.swap v p
  have hF := tbW_f htb hv htb'
  rw [hgi, hS]
  have hhas : ∀ (q : Nat) (d : Bool), ((m.has.set p true).set o false).getD q d = if q = o then false else if q = p then true else m.has.getD q d := fun q d => by
    rw [getD_set (by rw [List.length_set]; exact hol)]
    split
    · rfl
    · rw [getD_set h1]
  have hbp : p * 512 + 512 ≤ m.bs.length := by omega
  have hbo : o * 512 + 512 ≤ m.bs.length := by
    rw [hlen]
    have := Nat.mul_le_mul_right 512 (Nat.succ_le_of_lt hol)
    rw [Nat.succ_mul] at this
    exact this
  have hwl : (win m.bs (o * 512)).length = 512 := win_length hbo
  have hb1 : (over m.bs (p * 512) (win m.bs (o * 512))).length = m.bs.length := over_length _ _ _ (by rw [hwl]; exact hbp)
  have hbo1 : o * 512 + 512 ≤ (over m.bs (p * 512) (win m.bs (o * 512))).length := hb1 ▸ hbo
  have hb2 : (over (over m.bs (p * 512) (win m.bs (o * 512))) (o * 512) (nz 512)).length = m.bs.length := by rw [over_length _ _ _ (by rw [nz_length]; exact hbo1), hb1]
  have hwo : win (over (over m.bs (p * 512) (win m.bs (o * 512))) (o * 512) (nz 512)) (o * 512) = nz 512 := win_nz hbo1
  have hwp : win (over (over m.bs (p * 512) (win m.bs (o * 512))) (o * 512) (nz 512)) (p * 512) = win m.bs (o * 512) := by
    rw [win_far (by rw [nz_length]; exact hbo1) (by rw [nz_length]; omega), win_copy hbp hwl]
  have hwq : ∀ q : Nat, q ≠ o → q ≠ p → win (over (over m.bs (p * 512) (win m.bs (o * 512))) (o * 512) (nz 512)) (q * 512) = win m.bs (q * 512) := fun q q1 q2 => by
    rw [win_far (by rw [nz_length]; exact hbo1) (by rw [nz_length]; omega), win_far (by rw [hwl]; exact hbp) (by rw [hwl]; omega)]
  generalize over (over m.bs (p * 512) (win m.bs (o * 512))) (o * 512) (nz 512) = bs2 at *
  have hone : ∀ y ∈ T, y.1 ≠ v → y.2 ≠ (o : Int) ∧ y.2 ≠ (p : Int) := fun y hy e => by
    refine ⟨fun e2 => e ?_, fun e2 => ?_⟩
    · have a1 := tbH_mem (v := y.1) (p := y.2) htb hy
      rw [e2, tbH_mem htb hmem] at a1
      exact a1.symm
    · have := h.tp.free hpf
      exact this ⟨y.1, by rw [← e2]; exact hy⟩
  refine ⟨fun W0 ln h => ⟨⟨htb', fun y hy => ?_⟩, by rw [hMv_keys]; exact h.nd, fun y hy => ?_, fun y hy => ?_, fun y hy i hi => ?_, fun y hy h7 => ?_, fun c => ⟨(h.ln c).1, fun u => ?_⟩⟩, ⟨?_, by simp only [List.length_set]; exact hcap, fun q hq hfr => ?_⟩, ⟨by simp, hb2, fun q hq q1 q2 => ?_, fun q hq q1 => ?_, fun q hq q1 => ?_⟩, fun u y hy h7 => ?_, tbW_keys _, ?_, fun u hu => by rw [hF, if_neg hu], ?_, by simp, fun u q q' q1 q2 => ?_⟩
  · show 0 ≤ y.2 ∧ y.2.toNat < ((m.has.set p true).set o false).length ∧ ((m.has.set p true).set o false).getD y.2.toNat false = true ∧ C y.2.toNat
    rw [hhas, List.length_set, List.length_set]
    rcases (hp_memW htb hv).1 hy with rfl | ⟨e1, e2⟩
    · simp [h1, hne]; exact hC _ hpw
    · obtain ⟨t1, t2, t3, t4⟩ := h.tp.tk y e1
      obtain ⟨n1, n2⟩ := hone y e1 e2
      refine ⟨t1, t2, ?_, t4⟩
      rw [if_neg (by omega), if_neg (by omega)]
      exact t3
  · obtain ⟨x, hx, rfl⟩ := mem_hMv.1 hy
    rw [(mvd_key _ x).1, (mvd_key _ x).2.1]; exact h.at_ x hx
  · have : ∃ z ∈ T, z.1 = y.1 := by
      rcases (hp_memW htb hv).1 hy with rfl | ⟨e1, e2⟩
      · exact ⟨_, hmem, rfl⟩
      · exact ⟨y, e1, rfl⟩
    obtain ⟨z, hz, e⟩ := this
    obtain ⟨x, hx, i, hi, e2⟩ := h.dom z hz
    exact ⟨mvd v (p * 512) x, mem_hMv.2 ⟨x, hx, rfl⟩, i, by rw [(mvd_key _ x).1]; exact hi, by rw [(mvd_key _ x).1, (mvd_key _ x).2.1, ← e]; exact e2⟩
  · obtain ⟨x, hx, rfl⟩ := mem_hMv.1 hy
    rw [(mvd_key _ x).1] at hi
    rw [(mvd_key _ x).1, (mvd_key _ x).2.1]
    show ¬ tbF (tbW T v p) _ < 0
    rw [hF]
    split
    · omega
    · exact h.cov x hx i hi
  · obtain ⟨x, hx, rfl⟩ := mem_hMv.1 hy
    rw [(mvd_key _ x).1] at h7
    have hs := h.sm x hx h7
    obtain ⟨q, e1, m1⟩ := hs.page htb
    unfold mvd
    by_cases e : x.kind ≤ 7 ∧ lo x.kind x.slot = v
    · rw [if_pos e]
      have hq : q = o := by
        have := tbF_mem htb m1
        rw [e.2, ho] at this
        omega
      subst hq
      have hw : win bs2 (p * 512) = win m.bs x.pg.base := by rw [hwp, e1]
      exact ⟨hs.ok.move (by omega) (by rw [hb2]; exact hbp) hw, hs.cl.move hw, hs.kd, by show ((p * 512 : Nat) : Int) = tbF (tbW T v p) (lo x.kind x.slot) * 512; rw [hF, if_pos e.2]; omega⟩
    · rw [if_neg e]
      have hlv : lo x.kind x.slot ≠ v := fun e2 => e ⟨h7, e2⟩
      obtain ⟨n1, n2⟩ := hone _ m1 hlv
      exact hs.ext hb2 (by rw [e1]; exact hwq q (by intro e3; exact n1 (by rw [e3])) (by intro e3; exact n2 (by rw [e3]))) (by show tbF (tbW T v p) _ = _; rw [hF, if_neg hlv])
  · rw [(h.ln c).2 u]
    constructor
    · rintro ⟨x, hx, x1, x2, x3, x4⟩
      exact ⟨mvd v (p * 512) x, mem_hMv.2 ⟨x, hx, rfl⟩, by rw [(mvd_key _ x).1]; exact x1, x2, by rw [(mvd_key _ x).2.1]; exact x3, by rw [(mvd_key _ x).2.2.2]; exact x4⟩
    · rintro ⟨y, hy, x1, x2, x3, x4⟩
      obtain ⟨x, hx, rfl⟩ := mem_hMv.1 hy
      rw [(mvd_key _ x).1] at x1
      rw [(mvd_key _ x).2.1] at x3
      rw [(mvd_key _ x).2.2.2] at x4
      exact ⟨x, hx, x1, x2, x3, x4⟩
  · show bs2.length = ((m.has.set p true).set o false).length * 512
    rw [hb2, List.length_set, List.length_set]; exact hlen
  · simp only [List.length_set] at hq
    rw [hhas] at hfr
    by_cases e : q = o
    · subst e; exact hwo
    · rw [if_neg e] at hfr
      by_cases e2 : q = p
      · rw [if_pos e2] at hfr; cases hfr
      · rw [if_neg e2] at hfr
        show win bs2 (q * 512) = _
        rw [hwq q e e2]; exact ok.cl q hq hfr
  · have e1 : q ≠ o := fun e => q1 (by subst e; exact ⟨v, hmem⟩)
    have e2 : q ≠ p := fun e => q2 (by subst e; exact ⟨v, (hp_memW htb hv).2 (.inl rfl)⟩)
    exact ⟨by show ((m.has.set p true).set o false).getD q true = _; rw [hhas, if_neg e1, if_neg e2], hwq q e1 e2⟩
  · obtain ⟨u, hu⟩ := hq
    rcases (hp_memW htb hv).1 hu with e | e
    · simp only [Prod.mk.injEq] at e
      obtain rfl : q = p := by omega
      exact hpf
    · exact (q1 ⟨u, e.1⟩).elim
  · obtain ⟨u, hu⟩ := hq
    have : q = o := by
      by_cases e : u = v
      · subst e
        have := tbF_mem htb hu
        rw [ho] at this
        omega
      · exact (q1 ⟨u, (hp_memW htb hv).2 (.inr ⟨hu, e⟩)⟩).elim
    show ((m.has.set p true).set o false).getD q true = false
    rw [hhas, if_pos this]
  · obtain ⟨x, hx, rfl⟩ := mem_hMv.1 hy
    rw [(mvd_key _ x).1] at h7
    rw [(mvd_key _ x).2.2.1]
    exact u x hx h7
  · show Cq.inW k W (tbF (tbW T v p) v).toNat = true
    rw [hF, if_pos rfl]; exact hpw
  · rw [ho, Int.toNat_natCast, if_neg hin, ← h7, h5]
    congr 1
    unfold Cq.frI
    rw [List.length_set]
    apply Cq.cnt_ext
    intro q hq
    rw [List.length_set] at hq
    unfold Cq.meant
    show (!((m.has.set p true).set o false).getD q true && _) = (!(m.has.set p true).getD q true && _)
    rw [getD_set (by rw [List.length_set]; exact hol)]
    by_cases e : q = o
    · subst e
      have : Cq.inW k W q = false := by simpa using hin
      simp [this]
    · rw [if_neg e]
  · show win bs2 (q' * 512) = win m.bs (q * 512)
    have q2 : tbF (tbW T v p) u = (q' : Int) := q2
    rw [hF] at q2
    by_cases e : u = v
    · rw [if_pos e] at q2
      subst e
      rw [ho] at q1
      obtain rfl : p = q' := by omega
      obtain rfl : o = q := by omega
      exact hwp
    · rw [if_neg e, q1] at q2
      obtain rfl : q = q' := by omega
      have hm2 := htb.f_some (v := u) (by rw [q1]; omega)
      rw [q1] at hm2
      obtain ⟨n1, n2⟩ := hone _ hm2 e
      exact hwq q (fun e3 => n1 (by rw [e3])) (fun e3 => n2 (by rw [e3]))
theorem HpOk.weak {C' : Nat → Prop} (h : HpOk C m H) (hc : ∀ y ∈ H.T, C y.2.toNat → C' y.2.toNat) : HpOk C' m H :=
  ⟨⟨h.tp.tb, fun y hy => ⟨(h.tp.tk y hy).1, (h.tp.tk y hy).2.1, (h.tp.tk y hy).2.2.1, hc y hy (h.tp.tk y hy).2.2.2⟩⟩, h.nd, h.at_, h.dom, h.cov, h.sm, h.ln⟩
theorem mvAll_spec (hC : ∀ q, Cq.inW k W q = true → C q) : ∀ (vs : List Int) (m : Ms) (T : Tb) (L : List Hd) (W0 : List Int) (ln : Nat → List Int), HpOk C m ⟨W0, T, L, ln⟩ → MsOk m → vs.Nodup → (∀ v ∈ vs, ¬ tbF T v < 0) → (vs.countP fun v => !Cq.inW k W (tbF T v).toNat) ≤ Cq.frI k m.has W →
    HpOk C (mvAll k W vs m T L).1 ⟨W0, (mvAll k W vs m T L).2.1, (mvAll k W vs m T L).2.2, ln⟩ ∧ MsOk (mvAll k W vs m T L).1 ∧ Stp m T (mvAll k W vs m T L).1 (mvAll k W vs m T L).2.1 ∧ (Us L → Us (mvAll k W vs m T L).2.2) ∧ (mvAll k W vs m T L).2.1.map Prod.fst = T.map Prod.fst ∧ (∀ v ∈ vs, Cq.inW k W (tbF (mvAll k W vs m T L).2.1 v).toNat = true) ∧ (∀ u, u ∉ vs → tbF (mvAll k W vs m T L).2.1 u = tbF T u) ∧ (mvAll k W vs m T L).1.ss.length ≤ m.ss.length + 3 * vs.length
  | [], m, T, L, W0, ln, h, ok, _, _, _ => ⟨h, ok, Stp.refl _ _, id, rfl, fun v hv => (by cases hv), fun _ _ => rfl, Nat.le_refl _⟩
  | v :: r, m, T, L, W0, ln, h, ok, nd, hv, hf => by
    unfold mvAll
    rw [List.nodup_cons] at nd
    rw [List.countP_cons] at hf
    have o := mv_one hC h ok (v := v) (hv v (by simp)) (by
      by_cases e : Cq.inW k W (tbF T v).toNat = true
      · exact .inl e
      · simp only [Bool.not_eq_true] at e
        rw [e] at hf
        simp at hf
        exact .inr (by omega))
    have hfr := o.fr
    generalize (mvOne k W v m T L).1 = m1 at *
    generalize (mvOne k W v m T L).2.1 = T1 at *
    generalize (mvOne k W v m T L).2.2 = L1 at *
    have hne : ∀ u ∈ r, u ≠ v := fun u hu e => nd.1 (e ▸ hu)
    obtain ⟨i1, i2, i3, i4, i5, i6, i7, i8⟩ := mvAll_spec hC r m1 T1 L1 W0 ln (o.ok W0 ln h) o.ms nd.2 (fun u hu => by rw [o.far u (hne u hu)]; exact hv u (List.mem_cons_of_mem _ hu)) (by
      rw [List.countP_congr (q := fun u => !Cq.inW k W (tbF T u).toNat) fun u hu => by rw [o.far u (hne u hu)]]
      cases e : Cq.inW k W (tbF T v).toNat
      · rw [e] at hf hfr; simp at hf hfr; omega
      · rw [e] at hf hfr; simp at hf hfr; omega)
    refine ⟨i1, i2, o.stp.trans i3 ok i2, fun u => i4 (o.us u), i5.trans o.keys, fun u hu => ?_, fun u hu => ?_, ?_⟩
    · rcases List.mem_cons.1 hu with rfl | e
      · rw [i7 _ nd.1]; exact o.in_
      · exact i6 u e
    · simp only [List.mem_cons, not_or] at hu
      rw [i7 u hu.2, o.far u hu.1]
    · have := o.ss
      rw [List.length_cons]
      omega
theorem mvAll_win (hC : ∀ q, Cq.inW k W q = true → C q) : ∀ (vs : List Int) (m : Ms) (T : Tb) (L : List Hd) (W0 : List Int) (ln : Nat → List Int), HpOk C m ⟨W0, T, L, ln⟩ → MsOk m → vs.Nodup → (∀ v ∈ vs, ¬ tbF T v < 0) → (vs.countP fun v => !Cq.inW k W (tbF T v).toNat) ≤ Cq.frI k m.has W → ∀ (u : Int) (q q' : Nat), tbF T u = (q : Int) → tbF (mvAll k W vs m T L).2.1 u = (q' : Int) → win (mvAll k W vs m T L).1.bs (q' * 512) = win m.bs (q * 512)
  | [], m, T, L, W0, ln, h, ok, _, _, _ => fun u q q' e1 e2 => by
    have e2 : tbF T u = (q' : Int) := e2
    obtain rfl : q = q' := by rw [e1] at e2; omega
    rfl
  | v :: r, m, T, L, W0, ln, h, ok, nd, hv, hf => by
    intro u q q' e1 e2
    unfold mvAll at e2 ⊢
    rw [List.nodup_cons] at nd
    rw [List.countP_cons] at hf
    have o := mv_one hC h ok (v := v) (hv v (by simp)) (by
      by_cases e : Cq.inW k W (tbF T v).toNat = true
      · exact .inl e
      · simp only [Bool.not_eq_true] at e
        rw [e] at hf
        simp at hf
        exact .inr (by omega))
    have hfr := o.fr
    generalize (mvOne k W v m T L).1 = m1 at *
    generalize (mvOne k W v m T L).2.1 = T1 at *
    generalize (mvOne k W v m T L).2.2 = L1 at *
    have hne : ∀ u ∈ r, u ≠ v := fun u hu e => nd.1 (e ▸ hu)
    have h1 := o.ok W0 ln h
    have hmem : u ∈ T1.map Prod.fst := by
      rw [o.keys]
      exact List.mem_map.2 ⟨_, h.tp.tb.f_some (v := u) (by show ¬ tbF T u < 0; rw [e1]; omega), rfl⟩
    obtain ⟨y, hy, rfl⟩ := List.mem_map.1 hmem
    have hty : tbF T1 y.1 = y.2 := tbF_mem (v := y.1) (p := y.2) h1.tp.tb hy
    have hy0 := (h1.tp.tk y hy).1
    have e3 : tbF T1 y.1 = ((y.2.toNat : Nat) : Int) := by rw [hty]; omega
    rw [mvAll_win hC r m1 T1 L1 W0 ln h1 o.ms nd.2 (fun u hu => by rw [o.far u (hne u hu)]; exact hv u (List.mem_cons_of_mem _ hu)) (by
      rw [List.countP_congr (q := fun u => !Cq.inW k W (tbF T u).toNat) fun u hu => by rw [o.far u (hne u hu)]]
      cases e : Cq.inW k W (tbF T v).toNat
      · rw [e] at hf hfr; simp at hf hfr; omega
      · rw [e] at hf hfr; simp at hf hfr; omega) y.1 _ q' e3 e2]
    exact o.wn y.1 q _ e1 e3
theorem keys_nodup (h : TbOk T) : (T.map Prod.fst).Nodup := by
  have := h.up
  rw [List.nodup_iff_pairwise_ne, List.pairwise_map]
  exact this.imp fun e => by omega
theorem mvN_keys (h : TbOk T) : mvN k W T = (T.map Prod.fst).countP fun v => !Cq.inW k W (tbF T v).toNat := by
  unfold mvN
  rw [List.countP_map]
  apply List.countP_congr
  intro y hy
  show _ ↔ (!Cq.inW k W (tbF T y.1).toNat) = true
  rw [tbF_mem (v := y.1) (p := y.2) h hy]
theorem hMo_ok (h : HpOk C m H) (ok : MsOk m) (W : List Int) (hw : (hMo k m H W).2.2 = 0) : Left17 (fun q => Cq.inW k W q = true) m H (hMo k m H W).1 (hMo k m H W).2.1 ∧ (hMo k m H W).2.1.W = W ∧ (hMo k m H W).1.ss.length ≤ m.ss.length + 3 * H.T.length := by
  unfold hMo at hw ⊢
  by_cases e : Cq.frI k m.has W < mvN k W H.T
  · rw [if_pos e] at hw; exact absurd (show (13 : Int) = 0 from hw) (by decide)
  rw [if_neg e]
  have h1 : HpOk (fun _ => True) m ⟨H.W, H.T, H.L, H.ln⟩ := h.weak fun _ _ _ => trivial
  obtain ⟨i1, i2, i3, i4, i5, i6, i7, i8⟩ := mvAll_spec (C := fun _ => True) (k := k) (W := W) (fun _ _ => trivial) (H.T.map Prod.fst) m H.T H.L H.W H.ln h1 ok (keys_nodup h.tp.tb) (fun v hv => by
    obtain ⟨y, hy, rfl⟩ := List.mem_map.1 hv
    rw [tbF_mem (v := y.1) (p := y.2) h.tp.tb hy]
    have := (h.tp.tk y hy).1
    omega) (by rw [← mvN_keys h.tp.tb]; omega)
  rw [List.length_map] at i8
  refine ⟨⟨?_, i2, i3, i4⟩, rfl, i8⟩
  have h2 : HpOk (fun q => Cq.inW k W q = true) _ ⟨H.W, _, _, H.ln⟩ := i1.weak fun y hy _ => by
    have h3 : y.1 ∈ H.T.map Prod.fst := by rw [← i5]; exact List.mem_map.2 ⟨y, hy, rfl⟩
    have := i6 _ h3
    rw [tbF_mem (v := y.1) (p := y.2) i1.tp.tb hy] at this
    exact this
  exact ⟨h2.tp, h2.nd, h2.at_, h2.dom, h2.cov, h2.sm, h2.ln⟩
theorem hMo_no (h : (hMo k m H W).2.2 ≠ 0) : (hMo k m H W).1 = m ∧ (hMo k m H W).2.1 = H ∧ (hMo k m H W).2.2 = 13 := by
  unfold hMo at h ⊢
  by_cases e : Cq.frI k m.has W < mvN k W H.T
  · rw [if_pos e]; exact ⟨rfl, rfl, rfl⟩
  · rw [if_neg e] at h; exact (h rfl).elim
end
end Go.Proofs.YtihaifnenjngpaaGreatDoor
