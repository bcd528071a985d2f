/-
  A heap's calls hang on its own window alone; behind all blocks nothing is left: mathematics.
  What a heap's calls touch: mathematics.
-/
import Derived.Test.YtihaifnenjngpaaGreatDoorHpLaws
namespace Go.Proofs.YtihaifnenjngpaaGreatDoor
open Go.RowKit
open An

/-- What is taken is held. -/
def Own2 (M : Ms) (H H' : Hp) : Prop := ∀ q, q < M.has.length → M.has.getD q true = true → Pgs H.T q ∨ Pgs H'.T q
section
variable {M M1 : Ms} {H H' H1 : Hp}
theorem Own2.swap (h : Own2 M H H') : Own2 M H' H := fun q a b => (h q a b).symm
theorem Own2.step (h : Own2 M H H') (st : Stp M H.T M1 H1.T) : Own2 M1 H1 H' := fun q hq ht => by
  by_cases e : Pgs H1.T q
  · exact .inl e
  · by_cases e2 : Pgs H.T q
    · rw [st.old q e2 e] at ht; cases ht
    · have hq' : q < M.has.length := by rw [← st.len]; exact hq
      rw [(st.out q hq' e2 e).1] at ht
      rcases h q hq' ht with e3 | e3
      · exact (e2 e3).elim
      · exact .inr e3
end
/-- Two states that are one to a heap of that window. -/
structure Sim (k : Nat) (W : List Int) (M M' : Ms) (T : Tb) : Prop where
  len : M.has.length = M'.has.length
  has : ∀ q, Cq.inW k W q = true → M.has.getD q true = M'.has.getD q true
  win : ∀ q, Pgs T q → win M.bs (q * 512) = win M'.bs (q * 512)
section
variable {k : Nat} {W : List Int} {M M' M1 : Ms} {H H1 : Hp} {T T1 : Tb} {C : Nat → Prop}
theorem Sim.meant (h : Sim k W M M' T) (q : Nat) : Cq.meant k M.has W q = Cq.meant k M'.has W q := by
  unfold Cq.meant
  cases e : Cq.inW k W q
  · simp
  · rw [h.has q e]
theorem Sim.fr (h : Sim k W M M' T) : Cq.frI k M.has W = Cq.frI k M'.has W := by
  unfold Cq.frI
  rw [← h.len]
  exact Cq.cnt_ext _ fun q _ => h.meant q
theorem Sim.tak (h : Sim k W M M' T) : Cq.takP k M.has W = Cq.takP k M'.has W ∧ Cq.takV k M.has W = Cq.takV k M'.has W := by
  have hP : Cq.takP k M.has W = Cq.takP k M'.has W := by
    unfold Cq.takP
    rw [show Cq.meant k M.has W = Cq.meant k M'.has W from funext h.meant, h.len]
  exact ⟨hP, by unfold Cq.takV; rw [hP, h.len]⟩
theorem takN_sim : ∀ (n : Nat) (v : Int) (has has' : List Bool) (T : Tb) (bs bs' : List UInt8), Sim k W ⟨has, bs, []⟩ ⟨has', bs', []⟩ [] → (takN k W n v has T).2 = (takN k W n v has' T).2 ∧ Sim k W ⟨(takN k W n v has T).1, bs, []⟩ ⟨(takN k W n v has' T).1, bs', []⟩ []
  | 0, v, has, has', T, bs, bs', h => ⟨rfl, h⟩
  | n + 1, v, has, has', T, bs, bs', h => by
    unfold takN
    obtain ⟨hP, hV⟩ := h.tak
    have hP : Cq.takP k has W = Cq.takP k has' W := hP
    have hV : Cq.takV k has W = Cq.takV k has' W := hV
    have hl : has.length = has'.length := h.len
    rw [hV]
    refine takN_sim n (v + 1) _ _ _ bs bs' ⟨by show (Cq.takS k has W).length = (Cq.takS k has' W).length; rw [Cq.takS_length, Cq.takS_length, hl], fun q hq => ?_, fun q ⟨v, hv⟩ => by cases hv⟩
    show (Cq.takS k has W).getD q true = (Cq.takS k has' W).getD q true
    unfold Cq.takS
    rw [hP]
    by_cases hp : Cq.takP k has' W < has'.length
    · rw [getD_set (by omega), getD_set hp]
      split
      · rfl
      · exact h.has q hq
    · rw [List.set_eq_of_length_le (by omega), List.set_eq_of_length_le (by omega)]
      exact h.has q hq
/-- Another heap turns, of colours apart. -/
theorem Sim.other (h : Sim k W M M' T) (st : Stp M T1 M1 H1.T) (h1 : ∀ q, Pgs T1 q → Cq.inW k W q = false) (h2 : ∀ q, Pgs H1.T q → Cq.inW k W q = false) (hT : ∀ q, Pgs T q → Cq.inW k W q = true ∧ q < M.has.length) : Sim k W M1 M' T := by
  have hn : ∀ q, Cq.inW k W q = true → ¬ Pgs T1 q ∧ ¬ Pgs H1.T q := fun q hq => ⟨fun e => (by rw [h1 q e] at hq; cases hq), fun e => (by rw [h2 q e] at hq; cases hq)⟩
  refine ⟨st.len.trans h.len, fun q hq => ?_, fun q hq => ?_⟩
  · by_cases hl : q < M.has.length
    · rw [(st.out q hl (hn q hq).1 (hn q hq).2).1]; exact h.has q hq
    · rw [List.getD_eq_getElem?_getD, List.getElem?_eq_none (by rw [st.len]; omega), List.getD_eq_getElem?_getD, List.getElem?_eq_none (by rw [← h.len]; omega)]
  · obtain ⟨a1, a2⟩ := hT q hq
    rw [(st.out q a2 (hn q a1).1 (hn q a1).2).2]; exact h.win q hq
/-- A page op at the same page in both. -/
theorem sim_page {g g' : Pg} {bs1 bs2 : List UInt8} {ss1 ss2 : List Sp} (h : Sim k W M M' T) (_tb : TpOk C M.has T) {q0 : Nat} (e1 : g.base = q0 * 512) (lk : Like g' g' bs1 bs2) (hb : g'.base = g.base) (f1 : ∀ b, (b + 512 ≤ g.base ∨ g.base + 512 ≤ b) → win bs1 b = win M.bs b) (f2 : ∀ b, (b + 512 ≤ g.base ∨ g.base + 512 ≤ b) → win bs2 b = win M'.bs b) : Sim k W ⟨M.has, bs1, ss1⟩ ⟨M'.has, bs2, ss2⟩ T := by
  refine ⟨h.len, h.has, fun q hq => ?_⟩
  by_cases e : q = q0
  · subst e
    have := lk.same
    rw [hb, e1] at this
    exact this
  · show win bs1 (q * 512) = win bs2 (q * 512)
    rw [f1 _ (by omega), f2 _ (by omega)]
    exact h.win q hq
theorem Like.both {g : Pg} {bs bs' : List UInt8} (h : g.Ok bs) (hw : win bs g.base = win bs' g.base) : Like g g bs bs' := ⟨rfl, rfl, rfl, rfl, hw, h.mod, h.fit⟩
theorem hM_sim (hC : ∀ q, Cq.inW k H.W q = true → C q) (s : Sim k H.W M M' H.T) (h : HpOk C M H) (h' : HpOk C M' H) (ok : MsOk M) (ok' : MsOk M') (n : Int) : (hM k M H n).2 = (hM k M' H n).2 ∧ Sim k H.W (hM k M H n).1 (hM k M' H n).1 (hM k M H n).2.1.T := by
  have hfr := s.fr
  have htk : ∀ m v, (takN k H.W m v M.has H.T).2 = (takN k H.W m v M'.has H.T).2 ∧ Sim k H.W ⟨(takN k H.W m v M.has H.T).1, M.bs, []⟩ ⟨(takN k H.W m v M'.has H.T).1, M'.bs, []⟩ [] := fun m v => takN_sim m v M.has M'.has H.T M.bs M'.bs ⟨s.len, s.has, fun q ⟨v, hv⟩ => (by cases hv)⟩
  have hsm : ∀ {x : Hd}, x ∈ H.L → x.kind ≤ 7 → ∀ ss1 ss2, Sim k H.W ⟨M.has, paB x.pg M.bs, ss1⟩ ⟨M'.has, paB x.pg M'.bs, ss2⟩ H.T := fun {x} hx h7 ss1 ss2 => by
    have hs := h.sm x hx h7
    have hs' := h'.sm x hx h7
    obtain ⟨q0, e1, m1⟩ := hs.page h.tp.tb
    have lk := (Like.both hs.ok (by rw [e1]; exact s.win q0 ⟨_, m1⟩)).alloc hs'.ok
    have l2 := (Like.refl hs'.ok).alloc hs'.ok
    exact sim_page s h.tp e1 lk.1 lk.2.1 lk.2.2 l2.2.2
  have w1 := hM_ways hC h ok n
  have w2 := hM_ways hC h' ok' n
  have hnew : ∀ {c s0 : Nat} {has1 has2 : List Bool} {T' : Tb} {ss1 ss2 : List Sp}, Took C k H.W (pn c) (lo c s0) M.has H.T has1 T' → Took C k H.W (pn c) (lo c s0) M'.has H.T has2 T' → (∀ q, Cq.inW k H.W q = true → has1.getD q true = has2.getD q true) → Sim k H.W ⟨has1, M.bs, ss1⟩ ⟨has2, M'.bs, ss2⟩ T' := fun t1 t2 hh => by
    refine ⟨by show _ = _; rw [t1.len, t2.len]; exact s.len, hh, fun q ⟨v, hv⟩ => ?_⟩
    show win M.bs (q * 512) = win M'.bs (q * 512)
    rcases t1.new _ hv with e | e
    · exact s.win q ⟨v, e⟩
    · rcases t2.new _ hv with e2 | e2
      · exact s.win q ⟨v, e2⟩
      · simp only [Int.toNat_natCast] at e e2
        have l1 := t1.ok.lt ⟨v, hv⟩
        have l2 := t2.ok.lt ⟨v, hv⟩
        rw [t1.len] at l1
        rw [t2.len] at l2
        rw [ok.cl q l1 e.2, ok'.cl q l2 e2.2]
  unfold hM at w1 w2 ⊢
  by_cases h0 : ofI n < 0
  · rw [if_pos h0, if_pos h0]; exact ⟨rfl, s⟩
  rw [if_neg h0] at w1 w2 ⊢
  rw [if_neg h0]
  have hr : ofI n ≤ 23 := by
    have : ¬ (n < 1 ∨ 8192 < n) := fun e => h0 (by rw [(ofI_none n).2 e]; decide)
    exact (ofI_range n (by omega) (by omega)).2
  obtain ⟨c, hc⟩ : ∃ c : Nat, ofI n = (c : Int) := ⟨(ofI n).toNat, by omega⟩
  have hcc : c ≤ 23 := by omega
  clear w1 w2
  rw [hc, Int.toNat_natCast]
  have hhold : hHold k M H c = none ∧ hHold k M' H c = none ∨ ∃ has1 has2 T', hSl H.L c < sn c ∧ Took C k H.W (pn c) (lo c (hSl H.L c)) M.has H.T has1 T' ∧ Took C k H.W (pn c) (lo c (hSl H.L c)) M'.has H.T has2 T' ∧ (∀ q, Cq.inW k H.W q = true → has1.getD q true = has2.getD q true) ∧ hHold k M H c = some (⟨has1, M.bs, M.ss⟩, ⟨H.W, T', H.L ++ [⟨c, hSl H.L c, ⟨(tbF T' (lo c (hSl H.L c))).toNat * 512, c, 0, [], []⟩⟩], H.ln⟩) ∧ hHold k M' H c = some (⟨has2, M'.bs, M'.ss⟩, ⟨H.W, T', H.L ++ [⟨c, hSl H.L c, ⟨(tbF T' (lo c (hSl H.L c))).toNat * 512, c, 0, [], []⟩⟩], H.ln⟩) := by
    by_cases hroom : hSl H.L c < sn c ∧ pn c ≤ Cq.frI k M.has H.W
    · have hroom' : hSl H.L c < sn c ∧ pn c ≤ Cq.frI k M'.has H.W := by rw [← hfr]; exact hroom
      have t1 := hold_took hC h ok hcc hroom.1 hroom.2
      have t2 := hold_took hC h' ok' hcc hroom'.1 hroom'.2
      obtain ⟨k1, k2⟩ := htk (pn c) (lo c (hSl H.L c))
      rw [← k1] at t2
      refine .inr ⟨_, _, _, hroom.1, t1, t2, k2.has, if_pos hroom, ?_⟩
      unfold hHold
      rw [if_pos hroom', ← k1]
    · have hroom' : ¬ (hSl H.L c < sn c ∧ pn c ≤ Cq.frI k M'.has H.W) := by rw [← hfr]; exact hroom
      exact .inl ⟨if_neg hroom, if_neg hroom'⟩
  by_cases h8 : 8 ≤ c
  · rw [if_pos h8, if_pos h8]
    rcases hhold with ⟨e1, e2⟩ | ⟨has1, has2, T', _, t1, t2, hh, e1, e2⟩
    · rw [e1, e2]; exact ⟨rfl, s⟩
    · rw [e1, e2]; exact ⟨rfl, hnew t1 t2 hh⟩
  · rw [if_neg h8, if_neg h8]
    have h7 : c ≤ 7 := by omega
    cases hln : H.ln c with
    | cons v t =>
      dsimp only
      obtain ⟨x, hx, x1, x2, x3, x4⟩ := ((h.ln c).2 v).1 (by rw [hln]; simp)
      unfold hSm
      have := hAt_mem h.nd hx
      rw [x1] at this
      rw [x3, slot_back h7, this]
      exact ⟨rfl, hsm hx (by omega) _ _⟩
    | nil =>
      dsimp only
      rcases hhold with ⟨e1, e2⟩ | ⟨has1, has2, T', hsl, t1, t2, hh, e1, e2⟩
      · rw [e1, e2]; exact ⟨rfl, s⟩
      · rw [e1, e2]
        dsimp only
        have hfree := hSl_free hsl
        unfold hSm
        dsimp only
        rw [slot_back h7, hAt_last hfree]
        dsimp only
        obtain ⟨f1, f2, f3, f4, f5⟩ := fresh_one (c := c) (b := (tbF T' (lo c (hSl H.L c))).toNat * 512) h7
        rw [f1, f2, f3, f3, f4, f4]
        exact ⟨rfl, hnew t1 t2 hh⟩
theorem letN_T : ∀ (n : Nat) (v : Int) (m m' : Ms) (T : Tb), (letN n v m T).2 = (letN n v m' T).2
  | 0, _, _, _, _ => rfl
  | n + 1, v, m, m', T => by unfold letN; exact letN_T n (v + 1) _ _ _
theorem sim_has {M1' : Ms} (s : Sim k W M M' T) (h1 : TpOk C M1.has T1) (h2 : TpOk C M1'.has T1) (s1 : Stp M T M1 T1) (s2 : Stp M' T M1' T1) : M1.has.length = M1'.has.length ∧ ∀ q, Cq.inW k W q = true → M1.has.getD q true = M1'.has.getD q true := by
  refine ⟨by rw [s1.len, s2.len]; exact s.len, fun q hq => ?_⟩
  by_cases e : Pgs T1 q
  · rw [(h1.on e).1, (h2.on e).1]
  · by_cases e2 : Pgs T q
    · rw [s1.old q e2 e, s2.old q e2 e]
    · by_cases hl : q < M.has.length
      · rw [(s1.out q hl e2 e).1, (s2.out q (by rw [← s.len]; exact hl) e2 e).1]
        exact s.has q hq
      · rw [List.getD_eq_getElem?_getD, List.getElem?_eq_none (by rw [s1.len]; omega), List.getD_eq_getElem?_getD, List.getElem?_eq_none (by rw [s2.len, ← s.len]; omega)]
theorem sim_went {M1' : Ms} {n : Nat} {v : Int} (s : Sim k W M M' T) (w1 : Went C n v M T M1 T1) (w2 : Went C n v M' T M1' T1) : Sim k W M1 M1' T1 := by
  obtain ⟨a1, a2⟩ := sim_has s w1.ok w2.ok w1.stp w2.stp
  refine ⟨a1, a2, fun q hq => ?_⟩
  rw [w1.win q hq, w2.win q hq]
  obtain ⟨u, hu⟩ := hq
  exact s.win q ⟨u, ((w1.mem _).1 hu).1⟩
theorem hF_sim (s : Sim k H.W M M' H.T) (h : HpOk C M H) (h' : HpOk C M' H) (ok : MsOk M) (ok' : MsOk M') (c sl : Nat) (j : Int) : (hF M H c sl j).2 = (hF M' H c sl j).2 ∧ Sim k H.W (hF M H c sl j).1 (hF M' H c sl j).1 (hF M H c sl j).2.1.T := by
  unfold hF
  cases e : hHad H.L c sl j with
  | none => exact ⟨rfl, s⟩
  | some x =>
    obtain ⟨hx, x1, x2, x3⟩ := hHad_some e
    dsimp only
    by_cases h8 : 8 ≤ x.kind
    · rw [if_pos h8, if_pos h8]
      have w1 := letN_spec (C := C) (pn x.kind) (lo x.kind x.slot) M H.T h.tp ok fun i hi => h.cov x hx i hi
      have w2 := letN_spec (C := C) (pn x.kind) (lo x.kind x.slot) M' H.T h'.tp ok' fun i hi => h'.cov x hx i hi
      have eT := letN_T (pn x.kind) (lo x.kind x.slot) M M' H.T
      rw [← eT] at w2
      refine ⟨by dsimp only; rw [eT], ?_⟩
      exact sim_went s w1 w2
    · rw [if_neg h8, if_neg h8]
      have h7 : x.kind ≤ 7 := by omega
      have hs := h.sm x hx h7
      have hs' := h'.sm x hx h7
      obtain ⟨q0, e1, m1⟩ := hs.page h.tp.tb
      have lk := (Like.both hs.ok (by rw [e1]; exact s.win q0 ⟨_, m1⟩)).free hs'.ok j
      have l2 := (Like.refl hs'.ok).free hs'.ok j
      have sp : Sim k H.W ⟨M.has, pfB x.pg M.bs j, pfT x.pg M.ss j⟩ ⟨M'.has, pfB x.pg M'.bs j, pfT x.pg M'.ss j⟩ H.T := sim_page s h.tp e1 lk.1 lk.2.1 lk.2.2 l2.2.2
      by_cases hu : (pfS x.pg j).used = 0
      · rw [if_pos hu, if_pos hu]
        obtain ⟨b1, b2, _⟩ := h.free ok hx h7 (x3 h7) (ss' := pfT x.pg M.ss j)
        obtain ⟨b1', b2', _⟩ := h'.free ok' hx h7 (x3 h7) (ss' := pfT x.pg M'.ss j)
        have w1 := letN_spec (C := C) (pn x.kind) (lo x.kind x.slot) ⟨M.has, pfB x.pg M.bs j, pfT x.pg M.ss j⟩ H.T h.tp b2 fun i hi => h.cov x hx i hi
        have w2 := letN_spec (C := C) (pn x.kind) (lo x.kind x.slot) ⟨M'.has, pfB x.pg M'.bs j, pfT x.pg M'.ss j⟩ H.T h'.tp b2' fun i hi => h'.cov x hx i hi
        have eT := letN_T (pn x.kind) (lo x.kind x.slot) ⟨M.has, pfB x.pg M.bs j, pfT x.pg M.ss j⟩ ⟨M'.has, pfB x.pg M'.bs j, pfT x.pg M'.ss j⟩ H.T
        rw [← eT] at w2
        refine ⟨by dsimp only; rw [eT], ?_⟩
        exact sim_went sp w1 w2
      · rw [if_neg hu, if_neg hu]
        exact ⟨rfl, sp⟩
theorem hFr_sim (s : Sim k H.W M M' H.T) (h : HpOk C M H) (h' : HpOk C M' H) (ok : MsOk M) (ok' : MsOk M') (c sl j E : Int) : (hFr M H c sl j E).2 = (hFr M' H c sl j E).2 ∧ Sim k H.W (hFr M H c sl j E).1 (hFr M' H c sl j E).1 (hFr M H c sl j E).2.1.T := by
  unfold hFr
  split
  · exact hF_sim s h h' ok ok' _ _ _
  · exact ⟨rfl, s⟩
theorem hDr_sim (s : Sim k H.W M M' H.T) (h : HpOk C M H) (h' : HpOk C M' H) (ok : MsOk M) (ok' : MsOk M') : (hDr M H).2 = (hDr M' H).2 ∧ Sim k H.W (hDr M H).1 (hDr M' H).1 (hDr M H).2.T := by
  obtain ⟨l1, _⟩ := hDr_ok h ok
  obtain ⟨l2, _⟩ := hDr_ok h' ok'
  obtain ⟨a1, a2⟩ := sim_has (T1 := []) (M1 := (hDr M H).1) (M1' := (hDr M' H).1) s l1.ok.tp l2.ok.tp l1.stp l2.stp
  exact ⟨rfl, a1, a2, fun q ⟨v, hv⟩ => (by cases hv)⟩
end
end Go.Proofs.YtihaifnenjngpaaGreatDoor

namespace Go.Proofs.YtihaifnenjngpaaGreatDoor
open Go.RowKit
open An

/-- A touch within a page that the table holds. -/
def InP (T : Tb) (sp : Sp) : Prop := ∃ q : Nat, Pgs T q ∧ sp.1 / 512 = (q : Int) ∧ sp.1 % 512 + sp.2.1 ≤ 512 ∧ 0 ≤ sp.2.1
section
variable {C : Nat → Prop} {k : Nat} {M : Ms} {H : Hp} {T : Tb}
theorem inP_block (h : HpOk C M H) {x : Hd} (hx : x ∈ H.L) (h7 : x.kind ≤ 7) {i n : Nat} (hi : i < pp x.kind) (hn : n ≤ pu x.kind) (b : Bool) : InP H.T ((x.pg.pos i : Int), (n : Int), b) := by
  have hs := h.sm x hx h7
  obtain ⟨q, e1, m1⟩ := hs.page h.tp.tb
  have hb := hs.ok.block (x := i) (by rw [hs.kd]; exact hi)
  rw [hs.kd] at hb
  refine ⟨q, ⟨_, m1⟩, ?_, ?_, by show (0 : Int) ≤ (n : Int); omega⟩
  · show ((x.pg.pos i : Nat) : Int) / 512 = q
    obtain ⟨⟨u1, _⟩, _⟩ := kind_facts x.kind h7
    omega
  · show ((x.pg.pos i : Nat) : Int) % 512 + (n : Int) ≤ 512
    obtain ⟨⟨u1, _⟩, _⟩ := kind_facts x.kind h7
    omega
theorem hM_touch (h : HpOk C M H) {n : Int} {r : Ms × Hp × Int × Int} (w : MWay C k M H n r) : ∀ sp ∈ r.1.ss, sp ∈ M.ss ∨ InP H.T sp := by
  rcases w with ⟨_, rfl⟩ | ⟨_, rfl, _⟩ | ⟨c, hc, h8, s, m', H', g, f, rfl⟩ | ⟨c, hc, h7, hln, s, m', H', q, f, hm, hq, rfl⟩ | ⟨c, hc, h7, x, hx, rfl, hf, _, rfl⟩
  · exact fun sp hsp => .inl hsp
  · exact fun sp hsp => .inl hsp
  · intro sp hsp; have hsp : sp ∈ m'.ss := hsp; rw [f.em] at hsp; exact .inl hsp
  · intro sp hsp; have hsp : sp ∈ m'.ss := hsp; rw [f.em] at hsp; exact .inl hsp
  · intro sp hsp
    have hsp : sp ∈ paT x.pg M.ss := hsp
    have hs := h.sm x hx h7
    have hg := hs.ok.given hs.cl hf
    obtain ⟨⟨u1, _⟩, _⟩ := kind_facts x.kind h7
    unfold paT at hsp
    split at hsp
    · exact .inl hsp
    · rw [List.append_assoc, List.mem_append] at hsp
      rcases hsp with e | e
      · exact .inl e
      · have hlt : paK x.pg < pp x.kind := by rw [← hs.kd]; exact hg.lt
        simp only [List.cons_append, List.nil_append, List.mem_cons, List.not_mem_nil, or_false] at e
        rcases e with rfl | rfl
        · exact .inr (inP_block h hx h7 hlt (n := 8) (by omega) _)
        · exact .inr (inP_block h hx h7 hlt (n := 8) (by omega) _)
theorem inP_page (h : TpOk C M.has T) {v : Int} (hv : ¬ tbF T v < 0) : InP T (tbUV T v * 512, 512, true) := by
  have hm := h.tb.f_some hv
  obtain ⟨q, hq⟩ : ∃ q : Nat, tbF T v = (q : Int) := ⟨(tbF T v).toNat, by omega⟩
  rw [hq] at hm
  refine ⟨q, ⟨v, hm⟩, ?_, ?_, by show (0 : Int) ≤ 512; omega⟩
  · show tbUV T v * 512 / 512 = q
    unfold tbUV; rw [if_neg hv, hq]; omega
  · show tbUV T v * 512 % 512 + 512 ≤ 512
    omega
theorem letN_touch : ∀ (n : Nat) (v : Int) (m : Ms) (T : Tb), TpOk C m.has T → MsOk m → (∀ i : Nat, i < n → ¬ tbF T (v + i) < 0) → ∀ sp ∈ (letN n v m T).1.ss, sp ∈ m.ss ∨ InP T sp
  | 0, _, _, _, _, _, _ => fun sp hsp => .inl hsp
  | n + 1, v, m, T, h, ok, hv => by
    have hv0 := hv 0 (by omega)
    simp only [Int.natCast_zero, Int.add_zero] at hv0
    obtain ⟨p, _, _, _, _, _, h1⟩ := drop_one h ok hv0
    intro sp hsp
    unfold letN at hsp
    have ih := letN_touch n (v + 1) (drM m T v) (tbU T v) h1.ok h1.ms (fun i hi => by
      have := hv (i + 1) (by omega)
      rw [show v + ((i + 1 : Nat) : Int) = v + 1 + i by omega] at this
      rw [tbU_far _ _ (by omega)]
      exact this) sp hsp
    rcases ih with e | ⟨q, ⟨u, hu⟩, e2, e3⟩
    · have e : sp ∈ m.ss ++ [(tbUV T v * 512, 512, true)] := e
      rcases List.mem_append.1 e with e | e
      · exact .inl e
      · simp only [List.mem_singleton] at e; subst e; exact .inr (inP_page h hv0)
    · exact .inr ⟨q, ⟨u, (hp_memU.1 hu).1⟩, e2, e3⟩
theorem hF_touch (h : HpOk C M H) (ok : MsOk M) (c s : Nat) (j : Int) : ∀ sp ∈ (hF M H c s j).1.ss, sp ∈ M.ss ∨ InP H.T sp := by
  unfold hF
  cases e : hHad H.L c s j with
  | none => exact fun sp hsp => .inl hsp
  | some x =>
    obtain ⟨hx, x1, x2, x3⟩ := hHad_some e
    dsimp only
    by_cases h8 : 8 ≤ x.kind
    · rw [if_pos h8]
      exact letN_touch _ _ M H.T h.tp ok fun i hi => h.cov x hx i hi
    · rw [if_neg h8]
      have h7 : x.kind ≤ 7 := by omega
      have hm := x3 h7
      have hs := h.sm x hx h7
      have hp : ∀ sp ∈ pfT x.pg M.ss j, sp ∈ M.ss ∨ InP H.T sp := fun sp hsp => by
        unfold pfT at hsp
        rw [if_pos hm, List.append_assoc, List.mem_append] at hsp
        have hlt : j.toNat < pp x.kind := by have := hm.1.1; have := hm.1.2; rw [hs.kd] at this; omega
        obtain ⟨⟨u1, _⟩, _⟩ := kind_facts x.kind h7
        rcases hsp with e | e
        · exact .inl e
        · simp only [List.cons_append, List.nil_append, List.mem_cons, List.not_mem_nil, or_false] at e
          rcases e with rfl | rfl
          · exact .inr (inP_block h hx h7 hlt (n := pu x.pg.kind) (by rw [hs.kd]; exact Nat.le_refl _) _)
          · exact .inr (inP_block h hx h7 hlt (n := 8) (by omega) _)
      by_cases hu : (pfS x.pg j).used = 0
      · rw [if_pos hu]
        obtain ⟨b1, b2, _⟩ := h.free ok hx h7 hm (ss' := pfT x.pg M.ss j)
        intro sp hsp
        rcases letN_touch _ _ ⟨M.has, pfB x.pg M.bs j, pfT x.pg M.ss j⟩ H.T h.tp b2 (fun i hi => h.cov x hx i hi) sp hsp with e | e
        · exact hp sp e
        · exact .inr e
      · rw [if_neg hu]
        exact hp
theorem drA_touch : ∀ (T : Tb) (m : Ms), TpOk C m.has T → MsOk m → ∀ sp ∈ (drA (T.map Prod.fst) m T).1.ss, sp ∈ m.ss ∨ InP T sp
  | [], _, _, _ => fun sp hsp => .inl hsp
  | x :: r, m, h, ok => by
    intro sp hsp
    rw [List.map_cons] at hsp
    unfold drA at hsp
    have hf : tbF (x :: r) x.1 = x.2 := tbF_mem h.tb (by simp)
    have hx := h.tk x (by simp)
    have hv : ¬ tbF (x :: r) x.1 < 0 := by rw [hf]; omega
    obtain ⟨p, _, _, _, _, _, w⟩ := drop_one h ok hv
    rw [tbU_head h.tb] at w hsp
    rcases drA_touch r (drM m (x :: r) x.1) w.ok w.ms sp hsp with e | ⟨q, ⟨u, hu⟩, e2, e3⟩
    · have e : sp ∈ m.ss ++ [(tbUV (x :: r) x.1 * 512, 512, true)] := e
      rcases List.mem_append.1 e with e | e
      · exact .inl e
      · simp only [List.mem_singleton] at e; subst e; exact .inr (inP_page h hv)
    · exact .inr ⟨q, ⟨u, List.mem_cons_of_mem _ hu⟩, e2, e3⟩
end
end Go.Proofs.YtihaifnenjngpaaGreatDoor
