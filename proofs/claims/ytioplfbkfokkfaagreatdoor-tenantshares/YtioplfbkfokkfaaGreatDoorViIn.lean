/-
  Malloc, Free, Usable: what they leave: mathematics.
  Move and Drop: what they leave: mathematics.
  What the calls of the document's own arena (package garthref01) do: the same contracts.
  The document's own arena, the calls with loops.
  Touched: the spans, in memory of the caller's own.
  Same: two lists of spans that are alike.
  Each call of either arena told without cases, and for two arenas side by side.
  An arena as one thing in memory: the program's, and the document's.
  An arena and chains in it, as one thing in memory; the document's chain.
  Lists of numbers, more: one more put behind a row, and where it lies; two lists held against each other.
  What the document's own chain does.
  What the document's own chain does: All, Take, Move.
  The document's page in memory.
  Three and more things as one: one of them rests while the others turn. Nothing of the program is named here.
  More of things side by side: a block of the call's own among them, one thing and a block beside it. Nothing of the program is named here.
  A thing that has come in, and all that was there beside it: as things side by side.
-/
import Derived.Test.YtioplfbkfokkfaaGreatDoorHpHeap
import Derived.Test.YtioplfbkfokkfaaGreatDoorPaWin
import Derived.Test.YtioplfbkfokkfaaGreatDoorAnArena
import Derived.Test.YtioplfbkfokkfaaGreatDoorSeen
import Derived.Deep.RegionLaw
import Derived.LoopTactic
import Derived.Deep.QuietTactic
import Derived.BigQuiet
import Derived.Deep.RegionHeld3
import Derived.BigRegion
import Derived.Test.YtioplfbkfokkfaaGreatDoorDmCalls
namespace Go.Proofs.YtioplfbkfokkfaaGreatDoor
open Go.RowKit
open An

section
variable {C : Nat → Prop} {k : Nat} {m : Ms} {H : Hp} {bs : List UInt8} {g : Pg} {T : Tb} {L : List Hd} {c s : Nat}
theorem lo_small (h : c ≤ 7) (s : Nat) : lo c s = ((c + 1) * 256 + s : Nat) := by
  rw [lo_eq (by omega), ((pn_facts (show c ≤ 23 by omega)).2.2.2.2.2 h).1, Nat.mul_one]
theorem slot_back (h : c ≤ 7) (s : Nat) : (lo c s - lo c 0).toNat = s := by rw [lo_small h, lo_small h]; omega
theorem fresh_one {b : Nat} (h : c ≤ 7) : paS ⟨b, c, 0, [], []⟩ = ⟨b, c, 1, [], []⟩ ∧ paV ⟨b, c, 0, [], []⟩ = 0 ∧ (∀ bs, paB ⟨b, c, 0, [], []⟩ bs = bs) ∧ (∀ ss, paT ⟨b, c, 0, [], []⟩ ss = ss) ∧ ¬ Pg.Full ⟨b, c, 1, [], []⟩ := by
  obtain ⟨_, ⟨h2, _⟩, _⟩ := kind_facts c h
  have hf : ¬ Pg.Full ⟨b, c, 0, [], []⟩ := by unfold Pg.Full Pg.used; simp; omega
  have h1 : ¬ Pg.Full ⟨b, c, 1, [], []⟩ := by unfold Pg.Full Pg.used; simp; omega
  obtain ⟨_, e2, e3, _, e5⟩ := pa_F (bs := []) hf rfl rfl
  exact ⟨e3, by rw [e2]; rfl, fun bs => (pa_F (bs := bs) hf rfl rfl).2.2.2.1, e5, h1⟩
theorem fresh_sm (ok : MsOk m) (hc : c ≤ 7) {q : Nat} (hq : q < m.has.length) (hf : m.has.getD q true = false) (ht : tbF T (lo c s) = (q : Int)) : SmOk m.bs T ⟨c, s, ⟨q * 512, c, 1, [], []⟩⟩ := by
  obtain ⟨_, ⟨h2, _⟩, _⟩ := kind_facts c hc
  have hb : q * 512 + 512 ≤ m.bs.length := by have := ok.len; omega
  refine ⟨⟨hc, by show q * 512 % 512 = 0; omega, hb, trivial, trivial, List.nodup_nil, fun x hx => by simp at hx, by show 1 ≤ pp c; omega⟩, fun i h1 h2 hne => ?_, rfl, by rw [ht]; show ((q * 512 : Nat) : Int) = _; omega⟩
  exfalso
  have hw := ok.cl q hq hf
  have e1 := win_get? m.bs (q * 512) (i - q * 512) (by have h2 : i < q * 512 + 512 := h2; omega)
  rw [show q * 512 + (i - q * 512) = i by have h1 : q * 512 ≤ i := h1; omega, hw] at e1
  rw [← e1] at hne
  exact hne (nz_get _ _)
structure Fresh (C : Nat → Prop) (k : Nat) (m : Ms) (H : Hp) (c s : Nat) (g : Pg) (ln' : Nat → List Int) (m' : Ms) (H' : Hp) : Prop where
  fc : c ≤ 23
  fs : s < sn c
  free : ¬ Held H.L c s
  low : s = hSl H.L c
  took : Took C k H.W (pn c) (lo c s) m.has H.T m'.has H'.T
  em : m' = ⟨m'.has, m.bs, m.ss⟩
  eH : H' = ⟨H.W, H'.T, H.L ++ [⟨c, s, g⟩], ln'⟩
def MWay (C : Nat → Prop) (k : Nat) (m : Ms) (H : Hp) (n : Int) (r : Ms × Hp × Int × Int) : Prop :=
  (ofI n < 0 ∧ r = (m, H, 0, 2)) ∨
  (0 ≤ ofI n ∧ r = (m, H, 0, 13) ∧ (8 ≤ ofI n ∨ H.ln (ofI n).toNat = []) ∧ (sn (ofI n).toNat ≤ hSl H.L (ofI n).toNat ∨ Cq.frI k m.has H.W < pn (ofI n).toNat)) ∨
  (∃ c : Nat, ofI n = (c : Int) ∧ 8 ≤ c ∧ ∃ s m' H' g, Fresh C k m H c s g H.ln m' H' ∧ r = (m', H', adI c s 0, 0)) ∨
  (∃ c : Nat, ofI n = (c : Int) ∧ c ≤ 7 ∧ H.ln c = [] ∧ ∃ s m' H' q, Fresh C k m H c s ⟨q * 512, c, 1, [], []⟩ (lnS H.ln c [lo c s]) m' H' ∧ (lo c s, (q : Int)) ∈ H'.T ∧ m.has.getD q true = false ∧ r = (m', H', adI c s 0, 0)) ∨
  (∃ c : Nat, ofI n = (c : Int) ∧ c ≤ 7 ∧ ∃ x ∈ H.L, x.kind = c ∧ ¬ x.pg.Full ∧ (∃ t, H.ln c = lo c x.slot :: t) ∧ r = (⟨m.has, paB x.pg m.bs, paT x.pg m.ss⟩, ⟨H.W, H.T, hSet H.L c x.slot (paS x.pg), if (paS x.pg).Full then lnS H.ln c (liR (H.ln c) (lo c x.slot)) else H.ln⟩, adI c x.slot (paV x.pg), 0))
theorem hold_took (hC : ∀ q, Cq.inW k H.W q = true → C q) (h : HpOk C m H) (ok : MsOk m) (hc : c ≤ 23) (hs : hSl H.L c < sn c) (hf : pn c ≤ Cq.frI k m.has H.W) :
    Took C k H.W (pn c) (lo c (hSl H.L c)) m.has H.T (takN k H.W (pn c) (lo c (hSl H.L c)) m.has H.T).1 (takN k H.W (pn c) (lo c (hSl H.L c)) m.has H.T).2 :=
  takN_spec hC _ _ _ _ h.tp ok.cap hf fun i hi => by
    have l := lo_in hc hs hi
    refine ⟨l.2.2, ?_⟩
    by_cases e : tbF H.T (lo c (hSl H.L c) + i) < 0
    · exact e
    · exfalso
      obtain ⟨x, hx, j, hj, e2⟩ := h.dom _ (h.tp.tb.f_some e)
      obtain ⟨b1, b2⟩ := h.at_ x hx
      have := lo_one hc hs b1 b2 hi hj e2
      exact hSl_free hs ⟨x, hx, this.1.symm, this.2.1.symm⟩
theorem hAt_last (hn : ¬ Held L c s) : hAt (L ++ [⟨c, s, g⟩]) c s = some ⟨c, s, g⟩ := by
  unfold hAt
  rw [List.find?_append, List.find?_eq_none.2 fun x hx e => hn ⟨x, hx, by simpa using e⟩]
  simp
theorem hSet_last (hn : ¬ Held L c s) (g' : Pg) : hSet (L ++ [⟨c, s, g⟩]) c s g' = L ++ [⟨c, s, g'⟩] := by
  unfold hSet
  rw [List.map_append]
  congr 1
  · conv => rhs; rw [← List.map_id L]
    apply List.map_congr_left
    intro x hx
    rw [if_neg fun e => hn ⟨x, hx, e⟩]
    rfl
  · simp
theorem hM_ways (hC : ∀ q, Cq.inW k H.W q = true → C q) (h : HpOk C m H) (ok : MsOk m) (n : Int) : MWay C k m H n (hM k m H n) := by
  unfold hM
  by_cases h0 : ofI n < 0
  · rw [if_pos h0]; exact Or.inl ⟨h0, rfl⟩
  rw [if_neg h0]
  have hr : ofI n ≤ 23 := by
    have : ¬ (n < 1 ∨ 8192 < n) := fun e => h0 (by rw [(ofI_none n).2 e]; decide)
    exact (ofI_range n (by omega) (by omega)).2
  obtain ⟨c, hc⟩ : ∃ c : Nat, ofI n = (c : Int) := ⟨(ofI n).toNat, by omega⟩
  have hcc : c ≤ 23 := by omega
  rw [hc, Int.toNat_natCast]
  by_cases hroom : hSl H.L c < sn c ∧ pn c ≤ Cq.frI k m.has H.W
  case neg =>
    have hno : hHold k m H c = none := if_neg hroom
    have hor : sn c ≤ hSl H.L c ∨ Cq.frI k m.has H.W < pn c := by omega
    by_cases h8 : 8 ≤ c
    · rw [if_pos h8, hno]; exact Or.inr (.inl ⟨by omega, rfl, .inl (by omega), by rw [hc, Int.toNat_natCast]; exact hor⟩)
    · rw [if_neg h8]
      cases hln : H.ln c with
      | nil => dsimp only; rw [hno]; exact Or.inr (.inl ⟨by omega, rfl, .inr (by rw [hc, Int.toNat_natCast]; exact hln), by rw [hc, Int.toNat_natCast]; exact hor⟩)
      | cons v t =>
        obtain ⟨x, hx, x1, x2, x3, x4⟩ := ((h.ln c).2 v).1 (by rw [hln]; simp)
        refine Or.inr (.inr (.inr (.inr ⟨c, hc, by omega, x, hx, x1, x4, ⟨t, by rw [hln, x3]⟩, ?_⟩)))
        dsimp only
        unfold hSm
        have := hAt_mem h.nd hx
        rw [x1] at this
        rw [x3, slot_back (by omega), this]
  have ht := hold_took hC h ok hcc hroom.1 hroom.2
  have hno : hHold k m H c = some _ := if_pos hroom
  rw [hno]
  have hfr := hSl_free hroom.1
  generalize hs : hSl H.L c = s at *
  generalize (takN k H.W (pn c) (lo c s) m.has H.T).1 = has' at *
  generalize (takN k H.W (pn c) (lo c s) m.has H.T).2 = T' at *
  by_cases h8 : 8 ≤ c
  · rw [if_pos h8]
    exact Or.inr (.inr (.inl ⟨c, hc, h8, s, _, _, _, ⟨hcc, hroom.1, hfr, hs.symm, ht, rfl, rfl⟩, rfl⟩))
  · rw [if_neg h8]
    cases hln : H.ln c with
    | cons v t =>
      obtain ⟨x, hx, x1, x2, x3, x4⟩ := ((h.ln c).2 v).1 (by rw [hln]; simp)
      refine Or.inr (.inr (.inr (.inr ⟨c, hc, by omega, x, hx, x1, x4, ⟨t, by rw [hln, x3]⟩, ?_⟩)))
      dsimp only
      unfold hSm
      have := hAt_mem h.nd hx
      rw [x1] at this
      rw [x3, slot_back (by omega), this]
    | nil =>
      dsimp only
      have h7 : c ≤ 7 := by omega
      have hp1 := ((pn_facts hcc).2.2.2.2.2 h7).1
      have hg := ht.got 0 (by omega)
      simp only [Int.natCast_zero, Int.add_zero] at hg
      have hmem := ht.ok.tb.f_some hg
      obtain ⟨q, hq⟩ : ∃ q : Nat, tbF T' (lo c s) = (q : Int) := ⟨(tbF T' (lo c s)).toNat, by omega⟩
      rw [hq] at hmem
      have hqf : m.has.getD q true = false := by
        rcases ht.new _ hmem with e | e
        · exfalso
          obtain ⟨x, hx, j, hj, e2⟩ := h.dom _ e
          obtain ⟨b1, b2⟩ := h.at_ x hx
          have := lo_one hcc hroom.1 b1 b2 (i := 0) (by omega) hj (by simpa using e2)
          exact hfr ⟨x, hx, this.1.symm, this.2.1.symm⟩
        · simpa using e.2
      refine Or.inr (.inr (.inr (.inl ⟨c, hc, h7, hln, s, ⟨has', m.bs, m.ss⟩, ⟨H.W, T', H.L ++ [⟨c, s, ⟨q * 512, c, 1, [], []⟩⟩], lnS H.ln c [lo c s]⟩, q, ⟨hcc, hroom.1, hfr, hs.symm, ht, rfl, rfl⟩, hmem, hqf, ?_⟩)))
      unfold hSm
      obtain ⟨f1, f2, f3, f4, f5⟩ := fresh_one (b := q * 512) h7
      dsimp only
      rw [slot_back h7, hq, Int.toNat_natCast, hAt_last hfr]
      dsimp only
      rw [f1, f2, f3, f4, if_neg f5, hSet_last hfr]
def Us (L : List Hd) : Prop := ∀ x ∈ L, x.kind ≤ 7 → 0 < x.pg.used
theorem lnS_in {ln : Nat → List Int} {x : List Int} {d : Nat} {v : Int} : v ∈ lnS ln c x d ↔ if d = c then v ∈ x else v ∈ ln d := by
  unfold lnS
  split <;> rfl
theorem lnS_nd {ln : Nat → List Int} {x : List Int} {d : Nat} (h : (ln d).Nodup) (hx : x.Nodup) : (lnS ln c x d).Nodup := by
  unfold lnS
  split
  · exact hx
  · exact h
structure Left17 (C : Nat → Prop) (m : Ms) (H : Hp) (m' : Ms) (H' : Hp) : Prop where
  ok : HpOk C m' H'
  ms : MsOk m'
  stp : Stp m H.T m' H'.T
  us : Us H.L → Us H'.L
theorem HpOk.left (h : HpOk C m H) (ok : MsOk m) : Left17 C m H m H := ⟨h, ok, Stp.refl _ _, id⟩
theorem HpOk.alloc (h : HpOk C m H) (ok : MsOk m) {x : Hd} (hx : x ∈ H.L) (hk : x.kind ≤ 7) (hf : ¬ x.pg.Full) {ss' : List Sp} : Left17 C m H ⟨m.has, paB x.pg m.bs, ss'⟩ ⟨H.W, H.T, hSet H.L x.kind x.slot (paS x.pg), if (paS x.pg).Full then lnS H.ln x.kind (liR (H.ln x.kind) (lo x.kind x.slot)) else H.ln⟩ := by
  have hs := h.sm x hx hk
  have hg := hs.ok.given hs.cl hf
  obtain ⟨_, l2, l3⟩ := (Like.refl hs.ok).alloc hs.ok
  have hv : lo x.kind x.slot ∈ H.ln x.kind := ((h.ln x.kind).2 _).2 ⟨x, hx, rfl, hk, rfl, hf⟩
  obtain ⟨a1, a2, a3⟩ := h.page (ss' := ss') ok hx hk (g' := paS x.pg) (bs' := paB x.pg m.bs) (ln' := if (paS x.pg).Full then lnS H.ln x.kind (liR (H.ln x.kind) (lo x.kind x.slot)) else H.ln) hg.ok hg.clean l2 (by rw [hg.kind, hs.kd]) hs.ok.alloc.2 l3 fun c => by
    by_cases hF : (paS x.pg).Full
    · rw [if_pos hF]
      refine ⟨lnS_nd (h.ln c).1 ((h.ln _).1.filter _), fun v => ?_⟩
      rw [lnS_in]
      by_cases e : c = x.kind
      · subst e
        rw [if_pos rfl, mem_liR]
        by_cases e2 : v = lo x.kind x.slot
        · simp [e2, hF]
        · simp [e2]
      · rw [if_neg e, if_neg fun e2 => e e2.1]
    · rw [if_neg hF]
      refine ⟨(h.ln c).1, fun v => ?_⟩
      by_cases e : c = x.kind ∧ v = lo x.kind x.slot
      · rw [if_pos e, e.1, e.2]; simp [hF, hv]
      · rw [if_neg e]
  refine ⟨a1, a2, a3, fun u y hy h7 => ?_⟩
  rcases (mem_hSet h.nd hx).1 hy with rfl | e
  · show 0 < (paS x.pg).used
    rw [hg.used]; omega
  · exact u y e.1 h7
theorem MWay.ok (h : HpOk C m H) (ok : MsOk m) {n : Int} {r : Ms × Hp × Int × Int} (w : MWay C k m H n r) : Left17 C m H r.1 r.2.1 ∧ r.2.1.W = H.W ∧ r.1.ss.length ≤ m.ss.length + 2 := by
  rcases w with ⟨_, rfl⟩ | ⟨_, rfl, _⟩ | ⟨c, hc, h8, s, m', H', g, f, rfl⟩ | ⟨c, hc, h7, hln, s, m', H', q, f, hm, hq, rfl⟩ | ⟨c, hc, h7, x, hx, rfl, hf, _, rfl⟩
  · exact ⟨h.left ok, rfl, by simp⟩
  · exact ⟨h.left ok, rfl, by simp⟩
  · have hT := f.took
    rw [f.em, f.eH]
    refine ⟨⟨h.add ok f.fc f.fs f.free hT (fun e => by omega) (fun d => ⟨(h.ln d).1, fun v => ⟨.inl, fun e => e.elim id fun e => by omega⟩⟩), hT.ms ok, hT.stp, fun u y hy h7 => ?_⟩, rfl, by simp⟩
    rcases List.mem_append.1 hy with e | e
    · exact u y e h7
    · simp only [List.mem_singleton] at e; subst e; exact absurd h7 (by show ¬ c ≤ 7; omega)
  · have hT := f.took
    have hlt := hT.ok.lt ⟨_, hm⟩
    rw [hT.len] at hlt
    rw [f.em, f.eH]
    refine ⟨⟨h.add ok f.fc f.fs f.free hT (fun e => fresh_sm ok h7 hlt hq (tbF_mem hT.ok.tb hm)) (fun d => ⟨lnS_nd (h.ln d).1 (by simp), fun v => ?_⟩), hT.ms ok, hT.stp, fun u y hy h7 => ?_⟩, rfl, by simp⟩
    · rw [lnS_in]
      have f5 := (fresh_one (b := q * 512) h7).2.2.2.2
      by_cases e : d = c
      · subst e; rw [if_pos rfl, hln]; simp [h7, f5]
      · rw [if_neg e]; simp [e]
    · rcases List.mem_append.1 hy with e | e
      · exact u y e h7
      · simp only [List.mem_singleton] at e; subst e; show 0 < Pg.used ⟨q * 512, c, 1, [], []⟩; simp [Pg.used]
  · refine ⟨h.alloc ok hx h7 hf, rfl, ?_⟩
    show (paT x.pg m.ss).length ≤ _
    unfold paT
    split <;> simp
def hHad (L : List Hd) (c s : Nat) (j : Int) : Option Hd := match hAt L c s with
  | none => none
  | some x => if x.kind ≤ 7 ∧ ¬ x.pg.May j then none else some x
def hF (m : Ms) (H : Hp) (c s : Nat) (j : Int) : Ms × Hp × Int := match hHad H.L c s j with
  | none => (m, H, 13)
  | some x =>
    if 8 ≤ x.kind then ((letN (pn x.kind) (lo x.kind x.slot) m H.T).1, ⟨H.W, (letN (pn x.kind) (lo x.kind x.slot) m H.T).2, hDel H.L x.kind x.slot, H.ln⟩, 0)
    else if (pfS x.pg j).used = 0 then
      ((letN (pn x.kind) (lo x.kind x.slot) ⟨m.has, pfB x.pg m.bs j, pfT x.pg m.ss j⟩ H.T).1, ⟨H.W, (letN (pn x.kind) (lo x.kind x.slot) ⟨m.has, pfB x.pg m.bs j, pfT x.pg m.ss j⟩ H.T).2, hDel H.L x.kind x.slot, lnS H.ln x.kind (liR (H.ln x.kind) (lo x.kind x.slot))⟩, 0)
    else (⟨m.has, pfB x.pg m.bs j, pfT x.pg m.ss j⟩, ⟨H.W, H.T, hSet H.L x.kind x.slot (pfS x.pg j), if x.pg.Full then lnS H.ln x.kind (H.ln x.kind ++ [lo x.kind x.slot]) else H.ln⟩, 0)
theorem HpOk.free (h : HpOk C m H) (ok : MsOk m) {x : Hd} (hx : x ∈ H.L) (hk : x.kind ≤ 7) {j : Int} (hj : x.pg.May j) {ss' : List Sp} : HpOk C ⟨m.has, pfB x.pg m.bs j, ss'⟩ ⟨H.W, H.T, hSet H.L x.kind x.slot (pfS x.pg j), if x.pg.Full then lnS H.ln x.kind (H.ln x.kind ++ [lo x.kind x.slot]) else H.ln⟩ ∧ MsOk ⟨m.has, pfB x.pg m.bs j, ss'⟩ ∧ Stp m H.T ⟨m.has, pfB x.pg m.bs j, ss'⟩ H.T := by
  have hs := h.sm x hx hk
  obtain ⟨f1, _, _, f4⟩ := hs.ok.freed hs.cl j
  obtain ⟨_, l2, l3⟩ := (Like.refl hs.ok).free hs.ok j
  have f4 := f4 hj
  have hkd : (pfS x.pg j).kind = x.pg.kind := by unfold pfS; split <;> rfl
  have hnf : ¬ (pfS x.pg j).Full := by
    unfold Pg.Full
    rw [hkd]
    have := hs.ok.free j
    have h1 := hs.ok.count
    have h2 := hs.ok.fr
    unfold Pg.used at f4 ⊢
    omega
  refine h.page ok hx hk (hs.ok.free j).1 f1 l2 (by rw [hkd, hs.kd]) (hs.ok.free j).2 l3 fun c => ?_
  by_cases hF : x.pg.Full
  · have hv : lo x.kind x.slot ∉ H.ln x.kind := fun e => by
      obtain ⟨y, hy, y1, y2, y3, y4⟩ := ((h.ln x.kind).2 _).1 e
      obtain ⟨a1, a2⟩ := h.at_ x hx
      obtain ⟨b1, b2⟩ := h.at_ y hy
      have p1 := (pn_facts a1).1.1
      have := lo_one a1 a2 b1 b2 (i := 0) (i' := 0) (by omega) (by rw [y1]; omega) (by rw [y1]; simpa using y3)
      rw [slot_one h.nd hx hy this.1 this.2.1] at hF
      exact y4 hF
    rw [if_pos hF]
    refine ⟨lnS_nd (h.ln c).1 ?_, fun v => ?_⟩
    · rw [List.nodup_append]
      exact ⟨(h.ln _).1, by simp, fun a ha b hb e => by simp only [List.mem_singleton] at hb; subst hb; subst e; exact hv ha⟩
    · rw [lnS_in]
      by_cases e : c = x.kind
      · subst e
        rw [if_pos rfl, List.mem_append, List.mem_singleton]
        by_cases e2 : v = lo x.kind x.slot
        · simp [e2, hnf]
        · simp [e2]
      · rw [if_neg e, if_neg fun e2 => e e2.1]
  · rw [if_neg hF]
    refine ⟨(h.ln c).1, fun v => ?_⟩
    by_cases e : c = x.kind ∧ v = lo x.kind x.slot
    · rw [if_pos e, e.1, e.2]
      have hv : lo x.kind x.slot ∈ H.ln x.kind := ((h.ln x.kind).2 _).2 ⟨x, hx, rfl, hk, rfl, hF⟩
      simp [hnf, hv]
    · rw [if_neg e]
theorem hHad_some {x : Hd} {j : Int} (h : hHad L c s j = some x) : x ∈ L ∧ x.kind = c ∧ x.slot = s ∧ (x.kind ≤ 7 → x.pg.May j) := by
  unfold hHad at h
  cases e : hAt L c s with
  | none => rw [e] at h; cases h
  | some y =>
    rw [e] at h
    dsimp only at h
    split at h
    · cases h
    case isFalse hn =>
      cases h
      obtain ⟨a1, a2, a3⟩ := hAt_some e
      exact ⟨a1, a2, a3, fun h7 => Classical.not_not.1 fun h8 => hn ⟨h7, h8⟩⟩
theorem letN_ss : ∀ (n : Nat) (v : Int) (m : Ms) (T : Tb), (letN n v m T).1.ss.length = m.ss.length + n
  | 0, _, _, _ => rfl
  | n + 1, v, m, T => by
    unfold letN
    rw [letN_ss n]
    show (m.ss ++ [_]).length + n = _
    rw [List.length_append, List.length_singleton]
    omega
theorem hp_pfT_len (ss : List Sp) (j : Int) : (pfT g ss j).length ≤ ss.length + 2 := by unfold pfT; split <;> simp
end
end Go.Proofs.YtioplfbkfokkfaaGreatDoor

namespace Go.Proofs.YtioplfbkfokkfaaGreatDoor
open Go.RowKit
open An

section
variable {C : Nat → Prop} {k : Nat} {m : Ms} {H : Hp} {bs bs' : List UInt8} {g : Pg} {T : Tb} {L : List Hd} {W : List Int} {v : Int}
end
end Go.Proofs.YtioplfbkfokkfaaGreatDoor

namespace Go.Proofs.YtioplfbkfokkfaaGreatDoor.An
open Go.RowKit















end Go.Proofs.YtioplfbkfokkfaaGreatDoor.An

namespace Go.Proofs.YtioplfbkfokkfaaGreatDoor.An
open Go.RowKit






end Go.Proofs.YtioplfbkfokkfaaGreatDoor.An

namespace Go.Proofs.YtioplfbkfokkfaaGreatDoor.An
open Go.RowKit



end Go.Proofs.YtioplfbkfokkfaaGreatDoor.An

namespace Go.Proofs.YtioplfbkfokkfaaGreatDoor.An
open Go.RowKit






end Go.Proofs.YtioplfbkfokkfaaGreatDoor.An

namespace Go.Proofs.YtioplfbkfokkfaaGreatDoor.An
open Go.RowKit













end Go.Proofs.YtioplfbkfokkfaaGreatDoor.An

namespace Go.Proofs.YtioplfbkfokkfaaGreatDoor
open Go.RowKit
open An

def Am (T : TypeId) (a : Nat) (bs : List UInt8) (ss : List Sp) (w : World) (Z : Nat → Prop) : Prop :=
  ∃ B b v, Ar w T B a b bs v ss ∧ (Z a ∧ Z b ∧ ∀ y, v.ownBlock = some y → Z y) ∧ ∀ i, Z i → i < w.heap.size
section
variable {w w' : World} {T : TypeId} {a : Nat} {Z : Nat → Prop} {bs bs' : List UInt8} {ss ss' : List Sp}
theorem Am.good (T : TypeId) (a : Nat) (bs : List UInt8) (ss : List Sp) : Good (Am T a bs ss) :=
  ⟨fun ⟨B, b, v, h, ⟨h1, h2, h3⟩, h4⟩ f hs => ⟨B, b, v, h.carry f (hs _ h1) (hs _ h2) (fun x e => hs _ (h3 x e)), ⟨h1, h2, h3⟩, fun i hi => Nat.lt_of_lt_of_le (h4 i hi) f.size⟩,
   fun ⟨B, b, v, h, ⟨h1, h2, h3⟩, _⟩ k1 k2 => ⟨B, b, v, h, ⟨k1 _ h1, k1 _ h2, fun x e => k1 _ (h3 x e)⟩, k2⟩⟩
theorem Am.kept (h : Am T a bs ss w Z) (f : Fr (fun _ => False) w w') : Am T a bs ss w' Z := (Am.good T a bs ss).kept h f
theorem Am.lt (h : Am T a bs ss w Z) : ∀ i, Z i → i < w.heap.size := by obtain ⟨_, _, _, _, _, h⟩ := h; exact h
theorem Am.le (h : Am T a bs ss w Z) : bs.length ≤ 2097152 := by obtain ⟨_, _, _, h, _⟩ := h; exact h.le
theorem Am.noted {B b : Nat} {v : Value} (h1 : Z a ∧ Z b ∧ ∀ y, v.ownBlock = some y → Z y) (h2 : ∀ i, Z i → i < w.heap.size) (hn : Noted w w' T B a b bs' v ss') : ∃ Z', Am T a bs' ss' w' Z' ∧ Gw w w' Z Z' := by
  obtain ⟨v', h', f', hv⟩ := hn
  have hlt : ∀ i, (Z i ∨ v'.ownBlock = some i) → i < w'.heap.size := fun i hi => by
    rcases hi with hi | hi
    · exact Nat.lt_of_lt_of_le (h2 i hi) f'.size
    · exact (h'.own i hi).2
  refine ⟨fun i => Z i ∨ v'.ownBlock = some i, ⟨B, b, v', h', ⟨.inl h1.1, .inl h1.2.1, fun y e => .inr e⟩, hlt⟩, ⟨fun _ => .inl, fun i hi => ?_, hlt, f'.mono fun i _ e => ?_⟩⟩
  · rcases hi with hi | hi
    · exact .inl hi
    · rcases hv i hi with e | e
      · exact .inl (h1.2.2 i e)
      · exact .inr e
  · rcases e with rfl | rfl | e
    · exact h1.1
    · exact h1.2.1
    · exact h1.2.2 i e
theorem am_new (n : Nat) (w : World) (h : n ≤ 2097152) : Calls Tryz.prog 22 #[.int .i64 n] w fun e w' => ∃ a Z, e = .returned (.tuple #[.pointer (some ⟨a, 0, none⟩), .int .i64 0]) ∧ Am 104 a (List.replicate n 0) [] w' Z ∧ (∀ i, Z i → w.heap.size ≤ i) ∧ Fr (fun _ => False) w w' :=
  (new_ok n w h).mono fun e w' ⟨he, har, hf, hz⟩ => ⟨_, fun i => i = w.heap.size + 1 ∨ i = w.heap.size, he, ⟨_, _, _, har, ⟨.inl rfl, .inr rfl, fun y e => by cases e⟩, fun i hi => by omega⟩, fun i hi => by omega, hf⟩
theorem am_load (h : Am 104 a bs ss w Z) (p : Nat) (hin : p + 8 ≤ bs.length) (hk : ss.length ≤ 1000000) : Calls Tryz.prog 248 #[.pointer (some ⟨a, 0, none⟩), .int .i64 p] w fun e w' => e = .returned (.tuple #[.int .u64 (word ((bs.drop p).take 8) : Int), .int .i64 0]) ∧ ∃ Z', Am 104 a bs (ss ++ [((p : Int), (8 : Int), false)]) w' Z' ∧ Gw w w' Z Z' := by
  obtain ⟨B, b, v, h, h1, h2⟩ := h
  exact (load_ok h p hin hk).mono fun e w' ⟨he, hn⟩ => ⟨he, Am.noted h1 h2 hn⟩
theorem am_store (h : Am 104 a bs ss w Z) (p u : Nat) (hu : u < 18446744073709551616) (hin : p + 8 ≤ bs.length) (hk : ss.length ≤ 1000000) : Calls Tryz.prog 241 #[.pointer (some ⟨a, 0, none⟩), .int .i64 p, .int .u64 u] w fun e w' => e = .returned (.int .i64 0) ∧ ∃ Z', Am 104 a (over bs p (leb u 8)) (ss ++ [((p : Int), (8 : Int), true)]) w' Z' ∧ Gw w w' Z Z' := by
  obtain ⟨B, b, v, h, h1, h2⟩ := h
  exact (store_ok h p u hu hin hk).mono fun e w' ⟨he, hn⟩ => ⟨he, Am.noted h1 h2 hn⟩
theorem am_read (h : Am 104 a bs ss w Z) (p m : Nat) (hin : p + m ≤ bs.length) (hk : ss.length ≤ 1000000) : Calls Tryz.prog 92 #[.pointer (some ⟨a, 0, none⟩), .int .i64 p, .int .i64 m] w fun e w' => e = .returned (.tuple #[.string ⟨((bs.drop p).take m).toArray⟩, .int .i64 0]) ∧ ∃ Z', Am 104 a bs (noted ss p m false) w' Z' ∧ Gw w w' Z Z' := by
  obtain ⟨B, b, v, h, h1, h2⟩ := h
  exact (read_ok h p m hin hk).mono fun e w' ⟨he, hn⟩ => ⟨he, Am.noted h1 h2 hn⟩
theorem am_size (h : Am 104 a bs ss w Z) : Calls Tryz.prog 126 #[.pointer (some ⟨a, 0, none⟩)] w fun e w' => e = .returned (.int .i64 bs.length) ∧ w' = w := by
  obtain ⟨B, b, v, h, h1, h2⟩ := h
  exact size_any h
end
end Go.Proofs.YtioplfbkfokkfaaGreatDoor

namespace Go.Proofs.YtioplfbkfokkfaaGreatDoor
open Go.RowKit
open An

structure Chain1 (Q : World → Nat → Nat → Ck → Prop) : Prop where
  carry : ∀ {w w' : World} {c a : Nat} {k : Ck} {S : Nat → Prop}, Q w c a k → Fr S w w' → ¬ S c → Q w' c a k
  lt : ∀ {w : World} {c a : Nat} {k : Ck}, Q w c a k → c < w.heap.size
section
variable {T : TypeId} {Q : World → Nat → Nat → Ck → Prop} {a : Nat} {bs bs' : List UInt8} {ss ss' : List Sp} {L L' : List (Nat × Ck)} {w w' : World} {U Z Z' : Nat → Prop}
end
structure Left (T : TypeId) (Q : World → Nat → Nat → Ck → Prop) (w : World) (c a : Nat) (Z : Nat → Prop) (bs' : List UInt8) (ss' : List Sp) (k' : Ck) (Z' : Nat → Prop) (w' : World) : Prop where
  am : Am T a bs' ss' w' Z'
  q : Q w' c a k'
  new : ∀ i, Z' i → Z i ∨ w.heap.size ≤ i
  nz : ¬ Z' c
  fr : Fr (fun i => i = c ∨ Z i) w w'
section
variable {T : TypeId} {Q : World → Nat → Nat → Ck → Prop} {w w' w1 : World} {c a : Nat} {k k' : Ck} {Z Z' : Nat → Prop} {bs bs' : List UInt8} {ss ss' : List Sp}
theorem Left.arena (hQ : Chain1 Q) (q : Q w c a k) (hn : ¬ Z c) (h : Am T a bs' ss' w' Z') (g : Gw w w' Z Z') : Left T Q w c a Z bs' ss' k Z' w' := ⟨h, hQ.carry q g.fr hn, g.new, fun e => by
  have hc := hQ.lt q
  rcases g.new c e with e | e
  · exact hn e
  · omega, g.fr.mono fun _ _ e => .inr e⟩
theorem Left.chain (h : Left T Q w c a Z bs' ss' k Z' w1) (f : Fr (fun i => i = c) w1 w') (q : Q w' c a k') : Left T Q w c a Z bs' ss' k' Z' w' := ⟨(Am.good T a bs' ss').carry h.am f fun _ hi e => h.nz (e ▸ hi), q, h.new, h.nz, h.fr.trans (f.mono fun _ _ e => .inl e)⟩
theorem Left.set (h : Left T Q w c a Z bs' ss' k Z' w1) {j : Nat} {u : Value} (q : Q (w1.setCell ⟨c, j, none⟩ u) c a k') : Left T Q w c a Z bs' ss' k' Z' (w1.setCell ⟨c, j, none⟩ u) := h.chain (Fr.setCell (S := fun i => i = c) (p := ⟨c, j, none⟩) (Fr.refl _ _) rfl _) q
theorem Left.arena2 (hQ : Chain1 Q) (h : Left T Q w c a Z bs ss k Z' w1) {Z2 : Nat → Prop} (h2 : Am T a bs' ss' w' Z2) (g : Gw w1 w' Z' Z2) : Left T Q w c a Z bs' ss' k Z2 w' := ⟨h2, hQ.carry h.q g.fr h.nz, fun i hi => by
  rcases g.new i hi with e | e
  · exact h.new i e
  · exact .inr (Nat.le_trans h.fr.size e), fun e => by
  rcases g.new c e with e | e
  · exact h.nz e
  · have := hQ.lt h.q; omega, Fr.trans' h.fr g.fr fun i hi e => by
  rcases h.new i e with e | e
  · exact .inr e
  · omega⟩
theorem Left.ahead (h : Left T Q w1 c a Z bs' ss' k' Z' w') (f : Fr (fun _ => False) w w1) : Left T Q w c a Z bs' ss' k' Z' w' := ⟨h.am, h.q, fun i hi => by
  rcases h.new i hi with e | e
  · exact .inl e
  · exact .inr (Nat.le_trans f.size e), h.nz, Fr.trans' (f.mono fun _ _ e => e.elim) h.fr fun _ _ e => e⟩
theorem Left.kept (hQ : Chain1 Q) (h : Left T Q w c a Z bs ss k Z' w1) (f : Fr (fun _ => False) w1 w') : Left T Q w c a Z bs ss k Z' w' := ⟨h.am.kept f, hQ.carry h.q f id, h.new, h.nz, Fr.trans' h.fr f fun _ _ e => e.elim⟩
end
section
variable {w w' : World} {c a : Nat} {k : Ck}
end
end Go.Proofs.YtioplfbkfokkfaaGreatDoor

namespace Go.Proofs.YtioplfbkfokkfaaGreatDoor
open Go.RowKit

theorem push1s {w : World} {ops : Array Oper} {rest : List Oper} {o : Oper} {a : Act} {Q : Exit → Act → World → Prop} (hgd : o.guard = none) (s x : Operand)
    (ho : o.op = .call { callee := .builtin .append, args := #[s, x], argTypes := #[24, 24] })
    (base : Nat) (y : Value) (ys : List Int) (z : Int) (hs : a.eval s = y) (hown : w.ownsRow base 3 1 y ys.length (ic ys))
    (B : Nat) (hx : a.eval x = .slice (some ⟨B, 0, none⟩) 1 1) (hz : w.cell? ⟨B, 0, none⟩ = some (.int .i64 z)) (hl : ys.length < 100000) (hbase : base ≤ w.heap.size)
    (h : ∀ g cap w', w'.ownsRow base 3 1 (.slice (some ⟨g, 0, none⟩) (ys.length + 1) cap) (ys.length + 1) (ic (ys ++ [z])) → w.grownBy w' y.ownBlock → (y.ownBlock = some g ∨ g = w.heap.size) → wpList Tryz.prog ops Q rest (a.put o.dst (.slice (some ⟨g, 0, none⟩) (ys.length + 1) cap)) w') : wpList Tryz.prog ops Q (o :: rest) a w := by
  obtain ⟨i0, hi, hz0, hz1, hz2⟩ := info_parts Tryz.infoInt
  refine wpList_append_sep hgd s x 24 ho base 3 i0 (.int .i64 0) 1 8 Tryz.underlying24 hi hz0 hz1 hz2 rfl (by decide) y ys.length (ic ys) hs hown ⟨B, 0, none⟩ 1 1 (by decide) [.int .i64 z] hx rfl ?_ ?_ (by unfold maxLen; omega) (by omega) hbase ?_
  · intro j u hj
    match j, hj with
    | 0, hj => simp at hj; subst hj; simpa [Addr.add] using hz
  · intro u hu; simp at hu; subst hu; rfl
  · intro g cap w' hown' hg hw
    refine h g cap w' ?_ hg hw
    rw [ic_snoc]
    exact hown'
end Go.Proofs.YtioplfbkfokkfaaGreatDoor

namespace Go.Proofs.YtioplfbkfokkfaaGreatDoor
open Go.RowKit
open An

section
variable {w : World} {a c : Nat} {Z : Nat → Prop} {bs : List UInt8} {ss : List Sp} {k : Ck}
theorem wrapI (x : Int) (h0 : -9223372036854775808 ≤ x) (h1 : x ≤ 9223372036854775807) : IntKind.i64.wrap x = x := by rw [IntKind.wrap_i64]; omega
theorem wrapU (x : Int) (h0 : 0 ≤ x) (h1 : x ≤ 18446744073709551615) : IntKind.u64.wrap x = x := by rw [IntKind.wrap_u64]; omega
theorem Ck.Ok.reck {n : Nat} (h : k.Ok n) (hn : n ≤ 2097152) {x : Nat} (hx : x < k.per) : IntKind.i64.wrap ((x : Int) * (k.unit : Int)) = ((x * k.unit : Nat) : Int) ∧ IntKind.i64.wrap ((k.base : Int) + ((x * k.unit : Nat) : Int)) = (k.pos x : Int) := by
  have h1 := h.at hx
  unfold Ck.pos at h1 ⊢
  generalize e : x * k.unit = m at *
  rw [← Int.natCast_mul, e, wrapI _ (by omega) (by omega), wrapI _ (by omega) (by omega)]
  exact ⟨rfl, by omega⟩
end
end Go.Proofs.YtioplfbkfokkfaaGreatDoor

namespace Go.Proofs.YtioplfbkfokkfaaGreatDoor
open Go.RowKit
open An

section
variable {w : World} {a c : Nat} {Z : Nat → Prop} {bs : List UInt8} {ss : List Sp} {k : Ck}
end
end Go.Proofs.YtioplfbkfokkfaaGreatDoor

namespace Go.Proofs.YtioplfbkfokkfaaGreatDoor
open Go.RowKit
open An

def Both (P Q : World → (Nat → Prop) → Prop) (w : World) (U : Nat → Prop) : Prop := ∃ Z Y, P w Z ∧ Q w Y ∧ (∀ i, Z i → ¬ Y i) ∧ (∀ i, Z i → U i) ∧ (∀ i, Y i → U i) ∧ ∀ i, U i → i < w.heap.size
theorem Both.good {P Q : World → (Nat → Prop) → Prop} (hP : Good P) (hQ : Good Q) : Good (Both P Q) :=
  ⟨fun ⟨Z, Y, h1, h2, h3, h4, h5, h6⟩ f hs => ⟨Z, Y, hP.carry h1 f fun i hi => hs i (h4 i hi), hQ.carry h2 f fun i hi => hs i (h5 i hi), h3, h4, h5, fun i hi => Nat.lt_of_lt_of_le (h6 i hi) f.size⟩,
   fun ⟨Z, Y, h1, h2, h3, h4, h5, _⟩ k1 k2 => ⟨Z, Y, h1, h2, h3, fun i hi => k1 i (h4 i hi), fun i hi => k1 i (h5 i hi), k2⟩⟩
section
variable {w w' : World} {p r rd wt : Nat} {at_ of_ fresh : Int} {hd : List Bool}
end
end Go.Proofs.YtioplfbkfokkfaaGreatDoor

namespace Go.Proofs.YtioplfbkfokkfaaGreatDoor
open Go.RowKit

section
variable {P Q R P' Q' : World → (Nat → Prop) → Prop} {w w' : World} {U V' : Nat → Prop}
theorem Both.swap (h : Both P Q w U) : Both Q P w U := by
  obtain ⟨Z, Y, h1, h2, h3, h4, h5, h6⟩ := h
  exact ⟨Y, Z, h2, h1, fun i a b => h3 i b a, h5, h4, h6⟩
theorem Both.lt (h : Both P Q w U) : ∀ i, U i → i < w.heap.size := by obtain ⟨Z, Y, _, _, _, _, _, h6⟩ := h; exact h6
theorem Both.imp (h : Both P Q w U) (hq : ∀ Y, Q w Y → Q' w Y) : Both P Q' w U := by
  obtain ⟨Z, Y, h1, h2, h3⟩ := h
  exact ⟨Z, Y, h1, hq Y h2, h3⟩
theorem Both.rest (h : Both P (Both Q R) w U) (hR : Good R) : ∃ V, Both P Q w V ∧ (∀ i, V i → U i) ∧ ∀ {P' Q' : World → (Nat → Prop) → Prop} {w' : World} {V' : Nat → Prop}, Both P' Q' w' V' → Gw w w' V V' → ∃ U', Both P' (Both Q' R) w' U' ∧ Gw w w' U U' := by
  obtain ⟨Z, Y, h1, ⟨Z2, Y2, g1, g2, g3, g4, g5, g6⟩, h3, h4, h5, h6⟩ := h
  refine ⟨fun i => Z i ∨ Z2 i, ⟨Z, Z2, h1, g1, fun i a b => h3 i a (g4 i b), fun i a => .inl a, fun i a => .inr a, fun i a => a.elim (fun a => h6 i (h4 i a)) fun a => h6 i (h5 i (g4 i a))⟩, fun i a => a.elim (h4 i) fun a => h5 i (g4 i a), ?_⟩
  rintro P' Q' w' V' ⟨Z', Y', k1, k2, k3, k4, k5, k6⟩ g
  have hr : ∀ i, Y2 i → ¬ (Z i ∨ Z2 i) := fun i a b => b.elim (fun b => h3 i b (g5 i a)) fun b => g3 i b a
  have hR' : R w' Y2 := hR.carry g2 g.fr fun i a => hr i a
  have hs := g.fr.size
  have hold : ∀ i, Y2 i → i < w.heap.size := fun i a => h6 i (h5 i (g5 i a))
  have hnv : ∀ i, V' i → ¬ Y2 i := fun i a b => by
    rcases g.new i a with e | e
    · exact hr i b e
    · have := hold i b; omega
  refine ⟨fun i => V' i ∨ U i, ⟨Z', fun i => Y' i ∨ Y2 i, k1, ⟨Y', Y2, k2, hR', fun i a b => hnv i (k5 i a) b, fun i a => .inl a, fun i a => .inr a, fun i a => a.elim (fun a => k6 i (k5 i a)) fun a => Nat.lt_of_lt_of_le (hold i a) hs⟩, fun i a b => b.elim (k3 i a) (hnv i (k4 i a)), fun i a => .inl (k4 i a), fun i a => a.elim (fun a => .inl (k5 i a)) fun a => .inr (h5 i (g5 i a)), fun i a => a.elim (k6 i) fun a => Nat.lt_of_lt_of_le (h6 i a) hs⟩, ⟨fun i a => .inr a, fun i a => ?_, fun i a => a.elim (k6 i) fun a => Nat.lt_of_lt_of_le (h6 i a) hs, g.fr.mono fun i _ a => a.elim (h4 i) fun a => h5 i (g4 i a)⟩⟩
  rcases a with a | a
  · rcases g.new i a with e | e
    · exact .inl (e.elim (h4 i) fun e => h5 i (g4 i e))
    · exact .inr e
  · exact .inl a
theorem Both.snd (h : Both P Q w U) : ∃ Y, Q w Y ∧ ∀ i, Y i → U i := by obtain ⟨Z, Y, _, h2, _, _, h5, _⟩ := h; exact ⟨Y, h2, h5⟩
theorem Both.fst' (h : Both P Q w U) : ∃ Z, P w Z ∧ ∀ i, Z i → U i := by obtain ⟨Z, Y, h1, _, _, h4, _⟩ := h; exact ⟨Z, h1, h4⟩
theorem Both.left (h : Both P Q w U) (hQ : Good Q) : ∃ Z, P w Z ∧ (∀ i, Z i → U i) ∧ ∀ {P' : World → (Nat → Prop) → Prop} {w' : World} {Z' : Nat → Prop}, P' w' Z' → Gw w w' Z Z' → ∃ U', Both P' Q w' U' ∧ Gw w w' U U' := by
  obtain ⟨Z, Y, h1, h2, h3, h4, h5, h6⟩ := h
  refine ⟨Z, h1, h4, fun {P' w' Z'} k1 g => ?_⟩
  have hs := g.fr.size
  refine ⟨fun i => Z' i ∨ U i, ⟨Z', Y, k1, hQ.carry h2 g.fr fun i a b => h3 i b a, fun i a b => ?_, fun i a => .inl a, fun i a => .inr (h5 i a), fun i a => a.elim (g.lt i) fun a => Nat.lt_of_lt_of_le (h6 i a) hs⟩, ⟨fun i a => .inr a, fun i a => ?_, fun i a => a.elim (g.lt i) fun a => Nat.lt_of_lt_of_le (h6 i a) hs, g.fr.mono fun i _ => h4 i⟩⟩
  · rcases g.new i a with e | e
    · exact h3 i e b
    · have := h6 i (h5 i b); omega
  · rcases a with a | a
    · rcases g.new i a with e | e
      · exact .inl (h4 i e)
      · exact .inr e
    · exact .inl a
end
end Go.Proofs.YtioplfbkfokkfaaGreatDoor

namespace Go.Proofs.YtioplfbkfokkfaaGreatDoor
open Go.RowKit

theorem Things.cells {W w : World} {ts : List (World → (Nat → Prop) → Prop)} (h : Things W w ts) (j : Nat) {B : Nat} {ob : Obj} (hj : ts[j]? = some (Blk B ob)) : w.heap[B]? = some ob := by
  obtain ⟨U, h1, _⟩ := h.get j hj
  exact h1.1
theorem Things.setAt {W w : World} {ts : List (World → (Nat → Prop) → Prop)} (h : Things W w ts) (j : Nat) {B : Nat} {cs : Array Value} {T : TypeId} (hj : ts[j]? = some (Blk B (.cells cs T (0, 0)))) (i : Nat) (v : Value) : Things W (w.setCell ⟨B, i, none⟩ v) (ts.set j (Blk B (.cells (cs.setIfInBounds i v) T (0, 0)))) := by
  obtain ⟨U, h1, _, h2⟩ := h.turn j hj
  have f : Fr U w (w.setCell ⟨B, i, none⟩ v) := Fr.setCell (p := ⟨B, i, none⟩) (Fr.refl _ _) h1.2.1 v
  refine h2 _ _ U (Blk.good _ _) ⟨?_, h1.2.1, fun i hi => Nat.lt_of_lt_of_le (h1.2.2 i hi) f.size⟩ (Gw.same h1.2.2 f)
  simp [World.setCell, Array.getElem?_modify, h1.1]
theorem Things.blk {W w : World} {ts : List (World → (Nat → Prop) → Prop)} (h : Things W w ts) (ob : Obj) : Things W (w.alloc ob) (ts ++ [Blk w.heap.size ob]) := h.more (Blk.good _ _) (Blk.new w ob) ((Fr.refl _ _).alloc _) fun i hi => by simp only [World.size_alloc]; omega
end Go.Proofs.YtioplfbkfokkfaaGreatDoor

namespace Go.Proofs.YtioplfbkfokkfaaGreatDoor
open Go.RowKit

def Bare (w : World) : World := { w with heap := #[] }
theorem Bare.nw (w : World) : Nw (Bare w) w := ⟨rfl, rfl, rfl, Nat.zero_le _, fun i hi => by simp [Bare] at hi⟩
def Old (w : World) (Z : Nat → Prop) (w' : World) (U : Nat → Prop) : Prop := w.heap.size ≤ w'.heap.size ∧ (∀ i, i < w.heap.size → ¬ Z i → U i ∧ w'.heap[i]? = w.heap[i]?) ∧ ∀ i, U i → i < w'.heap.size
theorem Old.good (w : World) (Z : Nat → Prop) : Good (Old w Z) :=
  ⟨fun ⟨h0, h1, h2⟩ f hs => ⟨Nat.le_trans h0 f.size, fun i hi hn => ⟨(h1 i hi hn).1, (f.block i (h2 i (h1 i hi hn).1) (hs i (h1 i hi hn).1)).trans (h1 i hi hn).2⟩, fun i hi => Nat.lt_of_lt_of_le (h2 i hi) f.size⟩,
   fun ⟨h0, h1, _⟩ k1 k2 => ⟨h0, fun i hi hn => ⟨k1 i (h1 i hi hn).1, (h1 i hi hn).2⟩, k2⟩⟩
theorem Things.begin {w : World} {P : World → (Nat → Prop) → Prop} {Z : Nat → Prop} (hP : Good P) (hp : P w Z) (hz : ∀ i, Z i → i < w.heap.size) : Things (Bare w) w [P, Old w Z] := by
  classical
  refine ⟨fun i => if Z i then 1 else if i < w.heap.size then 2 else 0, ⟨Bare.nw w, fun i hi => ⟨Nat.zero_le _, ?_⟩⟩, fun i => ?_, fun R hR => ?_, fun j R hj => ?_⟩
  · by_cases h1 : Z i
    · exact hz i h1
    · by_cases h2 : i < w.heap.size
      · exact h2
      · simp [h1, h2] at hi
  · show (if Z i then 1 else if i < w.heap.size then 2 else 0) ≤ 2
    split
    · omega
    · split <;> omega
  · simp only [List.mem_cons, List.not_mem_nil, or_false] at hR
    rcases hR with rfl | rfl
    · exact hP
    · exact Old.good w Z
  · rcases j with _ | _ | j
    · simp only [List.getElem?_cons_zero, Option.some.injEq] at hj
      subst hj
      refine hP.mono hp (fun i hi => by simp [lab, hi]) fun i hi => ?_
      by_cases h1 : Z i
      · exact hz i h1
      · exfalso
        simp only [lab, if_neg h1] at hi
        split at hi <;> omega
    · simp only [Nat.zero_add, List.getElem?_cons_succ, List.getElem?_cons_zero, Option.some.injEq] at hj
      subst hj
      refine ⟨Nat.le_refl _, fun i hi hn => ⟨by simp [lab, hi, hn], rfl⟩, fun i hi => ?_⟩
      by_cases h1 : Z i
      · exact hz i h1
      · by_cases h2 : i < w.heap.size
        · exact h2
        · simp [lab, h1, h2] at hi
    · simp at hj
theorem Things.finish {w w' : World} {P : World → (Nat → Prop) → Prop} {Z : Nat → Prop} {ts : List (World → (Nat → Prop) → Prop)} (h : Things (Bare w) w' (P :: Old w Z :: ts)) (hz : ∀ i, Z i → i < w.heap.size) : ∃ Z', P w' Z' ∧ Gw w w' Z Z' := by
  obtain ⟨o, h1, h2, h3, h4⟩ := h
  have hP := h4 0 P rfl
  obtain ⟨s1, s2, s3⟩ := h4 1 _ rfl
  have hg := h3 P (List.mem_cons_self ..)
  have hlt : ∀ i, (lab o 1 i ∨ Z i) → i < w'.heap.size := fun i hi => by
    rcases hi with hi | hi
    · exact h1.lt (j := 1) (by omega) i hi
    · exact Nat.lt_of_lt_of_le (hz i hi) s1
  refine ⟨fun i => lab o 1 i ∨ Z i, hg.mono hP (fun _ => .inl) hlt, ⟨fun _ => .inr, fun i hi => ?_, hlt, ⟨h1.nw.os, h1.nw.tape, h1.nw.output, s1, fun i hi hn => (s2 i hi hn).2⟩⟩⟩
  rcases hi with hi | hi
  · by_cases h5 : i < w.heap.size
    · by_cases h6 : Z i
      · exact .inl h6
      · have e2 := (s2 i h5 h6).1
        unfold lab at hi e2
        omega
    · exact .inr (by omega)
  · exact .inl hi
end Go.Proofs.YtioplfbkfokkfaaGreatDoor
