/-
  Blocks stay as their owners wrote them: mathematics.
  The arena, the map and the views of two heaps, asked and turned by the laws themselves.
  Small laws that the walks of the heap's laws share.
-/
import Derived.Test.YtejbdbjccjkfdaaGreatDoorHpHad
import Derived.Test.YtejbdbjccjkfdaaGreatDoorViBase
import Derived.Test.YtejbdbjccjkfdaaGreatDoorViCalls
namespace Go.Proofs.YtejbdbjccjkfdaaGreatDoor
open Go.RowKit
open An

section
variable {C : Nat → Prop} {k : Nat} {M M' : Ms} {H : Hp} {T T' : Tb} {bs bs' : List UInt8}
theorem lb_same {a : Int} (hf : tbF T' (a / 512) = tbF T (a / 512)) (hb : bs'[(phys T a).toNat]? = bs[(phys T a).toNat]?) : lb T' bs' a = lb T bs a := by
  unfold lb
  have : phys T' a = phys T a := by unfold phys; rw [hf]
  rw [this, hb]
theorem lb_win {a : Int} {q q' : Nat} (h1 : tbF T (a / 512) = (q : Int)) (h2 : tbF T' (a / 512) = (q' : Int)) (hw : win bs' (q' * 512) = win bs (q * 512)) : lb T' bs' a = lb T bs a := by
  unfold lb phys
  rw [h1, h2, show ((q' : Int) * 512 + a % 512).toNat = q' * 512 + (a % 512).toNat by omega, show ((q : Int) * 512 + a % 512).toNat = q * 512 + (a % 512).toNat by omega, ← win_get? bs' (q' * 512) _ (by omega), hw, win_get? bs (q * 512) _ (by omega)]
/-- A byte of a block that is had lies in a page that is held. -/
theorem had_page (h : HpOk C M H) {c s j : Nat} (hb : HadB H.L c s j) {i : Nat} (hi : i < (unitI c).toNat) : ∃ x ∈ H.L, x.kind = c ∧ x.slot = s ∧ ∃ t : Nat, t < pn c ∧ (adI c s j + i) / 512 = lo c s + t ∧ ∃ q : Nat, tbF H.T ((adI c s j + i) / 512) = (q : Int) ∧ (lo c s + t, (q : Int)) ∈ H.T := by
  obtain ⟨x, hx, rfl, rfl, _, hj⟩ := hb
  obtain ⟨c1, c2⟩ := h.at_ x hx
  obtain ⟨t, ht, e⟩ := blk_at c1 c2 hj hi
  have hv := h.cov x hx t ht
  have hm := h.tp.tb.f_some hv
  obtain ⟨q, hq⟩ : ∃ q : Nat, tbF H.T (lo x.kind x.slot + t) = (q : Int) := ⟨(tbF H.T (lo x.kind x.slot + t)).toNat, by omega⟩
  rw [hq] at hm
  exact ⟨x, hx, rfl, rfl, t, ht, e, q, by rw [e]; exact hq, hm⟩
/-- Bytes of unlike blocks lie apart. -/
theorem had_apart (h : HpOk C M H) {c s j c' s' j' : Nat} (hb : HadB H.L c s j) (ht : PlT c' s' j') (hm : ∀ i' : Nat, i' < (unitI c').toNat → ¬ tbF H.T ((adI c' s' j' + i') / 512) < 0) (hne : ¬ (c = c' ∧ s = s' ∧ j = j')) {i i' : Nat} (hi : i < (unitI c).toNat) (hi' : i' < (unitI c').toNat) : phys H.T (adI c s j + i) ≠ phys H.T (adI c' s' j' + i') := fun e => by
  obtain ⟨x, _, _, _, t, _, _, q, hq, _⟩ := had_page h hb hi
  have e2 := phys_one h.tp.tb (by rw [hq]; omega) (hm i' hi') e
  have hp := (hb.there h).1
  have ha := hp.apart ht (fun e => hne ⟨by omega, by omega, by omega⟩)
  omega
theorem paB_far {g : Pg} (h : g.Ok bs) (hc : g.Clean bs) (hf : ¬ g.Full) (i : Nat) (hi : i < g.pos (paK g) ∨ g.pos (paK g) + pu g.kind ≤ i) : (paB g bs)[i]? = bs[i]? := by
  unfold paB
  split
  · rfl
  · have hg := h.given hc hf
    have hb := h.block hg.lt
    have hfit := h.fit
    obtain ⟨⟨u1, _⟩, _⟩ := kind_facts g.kind h.kind
    rw [over_get? _ _ _ (by rw [leb_length]; omega), leb_length]
    by_cases h1 : i < g.pos (paK g)
    · rw [if_pos h1]
    · rw [if_neg h1, if_neg (by omega)]
/-- Malloc leaves them. -/
theorem hM_keep (h : HpOk C M H) {n : Int} {r : Ms × Hp × Int × Int} (w : MWay C k M H n r) {c s j : Nat} (hb : HadB H.L c s j) {i : Nat} (hi : i < (unitI c).toNat) : lb r.2.1.T r.1.bs (adI c s j + i) = lb H.T M.bs (adI c s j + i) := by
  have hfresh : ∀ {c' s' : Nat} {has' : List Bool} {T' : Tb}, c' ≤ 23 → s' < sn c' → ¬ Held H.L c' s' → Took C k H.W (pn c') (lo c' s') M.has H.T has' T' → lb T' M.bs (adI c s j + i) = lb H.T M.bs (adI c s j + i) := fun hc' hs' hn tk => by
    obtain ⟨x, hx, rfl, rfl, t, ht, e, q, hq, hm⟩ := had_page h hb hi
    obtain ⟨c1, c2⟩ := h.at_ x hx
    refine lb_same ?_ rfl
    rw [e]
    refine tk.far _ fun i' hi' e2 => hn ?_
    have := lo_one c1 c2 hc' hs' ht hi' e2
    exact ⟨x, hx, this.1, this.2.1⟩
  rcases w with ⟨_, rfl⟩ | ⟨_, rfl, _⟩ | ⟨c', hc, h8, s', m', H', g, f, rfl⟩ | ⟨c', hc, h7, hln, s', m', H', q, f, hm, hq, rfl⟩ | ⟨c', hc, h7, x, hx, rfl, hf, _, rfl⟩
  · rfl
  · rfl
  · show lb H'.T m'.bs _ = _
    rw [f.em]
    exact hfresh f.fc f.fs f.free f.took
  · show lb H'.T m'.bs _ = _
    rw [f.em]
    exact hfresh f.fc f.fs f.free f.took
  · show lb H.T (paB x.pg M.bs) _ = _
    have hs := h.sm x hx h7
    have hg := hs.ok.given hs.cl hf
    refine lb_same rfl (paB_far hs.ok hs.cl hf _ ?_)
    by_cases e : (phys H.T (adI c s j + i)).toNat < x.pg.pos (paK x.pg) ∨ x.pg.pos (paK x.pg) + pu x.pg.kind ≤ (phys H.T (adI c s j + i)).toNat
    · exact e
    · exfalso
      rw [hs.kd] at e
      obtain ⟨y, _, _, _, t, _, _, q, hq, _⟩ := had_page h hb hi
      have h0 : 0 ≤ phys H.T (adI c s j + i) := by unfold phys; rw [hq]; omega
      have hlt : paK x.pg < pp x.kind := by rw [← hs.kd]; exact hg.lt
      have hsp := small_phys h hx h7 hlt (i := (phys H.T (adI c s j + i)).toNat - x.pg.pos (paK x.pg)) (by omega)
      obtain ⟨c1, c2⟩ := h.at_ x hx
      have hpt : PlT x.kind x.slot (paK x.pg) := by
        obtain ⟨_, _, _, _, p5, _⟩ := pn_facts c1
        have hnu := nu_small h7
        have f3 := (pl_facts (c := x.kind) (by omega) (by omega)).2.2.1
        exact ⟨by omega, by rw [p5]; omega, by omega, by omega⟩
      refine had_apart h hb hpt (fun i' hi' => ?_) (fun e5 => ?_) hi (i' := (phys H.T (adI c s j + i)).toNat - x.pg.pos (paK x.pg)) (by show _ < pu x.kind; omega) (by rw [hsp]; omega)
      · obtain ⟨t', ht', e6⟩ := blk_at c1 c2 (j := paK x.pg) (by rw [nu_small h7]; exact hlt) hi'
        rw [e6]; exact h.cov x hx t' ht'
      · obtain ⟨rfl, rfl, rfl⟩ := e5
        obtain ⟨z, hz, z1, z2, z3, _⟩ := hb
        obtain rfl := slot_one h.nd hz hx z1 z2
        exact hg.was (z3 h7)
/-- Free leaves the others. -/
theorem hF_keep (h : HpOk C M H) (ms : MsOk M) {c0 s0 j0 : Nat} (hb0 : HadB H.L c0 s0 j0) {c s j : Nat} (hb : HadB H.L c s j) (hne : ¬ (c = c0 ∧ s = s0 ∧ j = j0)) {i : Nat} (hi : i < (unitI c).toNat) : lb (hF M H c0 s0 j0).2.1.T (hF M H c0 s0 j0).1.bs (adI c s j + i) = lb H.T M.bs (adI c s j + i) := by
  have hleft := ((hF_had h hb0).2 c s j).2 ⟨hb, hne⟩
  obtain ⟨x, hx, rfl, rfl, hh, hj⟩ := hb0
  obtain ⟨c1, c2⟩ := h.at_ x hx
  have hat := hAt_mem h.nd hx
  have hmay : x.kind ≤ 7 → x.pg.May j0 := fun h7 => by
    have hs := h.sm x hx h7
    exact ⟨⟨by omega, by rw [hs.kd, ← nu_small h7]; omega⟩, by simpa using hh h7⟩
  have hhad : hHad H.L x.kind x.slot j0 = some x := by
    unfold hHad
    rw [hat]
    dsimp only
    rw [if_neg]
    rintro ⟨h7, hn⟩
    exact hn (hmay h7)
  obtain ⟨y, hy, rfl, rfl, t, ht, e, q, hq, hm⟩ := had_page h hb hi
  obtain ⟨b1, b2⟩ := h.at_ y hy
  have hwent : ∀ {m m' : Ms} {T1 : Tb}, Went C (pn x.kind) (lo x.kind x.slot) m H.T m' T1 → ¬ (y.kind = x.kind ∧ y.slot = x.slot) → lb T1 m'.bs (adI y.kind y.slot j + i) = lb H.T m.bs (adI y.kind y.slot j + i) := fun {m m' T1} w hn => by
    have hfar : ∀ i' : Nat, i' < pn x.kind → lo y.kind y.slot + t ≠ lo x.kind x.slot + i' := fun i' hi' e2 => by
      have := lo_one b1 b2 c1 c2 ht hi' e2
      exact hn ⟨this.1, this.2.1⟩
    have hf := w.far _ hfar
    have hm' : (lo y.kind y.slot + t, (q : Int)) ∈ T1 := (w.mem _).2 ⟨hm, hfar⟩
    rw [e] at hq
    exact lb_win (q := q) (q' := q) (by rw [e]; exact hq) (by rw [e, hf]; exact hq) (w.win q ⟨_, hm'⟩)
  have hslot : 8 ≤ x.kind → ¬ (y.kind = x.kind ∧ y.slot = x.slot) := fun h8 e2 => by
    obtain ⟨z, _, _, _, _, hj2⟩ := hb
    rw [e2.1, nu_run h8 c1] at hj2
    rw [nu_run h8 c1] at hj
    exact hne ⟨e2.1, e2.2, by omega⟩
  unfold hF at hleft ⊢
  rw [hhad] at hleft ⊢
  dsimp only at hleft ⊢
  by_cases h8 : 8 ≤ x.kind
  · rw [if_pos h8]
    exact hwent (letN_spec (C := C) _ _ M H.T h.tp ms fun i hi => h.cov x hx i hi) (hslot h8)
  · rw [if_neg h8] at hleft ⊢
    have h7 : x.kind ≤ 7 := by omega
    have hs := h.sm x hx h7
    have hm0 := hmay h7
    obtain ⟨⟨u1, _⟩, _⟩ := kind_facts x.kind h7
    have hlt : j0 < pp x.kind := by rw [← nu_small h7]; exact hj
    have hpage : lb H.T (pfB x.pg M.bs j0) (adI y.kind y.slot j + i) = lb H.T M.bs (adI y.kind y.slot j + i) := by
      refine lb_same rfl ?_
      have h0 : 0 ≤ phys H.T (adI y.kind y.slot j + i) := by unfold phys; rw [hq]; omega
      have hout : (phys H.T (adI y.kind y.slot j + i)).toNat < x.pg.pos j0 ∨ x.pg.pos j0 + pu x.kind ≤ (phys H.T (adI y.kind y.slot j + i)).toNat := by
        by_cases e2 : (phys H.T (adI y.kind y.slot j + i)).toNat < x.pg.pos j0 ∨ x.pg.pos j0 + pu x.kind ≤ (phys H.T (adI y.kind y.slot j + i)).toNat
        · exact e2
        · exfalso
          have hsp := small_phys h hx h7 hlt (i := (phys H.T (adI y.kind y.slot j + i)).toNat - x.pg.pos j0) (by omega)
          have hpt : PlT x.kind x.slot j0 := by
            obtain ⟨_, _, _, _, p5, _⟩ := pn_facts c1
            have hnu := nu_small h7
            have f3 := (pl_facts (c := x.kind) (by omega) (by omega)).2.2.1
            exact ⟨by omega, by rw [p5]; omega, by omega, by omega⟩
          refine had_apart h hb hpt (fun i' hi' => ?_) hne hi (i' := (phys H.T (adI y.kind y.slot j + i)).toNat - x.pg.pos j0) (by show _ < pu x.kind; omega) (by rw [hsp]; omega)
          obtain ⟨t', ht', e6⟩ := blk_at c1 c2 (j := j0) hj hi'
          rw [e6]; exact h.cov x hx t' ht'
      have hb := hs.ok.block (x := j0) (by rw [hs.kd]; exact hlt)
      rw [hs.kd] at hb
      have hfit := hs.ok.fit
      unfold pfB
      rw [if_pos hm0, Int.toNat_natCast, hs.kd]
      have hl1 : (over M.bs (x.pg.pos j0) (nz (pu x.kind))).length = M.bs.length := over_length _ _ _ (by rw [nz_length]; omega)
      rw [over_get? _ _ _ (by rw [leb_length, hl1]; omega), over_get? _ _ _ (by rw [nz_length]; omega), leb_length, nz_length]
      rcases hout with e2 | e2
      · rw [if_pos e2, if_pos e2]
      · rw [if_neg (by omega), if_neg (by omega), if_neg (by omega), if_neg (by omega)]
    by_cases hu : (pfS x.pg j0).used = 0
    · rw [if_pos hu] at hleft ⊢
      obtain ⟨_, b2', _⟩ := h.free ms hx h7 hm0 (ss' := pfT x.pg M.ss j0)
      have hn : ¬ (y.kind = x.kind ∧ y.slot = x.slot) := fun e2 => by
        obtain ⟨z, hz, z1, z2, _⟩ := hleft
        exact (mem_hDel.1 hz).2 ⟨z1.trans e2.1, z2.trans e2.2⟩
      rw [hwent (letN_spec (C := C) _ _ ⟨M.has, pfB x.pg M.bs j0, pfT x.pg M.ss j0⟩ H.T h.tp b2' fun i hi => h.cov x hx i hi) hn]
      exact hpage
    · rw [if_neg hu]
      exact hpage
/-- Move leaves them all, and what is held. -/
theorem hMo_keep (h : HpOk C M H) (ms : MsOk M) (W : List Int) {a : Int} (ha : ¬ tbF H.T (a / 512) < 0) : lb (hMo k M H W).2.1.T (hMo k M H W).1.bs a = lb H.T M.bs a := by
  unfold hMo
  by_cases e : Cq.frI k M.has W < mvN k W H.T
  · rw [if_pos e]
  rw [if_neg e]
  have h1 : HpOk (fun _ => True) M ⟨H.W, H.T, H.L, H.ln⟩ := h.weak fun _ _ _ => trivial
  have hv : ∀ v ∈ H.T.map Prod.fst, ¬ tbF H.T v < 0 := fun v hv => by
    obtain ⟨y, hy, rfl⟩ := List.mem_map.1 hv
    rw [tbF_mem (v := y.1) (p := y.2) h.tp.tb hy]
    have := (h.tp.tk y hy).1
    omega
  have hc : ((H.T.map Prod.fst).countP fun v => !Cq.inW k W (tbF H.T v).toNat) ≤ Cq.frI k M.has W := by rw [← mvN_keys h.tp.tb]; omega
  obtain ⟨i1, _, _, _, i5, _⟩ := mvAll_spec (C := fun _ => True) (k := k) (W := W) (fun _ _ => trivial) (H.T.map Prod.fst) M H.T H.L H.W H.ln h1 ms (keys_nodup h.tp.tb) hv hc
  have hw := mvAll_win (C := fun _ => True) (k := k) (W := W) (fun _ _ => trivial) (H.T.map Prod.fst) M H.T H.L H.W H.ln h1 ms (keys_nodup h.tp.tb) hv hc
  have hmem : a / 512 ∈ (mvAll k W (H.T.map Prod.fst) M H.T H.L).2.1.map Prod.fst := by
    rw [i5]
    exact List.mem_map.2 ⟨_, h.tp.tb.f_some ha, rfl⟩
  obtain ⟨y, hy, e2⟩ := List.mem_map.1 hmem
  have hty := tbF_mem (v := y.1) (p := y.2) i1.tp.tb hy
  have hy0 := (i1.tp.tk y hy).1
  rw [e2] at hty
  exact lb_win (q := (tbF H.T (a / 512)).toNat) (q' := y.2.toNat) (by omega) (by dsimp only; rw [hty]; omega) (hw (a / 512) (tbF H.T (a / 512)).toNat y.2.toNat (by omega) (by rw [hty]; omega))
theorem hMv_had {L : List Hd} {v : Int} {b c s j : Nat} : HadB (hMv L v b) c s j ↔ HadB L c s j := by
  have hhd : ∀ x : Hd, (mvd v b x).pg.Had j ↔ x.pg.Had j := fun x => by
    unfold mvd
    split <;> exact Iff.rfl
  constructor
  · rintro ⟨y, hy, rfl, rfl, y3, y4⟩
    obtain ⟨x, hx, rfl⟩ := mem_hMv.1 hy
    obtain ⟨m1, m2, _⟩ := mvd_key (v := v) b x
    refine ⟨x, hx, m1.symm, m2.symm, fun h7 => (hhd x).1 (y3 h7), y4⟩
  · rintro ⟨x, hx, rfl, rfl, x3, x4⟩
    obtain ⟨m1, m2, _⟩ := mvd_key (v := v) b x
    exact ⟨mvd v b x, mem_hMv.2 ⟨x, hx, rfl⟩, m1, m2, fun h7 => (hhd x).2 (x3 h7), x4⟩
theorem mvAll_had {W : List Int} : ∀ (vs : List Int) (m : Ms) (T : Tb) (L : List Hd) {c s j : Nat}, HadB (mvAll k W vs m T L).2.2 c s j ↔ HadB L c s j
  | [], _, _, _, _, _, _ => Iff.rfl
  | v :: r, m, T, L, c, s, j => by
    unfold mvAll
    rw [mvAll_had r]
    unfold mvOne
    split
    · exact Iff.rfl
    · exact hMv_had
theorem hMo_had (W : List Int) {c s j : Nat} : HadB (hMo k M H W).2.1.L c s j ↔ HadB H.L c s j := by
  unfold hMo
  split
  · exact Iff.rfl
  · exact mvAll_had _ _ _ _
/-- What is written into one block. -/
theorem write_keep (h : HpOk C M H) (ms : MsOk M) {x : Hd} {j0 : Nat} (hx : x ∈ H.L) (hj : j0 < (nuI x.kind).toNat) {ds : List UInt8} (hd : ds.length = (unitI x.kind).toNat) {c s j : Nat} (hb : HadB H.L c s j) (hne : ¬ (c = x.kind ∧ s = x.slot ∧ j = j0)) {i : Nat} (hi : i < (unitI c).toNat) : lb H.T (vwB H.T M.bs (adI x.kind x.slot j0) ds) (adI c s j + i) = lb H.T M.bs (adI c s j + i) := by
  have sn := blk_seen h ms hx hj
  refine lb_same rfl (sn.far h.tp.tb hd _ fun i' hi' e => ?_)
  obtain ⟨y, _, _, _, t, _, _, q, hq, _⟩ := had_page h hb hi
  have h0 : 0 ≤ phys H.T (adI c s j + i) := by unfold phys; rw [hq]; omega
  obtain ⟨c1, c2⟩ := h.at_ x hx
  have hpt : PlT x.kind x.slot j0 := by
    obtain ⟨_, _, _, _, p5, _⟩ := pn_facts c1
    have f3 := (pl_facts (c := x.kind) (by omega) (by omega)).2.2.1
    exact ⟨by omega, by rw [p5]; omega, by omega, by omega⟩
  exact had_apart h hb hpt (fun i' hi' => (sn.at_ i' hi').1) hne hi hi' (by omega)
end
end Go.Proofs.YtejbdbjccjkfdaaGreatDoor

namespace Go.Proofs.YtejbdbjccjkfdaaGreatDoor
open Go.RowKit
open An

theorem Both.left2 {P Q : World → (Nat → Prop) → Prop} {w : World} {U : Nat → Prop} (h : Both P Q w U) (hQ : Good Q) : ∃ Z Y, P w Z ∧ Q w Y ∧ (∀ i, Z i → ¬ Y i) ∧ ∀ {P' : World → (Nat → Prop) → Prop} {w' : World} {Z' : Nat → Prop}, P' w' Z' → Gw w w' Z Z' → ∃ U', Both P' Q w' U' ∧ Gw w w' U U' := by
  obtain ⟨Z, Y, h1, h2, h3, h4, h5, h6⟩ := h
  refine ⟨Z, Y, h1, h2, h3, fun {P' w' Z'} k1 g => ?_⟩
  have hs := g.fr.size
  refine ⟨fun i => Z' i ∨ U i, ⟨Z', Y, k1, hQ.carry h2 g.fr fun i a b => h3 i b a, fun i a b => ?_, fun i a => .inl a, fun i a => .inr (h5 i a), fun i a => a.elim (g.lt i) fun a => Nat.lt_of_lt_of_le (h6 i a) hs⟩, ⟨fun i a => .inr a, fun i a => ?_, fun i a => a.elim (g.lt i) fun a => Nat.lt_of_lt_of_le (h6 i a) hs, g.fr.mono fun i _ => h4 i⟩⟩
  · rcases g.new i a with e | e
    · exact h3 i e b
    · have := h6 i (h5 i b); omega
  · rcases a with a | a
    · rcases g.new i a with e | e
      · exact .inl (h4 i e)
      · exact .inr e
    · exact .inl a
section
variable {W w : World} {ts : List (World → (Nat → Prop) → Prop)} {a m k h t h' t' b : Nat} {M : Ms} {H H' : Hp}
/-- The arena of two heaps turns. -/
theorem Things.arena {Pr : Program} {F : Nat} {args : Array Value} {R : Ending → Prop} {bs' : List UInt8} {ss' : List Sp} (q : Things W w ts) (j : Nat) (hj : ts[j]? = some (S2 a m k M h t H h' t' H'))
    (call : ∀ Z Y, Am 144 a M.bs M.ss w Z → Tm t H.T w Y → (∀ i, Z i → ¬ Y i) → Calls Pr F args w fun e w' => R e ∧ ∃ Z', Am 144 a bs' ss' w' Z' ∧ Gw w w' Z Z') : Calls Pr F args w fun e w' => R e ∧ Things W w' (ts.set j (S2 a m k ⟨M.has, bs', ss'⟩ h t H h' t' H')) := by
  obtain ⟨U, h1, h2, h3⟩ := q.turn j hj
  obtain ⟨V, Y0, v1, w0, v2, v3⟩ := Both.left2 h1 (Both.good (Hm.good ..) (Hm.good ..))
  obtain ⟨Z, z1, z2, z3⟩ := Both.left v1 (Ct.good ..)
  obtain ⟨Y1, y3, y4⟩ := Both.fst' w0
  obtain ⟨Y, y1, y5⟩ := Both.snd y3
  have y2 : ∀ i, Z i → ¬ Y i := fun i a b => v2 i (z2 i a) (y4 i (y5 i b))
  refine (call Z Y z1 y1 y2).mono ?_
  rintro e w' ⟨he, Z', k1, k2⟩
  obtain ⟨V', a1, a2⟩ := z3 k1 k2
  obtain ⟨U', b1, b2⟩ := v3 (P' := Ac a m k ⟨M.has, bs', ss'⟩) a1 a2
  exact ⟨he, h3 _ w' U' (S2.good ..) b1 b2⟩
theorem t_write (q : Things W w ts) (j : Nat) (hj : ts[j]? = some (S2 a m k M h t H h' t' H')) (tw : Two k b M H H') (hb : b ≤ 890000) {x : Int} (hx : I64 x) (s : ByteArray) (hs : s.size ≤ 16384) : Calls Tryz.prog 16 #[.pointer (some ⟨a, 0, none⟩), .pointer (some ⟨t, 0, none⟩), .int .i64 x, .string s] w fun e w' => e = .returned (.int .i64 (vwE H.T M.bs.length x s.size)) ∧ Things W w' (ts.set j (S2 a m k ⟨M.has, vwB H.T M.bs x s.data.toList, vwT H.T M.bs.length M.ss x s.size⟩ h t H h' t' H')) :=
  q.arena j hj fun _ _ h1 h2 h3 => v_write h1 h2 h3 tw.ok.tp.tb hx s hs (by have := tw.ss; omega)
theorem t_read (q : Things W w ts) (j : Nat) (hj : ts[j]? = some (S2 a m k M h t H h' t' H')) (tw : Two k b M H H') (hb : b ≤ 890000) {x n : Int} (hx : I64 x) (hn : I64 n) (hs : n ≤ 16384) : Calls Tryz.prog 10 #[.pointer (some ⟨a, 0, none⟩), .pointer (some ⟨t, 0, none⟩), .int .i64 x, .int .i64 n] w fun e w' => e = .returned (.tuple #[.string ⟨(vrV H.T M.bs x n).toArray⟩, .int .i64 (vwE H.T M.bs.length x n)]) ∧ Things W w' (ts.set j (S2 a m k ⟨M.has, M.bs, vrT H.T M.bs.length M.ss x n⟩ h t H h' t' H')) :=
  q.arena j hj fun _ _ h1 h2 h3 => v_read h1 h2 h3 tw.ok.tp.tb hx hn hs (by have := tw.ss; omega)
/-- What is written into a block that is had leaves both right. -/
theorem Two.write (tw : Two k b M H H') {c s j : Nat} (hb : HadB H.L c s j) {ds : List UInt8} (hd : ds.length = (unitI c).toNat) {ss' : List Sp} (hs : ss'.length ≤ b) : Two k b ⟨M.has, vwB H.T M.bs (adI c s j) ds, ss'⟩ H H' := by
  obtain ⟨x, hx, rfl, rfl, hh, hj⟩ := hb
  exact tw.step (tw.ok.write tw.ms hx hj hh hd) rfl tw.W hs
end
end Go.Proofs.YtejbdbjccjkfdaaGreatDoor

namespace Go.Proofs.YtejbdbjccjkfdaaGreatDoor
open Go.RowKit
open An

theorem modu (x : Int) (m : Nat) (M : Int) (hM : M = (m : Int)) (h0 : 0 < m) (h1 : m ≤ 4000000) : ∃ n : Nat, wrap64 ((IntKind.u64.wrap x).tmod M) = (n : Int) ∧ n < m := by
  subst hM
  have hu : 0 ≤ IntKind.u64.wrap x := by rw [IntKind.wrap_u64]; omega
  have he : (IntKind.u64.wrap x).tmod (m : Int) = (IntKind.u64.wrap x) % (m : Int) := Int.tmod_eq_emod_of_nonneg hu
  have h2 := Int.emod_nonneg (IntKind.u64.wrap x) (b := (m : Int)) (by omega)
  have h3 := Int.emod_lt_of_pos (IntKind.u64.wrap x) (b := (m : Int)) (by omega)
  refine ⟨((IntKind.u64.wrap x) % (m : Int)).toNat, ?_, by omega⟩
  rw [he]
  generalize (IntKind.u64.wrap x) % (m : Int) = z at *
  unfold wrap64
  omega
theorem hBl_len (L : List Hd) : (hBl L).length ≤ 4000000 := by
  have hin : ∀ a ∈ hBl L, 0 ≤ a ∧ a < 4000000 := fun a ha => by
    unfold hBl at ha
    obtain ⟨c, hc, ha⟩ := List.mem_flatMap.1 ha
    obtain ⟨s, hs, ha⟩ := List.mem_flatMap.1 ha
    have hc := List.mem_range.1 hc
    have hs := List.mem_range.1 hs
    cases e : hAt L c s with
    | none => rw [e] at ha; cases ha
    | some x =>
      rw [e] at ha
      obtain ⟨j, hj, h⟩ := List.mem_filterMap.1 ha
      have hj := List.mem_range.1 hj
      obtain ⟨_, _, _, _, p5, _⟩ := pn_facts (show c ≤ 23 by omega)
      have f := pl_facts (c := c) (by omega) (by omega)
      have pt : PlT c s j := ⟨by omega, by rw [p5]; omega, by omega, by have := f.2.2.1; omega⟩
      have := pt.inside
      have := f.2.2.2.1
      split at h
      · cases h; omega
      · cases h
  have hn : ((hBl L).map Int.toNat).Nodup := by
    rw [List.nodup_iff_pairwise_ne, List.pairwise_map]
    refine List.Pairwise.imp_of_mem ?_ (hBl_up L)
    intro x y hx hy hlt e
    have := hin x hx
    have := hin y hy
    omega
  have := nodup_short 4000000 _ hn fun x hx => by
    obtain ⟨y, hy, rfl⟩ := List.mem_map.1 hx
    have := hin y hy
    omega
  rwa [List.length_map] at this
theorem had_us {C : Nat → Prop} {M : Ms} {H : Hp} (h : HpOk C M H) {c s j : Nat} (hb : HadB H.L c s j) : hUs H c s j 0 = (unitI c, 0) := by
  obtain ⟨x, hx, rfl, rfl, hh, hj⟩ := hb
  unfold hUs
  rw [if_pos rfl, Int.toNat_natCast, Int.toNat_natCast]
  have hhad : hHad H.L x.kind x.slot j = some x := by
    unfold hHad
    rw [hAt_mem h.nd hx]
    dsimp only
    rw [if_neg]
    rintro ⟨h7, hn⟩
    have hs := h.sm x hx h7
    exact hn ⟨⟨by omega, by rw [hs.kd, ← nu_small h7]; omega⟩, by simpa using hh h7⟩
  rw [hhad]
end Go.Proofs.YtejbdbjccjkfdaaGreatDoor
