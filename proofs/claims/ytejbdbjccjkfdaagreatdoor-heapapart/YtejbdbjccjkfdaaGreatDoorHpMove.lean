/-
  Move and Drop: what they leave: mathematics.
-/
import Derived.Test.YtejbdbjccjkfdaaGreatDoorHpMalloc
namespace Go.Proofs.YtejbdbjccjkfdaaGreatDoor
open Go.RowKit
open An

/-- All local pages are let go of. -/
def drA : List Int → Ms → Tb → Ms × Tb
  | [], m, T => (m, T)
  | v :: r, m, T => drA r (drM m T v) (tbU T v)
/-- A page lies elsewhere. -/
def Pg.at (g : Pg) (b : Nat) : Pg := ⟨b, g.kind, g.fresh, g.R, g.D⟩
def hMv (L : List Hd) (v : Int) (b : Nat) : List Hd := L.map fun x => if x.kind ≤ 7 ∧ lo x.kind x.slot = v then ⟨x.kind, x.slot, x.pg.at b⟩ else x
/-- A local page gets a page of the window, where it hasn't one. -/
def mvOne (k : Nat) (W : List Int) (v : Int) (m : Ms) (T : Tb) (L : List Hd) : Ms × Tb × List Hd :=
  if Cq.inW k W (tbF T v).toNat = true then (m, T, L)
  else (⟨Cq.giS (Cq.takS k m.has W) (tbF T v), over (over m.bs ((Cq.takV k m.has W).toNat * 512) (win m.bs ((tbF T v).toNat * 512))) ((tbF T v).toNat * 512) (nz 512), m.ss ++ [(tbF T v * 512, 512, false), (Cq.takV k m.has W * 512, 512, true), (tbF T v * 512, 512, true)]⟩, tbS T v (Cq.takV k m.has W), hMv L v ((Cq.takV k m.has W).toNat * 512))
def mvAll (k : Nat) (W : List Int) : List Int → Ms → Tb → List Hd → Ms × Tb × List Hd
  | [], m, T, L => (m, T, L)
  | v :: r, m, T, L => mvAll k W r (mvOne k W v m T L).1 (mvOne k W v m T L).2.1 (mvOne k W v m T L).2.2
/-- How many local pages aren't of the window. -/
def mvN (k : Nat) (W : List Int) (T : Tb) : Nat := T.countP fun y => !Cq.inW k W y.2.toNat
/-- Move. -/
def hMo (k : Nat) (m : Ms) (H : Hp) (W : List Int) : Ms × Hp × Int :=
  if Cq.frI k m.has W < mvN k W H.T then (m, H, 13)
  else ((mvAll k W (H.T.map Prod.fst) m H.T H.L).1, ⟨W, (mvAll k W (H.T.map Prod.fst) m H.T H.L).2.1, (mvAll k W (H.T.map Prod.fst) m H.T H.L).2.2, H.ln⟩, 0)
/-- Drop. -/
def hDr (m : Ms) (H : Hp) : Ms × Hp := ((drA (H.T.map Prod.fst) m H.T).1, ⟨H.W, [], [], fun _ => []⟩)
section
variable {C : Nat → Prop} {k : Nat} {m : Ms} {H : Hp} {bs bs' : List UInt8} {g : Pg} {T : Tb} {L : List Hd} {W : List Int} {v : Int}
theorem tbU_head {x : Int × Int} {r : Tb} (h : TbOk (x :: r)) : tbU (x :: r) x.1 = r := by
  unfold tbU
  rw [List.filter_cons_of_neg (by simp), List.filter_eq_self.2]
  intro y hy
  have := (List.pairwise_cons.1 h.up).1 y hy
  simp at this ⊢
  omega
theorem drA_spec : ∀ (T : Tb) (m : Ms), TpOk C m.has T → MsOk m → MsOk (drA (T.map Prod.fst) m T).1 ∧ (drA (T.map Prod.fst) m T).2 = [] ∧ Stp m T (drA (T.map Prod.fst) m T).1 [] ∧ (drA (T.map Prod.fst) m T).1.ss.length = m.ss.length + T.length
  | [], m, h, ok => ⟨ok, rfl, Stp.refl _ _, rfl⟩
  | x :: r, m, h, ok => by
    rw [List.map_cons]
    unfold drA
    have hf : tbF (x :: r) x.1 = x.2 := tbF_mem h.tb (by simp)
    have hx := h.tk x (by simp)
    obtain ⟨p, _, _, _, _, _, w⟩ := drop_one h ok (v := x.1) (by rw [hf]; omega)
    have e := tbU_head h.tb
    rw [e] at w ⊢
    obtain ⟨i1, i2, i3, i4⟩ := drA_spec r (drM m (x :: r) x.1) w.ok w.ms
    refine ⟨i1, i2, w.stp.trans i3 ok i1, ?_⟩
    rw [i4]
    show (m.ss ++ [_]).length + r.length = _
    rw [List.length_append, List.length_singleton, List.length_cons]
    omega
theorem hDr_ok (h : HpOk C m H) (ok : MsOk m) : Left17 C m H (hDr m H).1 (hDr m H).2 ∧ (hDr m H).1.ss.length = m.ss.length + H.T.length := by
  obtain ⟨i1, i2, i3, i4⟩ := drA_spec H.T m h.tp ok
  refine ⟨⟨⟨⟨TbOk.none, fun y hy => (by cases hy)⟩, List.nodup_nil, fun y hy => (by cases hy), fun y hy => (by cases hy), fun y hy => (by cases hy), fun y hy => (by cases hy), fun c => ⟨List.nodup_nil, fun v => ⟨fun e => (by cases e), fun ⟨y, hy, _⟩ => (by cases hy)⟩⟩⟩, i1, i3, fun _ y hy => (by cases hy)⟩, i4⟩
theorem Pg.Ok.move (h : g.Ok bs) {b : Nat} (hm : b % 512 = 0) (hf : b + 512 ≤ bs'.length) (hw : win bs' b = win bs g.base) : (g.at b).Ok bs' :=
  ⟨h.kind, hm, hf, rep_win h.kind hw h.lr h.r, rep_win h.kind hw h.ld h.d, h.nd, h.lt, h.fr⟩
theorem Pg.Clean.move (h : g.Clean bs) {b : Nat} (hw : win bs' b = win bs g.base) : (g.at b).Clean bs' := fun i h1 h2 hne => by
  have h1 : b ≤ i := h1
  have h2 : i < b + 512 := h2
  have e1 := win_get? bs' b (i - b) (by omega)
  have e2 := win_get? bs g.base (i - b) (by omega)
  rw [show b + (i - b) = i by omega, hw, e2] at e1
  rw [← e1] at hne
  obtain ⟨x, hx, h3⟩ := h (g.base + (i - b)) (by omega) (by omega) hne
  refine ⟨x, hx, ?_⟩
  unfold Pg.pos at h3
  show (g.Had x ∧ b + x * pu g.kind ≤ i ∧ i < b + x * pu g.kind + pu g.kind) ∨ ((x ∈ g.R ∨ x ∈ g.D) ∧ b + x * pu g.kind ≤ i ∧ i < b + x * pu g.kind + 8)
  rcases h3 with ⟨h3, h4, h5⟩ | ⟨h3, h4, h5⟩
  · exact .inl ⟨h3, by omega, by omega⟩
  · exact .inr ⟨h3, by omega, by omega⟩
theorem win_copy {b : Nat} {ds : List UInt8} (h : b + 512 ≤ bs.length) (hd : ds.length = 512) : win (over bs b ds) b = ds := by
  have := win_over (bs := bs) (ds := ds) (b := b) (q := 0) h (by omega)
  rw [Nat.add_zero] at this
  rw [this]
  unfold over
  simp [win_length h, hd]
theorem hp_memW {y : Int × Int} {p : Int} (h : TbOk T) (hv : ¬ tbF T v < 0) : y ∈ tbW T v p ↔ y = (v, p) ∨ (y ∈ T ∧ y.1 ≠ v) := by
  unfold tbW
  rw [List.mem_map]
  constructor
  · rintro ⟨z, hz, rfl⟩
    by_cases e : z.1 = v
    · rw [if_pos e, e]; exact .inl rfl
    · rw [if_neg e]; exact .inr ⟨hz, e⟩
  · rintro (rfl | ⟨h1, h2⟩)
    · exact ⟨_, h.f_some hv, by rw [if_pos rfl]⟩
    · exact ⟨y, h1, by rw [if_neg h2]⟩
theorem tbW_keys (p : Int) : (tbW T v p).map Prod.fst = T.map Prod.fst := by
  unfold tbW
  rw [List.map_map]
  apply List.map_congr_left
  intro x _
  show (if x.1 = v then (x.1, p) else x).1 = x.1
  split <;> rfl
theorem tbW_f {p : Int} (h : TbOk T) (hv : ¬ tbF T v < 0) (h' : TbOk (tbW T v p)) (u : Int) : tbF (tbW T v p) u = if u = v then p else tbF T u := by
  by_cases e : u = v
  · subst e; rw [if_pos rfl]; exact tbF_mem h' ((hp_memW h hv).2 (.inl rfl))
  · rw [if_neg e]
    by_cases hu : tbF T u < 0
    · have h1 := h.f_none hu
      by_cases hu2 : tbF (tbW T v p) u < 0
      · rw [(h'.f_none hu2).1, h1.1]
      · rcases (hp_memW h hv).1 (h'.f_some hu2) with e2 | e2
        · simp only [Prod.mk.injEq] at e2; exact (e e2.1).elim
        · exact (h1.2 _ e2.1 rfl).elim
    · exact tbF_mem h' ((hp_memW h hv).2 (.inr ⟨h.f_some hu, e⟩))
/-- What is behind one local page. -/
structure Moved (C : Nat → Prop) (k : Nat) (W : List Int) (v : Int) (m : Ms) (T : Tb) (L : List Hd) (m' : Ms) (T' : Tb) (L' : List Hd) : Prop where
  ok : ∀ W0 ln, HpOk C m ⟨W0, T, L, ln⟩ → HpOk C m' ⟨W0, T', L', ln⟩
  ms : MsOk m'
  stp : Stp m T m' T'
  us : Us L → Us L'
  keys : T'.map Prod.fst = T.map Prod.fst
  in_ : Cq.inW k W (tbF T' v).toNat = true
  far : ∀ u, u ≠ v → tbF T' u = tbF T u
  fr : Cq.frI k m'.has W + (if Cq.inW k W (tbF T v).toNat then 0 else 1) = Cq.frI k m.has W
  ss : m'.ss.length ≤ m.ss.length + 3
  wn : ∀ (u : Int) (q q' : Nat), tbF T u = (q : Int) → tbF T' u = (q' : Int) → win m'.bs (q' * 512) = win m.bs (q * 512)
/-- A slot whose local page got another page. -/
def mvd (v : Int) (b : Nat) (x : Hd) : Hd := if x.kind ≤ 7 ∧ lo x.kind x.slot = v then ⟨x.kind, x.slot, x.pg.at b⟩ else x
theorem mvd_key (b : Nat) (x : Hd) : (mvd v b x).kind = x.kind ∧ (mvd v b x).slot = x.slot ∧ (mvd v b x).pg.used = x.pg.used ∧ ((mvd v b x).pg.Full ↔ x.pg.Full) := by
  unfold mvd
  split
  · exact ⟨rfl, rfl, rfl, Iff.rfl⟩
  · exact ⟨rfl, rfl, rfl, Iff.rfl⟩
theorem mem_hMv {b : Nat} {y : Hd} : y ∈ hMv L v b ↔ ∃ x ∈ L, mvd v b x = y := by unfold hMv; rw [List.mem_map]; rfl
theorem hMv_keys (b : Nat) : (hMv L v b).map (fun x => (x.kind, x.slot)) = L.map fun x => (x.kind, x.slot) := by
  unfold hMv
  rw [List.map_map]
  apply List.map_congr_left
  intro x _
  show ((mvd v b x).kind, (mvd v b x).slot) = _
  rw [(mvd_key b x).1, (mvd_key b x).2.1]
theorem mv_one (hC : ∀ q, Cq.inW k W q = true → C q) {W0 : List Int} {ln : Nat → List Int} (h : HpOk C m ⟨W0, T, L, ln⟩) (ok : MsOk m) (hv : ¬ tbF T v < 0) (hf : Cq.inW k W (tbF T v).toNat = true ∨ 0 < Cq.frI k m.has W) : Moved C k W v m T L (mvOne k W v m T L).1 (mvOne k W v m T L).2.1 (mvOne k W v m T L).2.2 := by
  unfold mvOne
  by_cases hin : Cq.inW k W (tbF T v).toNat = true
  · rw [if_pos hin]
    exact ⟨fun _ _ h => h, ok, Stp.refl _ _, id, rfl, hin, fun _ _ => rfl, by rw [if_pos hin]; rfl, by show m.ss.length ≤ _; omega, fun u q q' e1 e2 => (by
      have e2 : tbF T u = (q' : Int) := e2
      rw [e1] at e2
      obtain rfl : q = q' := by omega
      rfl)⟩
  rw [if_neg hin]
  have hf : 0 < Cq.frI k m.has W := by rcases hf with e | e; exact (hin e).elim; exact e
  obtain ⟨p, h1, h2, h3, _, h5, _, h7, _⟩ := Cq.take_yes hf
  unfold Cq.meant at h2
  simp only [Bool.and_eq_true, Bool.not_eq_true'] at h2
  obtain ⟨hpf, hpw⟩ := h2
  have htb : TbOk T := h.tp.tb
  have hmem := htb.f_some hv
  obtain ⟨o, ho⟩ : ∃ o : Nat, tbF T v = (o : Int) := ⟨(tbF T v).toNat, by omega⟩
  rw [ho] at hmem hin
  rw [h3, h5, ho]
  simp only [Int.toNat_natCast] at hin ⊢
  have hol : o < m.has.length := h.tp.lt ⟨v, hmem⟩
  have hon := (h.tp.on ⟨v, hmem⟩).1
  have hne : p ≠ o := fun e => by subst e; rw [hpf] at hon; cases hon
  have hcap := ok.cap
  have hlen := ok.len
  have hgi : Cq.giS (m.has.set p true) (o : Int) = (m.has.set p true).set o false := by unfold Cq.giS; rw [if_pos ⟨by omega, by simp; omega⟩]; rfl
  have hsw : SwOk T v p := ⟨by unfold POk; omega, hv, h.tp.holder hpf⟩
  have hS : tbS T v p = tbW T v p := if_pos hsw
  have htb' : TbOk (tbW T v p) := by rw [← hS]; exact htb.swap v p
  have hF := tbW_f htb hv htb'
  rw [hgi, hS]
  have hhas : ∀ (q : Nat) (d : Bool), ((m.has.set p true).set o false).getD q d = if q = o then false else if q = p then true else m.has.getD q d := fun q d => by
    rw [getD_set (by rw [List.length_set]; exact hol)]
    split
    · rfl
    · rw [getD_set h1]
  have hbp : p * 512 + 512 ≤ m.bs.length := by omega
  have hbo : o * 512 + 512 ≤ m.bs.length := by
    rw [hlen]
    have := Nat.mul_le_mul_right 512 (Nat.succ_le_of_lt hol)
    rw [Nat.succ_mul] at this
    exact this
  have hwl : (win m.bs (o * 512)).length = 512 := win_length hbo
  have hb1 : (over m.bs (p * 512) (win m.bs (o * 512))).length = m.bs.length := over_length _ _ _ (by rw [hwl]; exact hbp)
  have hbo1 : o * 512 + 512 ≤ (over m.bs (p * 512) (win m.bs (o * 512))).length := hb1 ▸ hbo
  have hb2 : (over (over m.bs (p * 512) (win m.bs (o * 512))) (o * 512) (nz 512)).length = m.bs.length := by rw [over_length _ _ _ (by rw [nz_length]; exact hbo1), hb1]
  have hwo : win (over (over m.bs (p * 512) (win m.bs (o * 512))) (o * 512) (nz 512)) (o * 512) = nz 512 := win_nz hbo1
  have hwp : win (over (over m.bs (p * 512) (win m.bs (o * 512))) (o * 512) (nz 512)) (p * 512) = win m.bs (o * 512) := by
    rw [win_far (by rw [nz_length]; exact hbo1) (by rw [nz_length]; omega), win_copy hbp hwl]
  have hwq : ∀ q : Nat, q ≠ o → q ≠ p → win (over (over m.bs (p * 512) (win m.bs (o * 512))) (o * 512) (nz 512)) (q * 512) = win m.bs (q * 512) := fun q q1 q2 => by
    rw [win_far (by rw [nz_length]; exact hbo1) (by rw [nz_length]; omega), win_far (by rw [hwl]; exact hbp) (by rw [hwl]; omega)]
  generalize over (over m.bs (p * 512) (win m.bs (o * 512))) (o * 512) (nz 512) = bs2 at *
  have hone : ∀ y ∈ T, y.1 ≠ v → y.2 ≠ (o : Int) ∧ y.2 ≠ (p : Int) := fun y hy e => by
    refine ⟨fun e2 => e ?_, fun e2 => ?_⟩
    · have a1 := tbH_mem (v := y.1) (p := y.2) htb hy
      rw [e2, tbH_mem htb hmem] at a1
      exact a1.symm
    · have := h.tp.free hpf
      exact this ⟨y.1, by rw [← e2]; exact hy⟩
  refine ⟨fun W0 ln h => ⟨⟨htb', fun y hy => ?_⟩, by rw [hMv_keys]; exact h.nd, fun y hy => ?_, fun y hy => ?_, fun y hy i hi => ?_, fun y hy h7 => ?_, fun c => ⟨(h.ln c).1, fun u => ?_⟩⟩, ⟨?_, by simp only [List.length_set]; exact hcap, fun q hq hfr => ?_⟩, ⟨by simp, hb2, fun q hq q1 q2 => ?_, fun q hq q1 => ?_, fun q hq q1 => ?_⟩, fun u y hy h7 => ?_, tbW_keys _, ?_, fun u hu => by rw [hF, if_neg hu], ?_, by simp, fun u q q' q1 q2 => ?_⟩
  · show 0 ≤ y.2 ∧ y.2.toNat < ((m.has.set p true).set o false).length ∧ ((m.has.set p true).set o false).getD y.2.toNat false = true ∧ C y.2.toNat
    rw [hhas, List.length_set, List.length_set]
    rcases (hp_memW htb hv).1 hy with rfl | ⟨e1, e2⟩
    · simp [h1, hne]; exact hC _ hpw
    · obtain ⟨t1, t2, t3, t4⟩ := h.tp.tk y e1
      obtain ⟨n1, n2⟩ := hone y e1 e2
      refine ⟨t1, t2, ?_, t4⟩
      rw [if_neg (by omega), if_neg (by omega)]
      exact t3
  · obtain ⟨x, hx, rfl⟩ := mem_hMv.1 hy
    rw [(mvd_key _ x).1, (mvd_key _ x).2.1]; exact h.at_ x hx
  · have : ∃ z ∈ T, z.1 = y.1 := by
      rcases (hp_memW htb hv).1 hy with rfl | ⟨e1, e2⟩
      · exact ⟨_, hmem, rfl⟩
      · exact ⟨y, e1, rfl⟩
    obtain ⟨z, hz, e⟩ := this
    obtain ⟨x, hx, i, hi, e2⟩ := h.dom z hz
    exact ⟨mvd v (p * 512) x, mem_hMv.2 ⟨x, hx, rfl⟩, i, by rw [(mvd_key _ x).1]; exact hi, by rw [(mvd_key _ x).1, (mvd_key _ x).2.1, ← e]; exact e2⟩
  · obtain ⟨x, hx, rfl⟩ := mem_hMv.1 hy
    rw [(mvd_key _ x).1] at hi
    rw [(mvd_key _ x).1, (mvd_key _ x).2.1]
    show ¬ tbF (tbW T v p) _ < 0
    rw [hF]
    split
    · omega
    · exact h.cov x hx i hi
  · obtain ⟨x, hx, rfl⟩ := mem_hMv.1 hy
    rw [(mvd_key _ x).1] at h7
    have hs := h.sm x hx h7
    obtain ⟨q, e1, m1⟩ := hs.page htb
    unfold mvd
    by_cases e : x.kind ≤ 7 ∧ lo x.kind x.slot = v
    · rw [if_pos e]
      have hq : q = o := by
        have := tbF_mem htb m1
        rw [e.2, ho] at this
        omega
      subst hq
      have hw : win bs2 (p * 512) = win m.bs x.pg.base := by rw [hwp, e1]
      exact ⟨hs.ok.move (by omega) (by rw [hb2]; exact hbp) hw, hs.cl.move hw, hs.kd, by show ((p * 512 : Nat) : Int) = tbF (tbW T v p) (lo x.kind x.slot) * 512; rw [hF, if_pos e.2]; omega⟩
    · rw [if_neg e]
      have hlv : lo x.kind x.slot ≠ v := fun e2 => e ⟨h7, e2⟩
      obtain ⟨n1, n2⟩ := hone _ m1 hlv
      exact hs.ext hb2 (by rw [e1]; exact hwq q (by intro e3; exact n1 (by rw [e3])) (by intro e3; exact n2 (by rw [e3]))) (by show tbF (tbW T v p) _ = _; rw [hF, if_neg hlv])
  · rw [(h.ln c).2 u]
    constructor
    · rintro ⟨x, hx, x1, x2, x3, x4⟩
      exact ⟨mvd v (p * 512) x, mem_hMv.2 ⟨x, hx, rfl⟩, by rw [(mvd_key _ x).1]; exact x1, x2, by rw [(mvd_key _ x).2.1]; exact x3, by rw [(mvd_key _ x).2.2.2]; exact x4⟩
    · rintro ⟨y, hy, x1, x2, x3, x4⟩
      obtain ⟨x, hx, rfl⟩ := mem_hMv.1 hy
      rw [(mvd_key _ x).1] at x1
      rw [(mvd_key _ x).2.1] at x3
      rw [(mvd_key _ x).2.2.2] at x4
      exact ⟨x, hx, x1, x2, x3, x4⟩
  · show bs2.length = ((m.has.set p true).set o false).length * 512
    rw [hb2, List.length_set, List.length_set]; exact hlen
  · simp only [List.length_set] at hq
    rw [hhas] at hfr
    by_cases e : q = o
    · subst e; exact hwo
    · rw [if_neg e] at hfr
      by_cases e2 : q = p
      · rw [if_pos e2] at hfr; cases hfr
      · rw [if_neg e2] at hfr
        show win bs2 (q * 512) = _
        rw [hwq q e e2]; exact ok.cl q hq hfr
  · have e1 : q ≠ o := fun e => q1 (by subst e; exact ⟨v, hmem⟩)
    have e2 : q ≠ p := fun e => q2 (by subst e; exact ⟨v, (hp_memW htb hv).2 (.inl rfl)⟩)
    exact ⟨by show ((m.has.set p true).set o false).getD q true = _; rw [hhas, if_neg e1, if_neg e2], hwq q e1 e2⟩
  · obtain ⟨u, hu⟩ := hq
    rcases (hp_memW htb hv).1 hu with e | e
    · simp only [Prod.mk.injEq] at e
      obtain rfl : q = p := by omega
      exact hpf
    · exact (q1 ⟨u, e.1⟩).elim
  · obtain ⟨u, hu⟩ := hq
    have : q = o := by
      by_cases e : u = v
      · subst e
        have := tbF_mem htb hu
        rw [ho] at this
        omega
      · exact (q1 ⟨u, (hp_memW htb hv).2 (.inr ⟨hu, e⟩)⟩).elim
    show ((m.has.set p true).set o false).getD q true = false
    rw [hhas, if_pos this]
  · obtain ⟨x, hx, rfl⟩ := mem_hMv.1 hy
    rw [(mvd_key _ x).1] at h7
    rw [(mvd_key _ x).2.2.1]
    exact u x hx h7
  · show Cq.inW k W (tbF (tbW T v p) v).toNat = true
    rw [hF, if_pos rfl]; exact hpw
  · rw [ho, Int.toNat_natCast, if_neg hin, ← h7, h5]
    congr 1
    unfold Cq.frI
    rw [List.length_set]
    apply Cq.cnt_ext
    intro q hq
    rw [List.length_set] at hq
    unfold Cq.meant
    show (!((m.has.set p true).set o false).getD q true && _) = (!(m.has.set p true).getD q true && _)
    rw [getD_set (by rw [List.length_set]; exact hol)]
    by_cases e : q = o
    · subst e
      have : Cq.inW k W q = false := by simpa using hin
      simp [this]
    · rw [if_neg e]
  · show win bs2 (q' * 512) = win m.bs (q * 512)
    have q2 : tbF (tbW T v p) u = (q' : Int) := q2
    rw [hF] at q2
    by_cases e : u = v
    · rw [if_pos e] at q2
      subst e
      rw [ho] at q1
      obtain rfl : p = q' := by omega
      obtain rfl : o = q := by omega
      exact hwp
    · rw [if_neg e, q1] at q2
      obtain rfl : q = q' := by omega
      have hm2 := htb.f_some (v := u) (by rw [q1]; omega)
      rw [q1] at hm2
      obtain ⟨n1, n2⟩ := hone _ hm2 e
      exact hwq q (fun e3 => n1 (by rw [e3])) (fun e3 => n2 (by rw [e3]))
theorem HpOk.weak {C' : Nat → Prop} (h : HpOk C m H) (hc : ∀ y ∈ H.T, C y.2.toNat → C' y.2.toNat) : HpOk C' m H :=
  ⟨⟨h.tp.tb, fun y hy => ⟨(h.tp.tk y hy).1, (h.tp.tk y hy).2.1, (h.tp.tk y hy).2.2.1, hc y hy (h.tp.tk y hy).2.2.2⟩⟩, h.nd, h.at_, h.dom, h.cov, h.sm, h.ln⟩
theorem mvAll_spec (hC : ∀ q, Cq.inW k W q = true → C q) : ∀ (vs : List Int) (m : Ms) (T : Tb) (L : List Hd) (W0 : List Int) (ln : Nat → List Int), HpOk C m ⟨W0, T, L, ln⟩ → MsOk m → vs.Nodup → (∀ v ∈ vs, ¬ tbF T v < 0) → (vs.countP fun v => !Cq.inW k W (tbF T v).toNat) ≤ Cq.frI k m.has W →
    HpOk C (mvAll k W vs m T L).1 ⟨W0, (mvAll k W vs m T L).2.1, (mvAll k W vs m T L).2.2, ln⟩ ∧ MsOk (mvAll k W vs m T L).1 ∧ Stp m T (mvAll k W vs m T L).1 (mvAll k W vs m T L).2.1 ∧ (Us L → Us (mvAll k W vs m T L).2.2) ∧ (mvAll k W vs m T L).2.1.map Prod.fst = T.map Prod.fst ∧ (∀ v ∈ vs, Cq.inW k W (tbF (mvAll k W vs m T L).2.1 v).toNat = true) ∧ (∀ u, u ∉ vs → tbF (mvAll k W vs m T L).2.1 u = tbF T u) ∧ (mvAll k W vs m T L).1.ss.length ≤ m.ss.length + 3 * vs.length
  | [], m, T, L, W0, ln, h, ok, _, _, _ => ⟨h, ok, Stp.refl _ _, id, rfl, fun v hv => (by cases hv), fun _ _ => rfl, Nat.le_refl _⟩
  | v :: r, m, T, L, W0, ln, h, ok, nd, hv, hf => by
    unfold mvAll
    rw [List.nodup_cons] at nd
    rw [List.countP_cons] at hf
    have o := mv_one hC h ok (v := v) (hv v (by simp)) (by
      by_cases e : Cq.inW k W (tbF T v).toNat = true
      · exact .inl e
      · simp only [Bool.not_eq_true] at e
        rw [e] at hf
        simp at hf
        exact .inr (by omega))
    have hfr := o.fr
    generalize (mvOne k W v m T L).1 = m1 at *
    generalize (mvOne k W v m T L).2.1 = T1 at *
    generalize (mvOne k W v m T L).2.2 = L1 at *
    have hne : ∀ u ∈ r, u ≠ v := fun u hu e => nd.1 (e ▸ hu)
    obtain ⟨i1, i2, i3, i4, i5, i6, i7, i8⟩ := mvAll_spec hC r m1 T1 L1 W0 ln (o.ok W0 ln h) o.ms nd.2 (fun u hu => by rw [o.far u (hne u hu)]; exact hv u (List.mem_cons_of_mem _ hu)) (by
      rw [List.countP_congr (q := fun u => !Cq.inW k W (tbF T u).toNat) fun u hu => by rw [o.far u (hne u hu)]]
      cases e : Cq.inW k W (tbF T v).toNat
      · rw [e] at hf hfr; simp at hf hfr; omega
      · rw [e] at hf hfr; simp at hf hfr; omega)
    refine ⟨i1, i2, o.stp.trans i3 ok i2, fun u => i4 (o.us u), i5.trans o.keys, fun u hu => ?_, fun u hu => ?_, ?_⟩
    · rcases List.mem_cons.1 hu with rfl | e
      · rw [i7 _ nd.1]; exact o.in_
      · exact i6 u e
    · simp only [List.mem_cons, not_or] at hu
      rw [i7 u hu.2, o.far u hu.1]
    · have := o.ss
      rw [List.length_cons]
      omega
theorem mvAll_win (hC : ∀ q, Cq.inW k W q = true → C q) : ∀ (vs : List Int) (m : Ms) (T : Tb) (L : List Hd) (W0 : List Int) (ln : Nat → List Int), HpOk C m ⟨W0, T, L, ln⟩ → MsOk m → vs.Nodup → (∀ v ∈ vs, ¬ tbF T v < 0) → (vs.countP fun v => !Cq.inW k W (tbF T v).toNat) ≤ Cq.frI k m.has W → ∀ (u : Int) (q q' : Nat), tbF T u = (q : Int) → tbF (mvAll k W vs m T L).2.1 u = (q' : Int) → win (mvAll k W vs m T L).1.bs (q' * 512) = win m.bs (q * 512)
  | [], m, T, L, W0, ln, h, ok, _, _, _ => fun u q q' e1 e2 => by
    have e2 : tbF T u = (q' : Int) := e2
    obtain rfl : q = q' := by rw [e1] at e2; omega
    rfl
  | v :: r, m, T, L, W0, ln, h, ok, nd, hv, hf => by
    intro u q q' e1 e2
    unfold mvAll at e2 ⊢
    rw [List.nodup_cons] at nd
    rw [List.countP_cons] at hf
    have o := mv_one hC h ok (v := v) (hv v (by simp)) (by
      by_cases e : Cq.inW k W (tbF T v).toNat = true
      · exact .inl e
      · simp only [Bool.not_eq_true] at e
        rw [e] at hf
        simp at hf
        exact .inr (by omega))
    have hfr := o.fr
    generalize (mvOne k W v m T L).1 = m1 at *
    generalize (mvOne k W v m T L).2.1 = T1 at *
    generalize (mvOne k W v m T L).2.2 = L1 at *
    have hne : ∀ u ∈ r, u ≠ v := fun u hu e => nd.1 (e ▸ hu)
    have h1 := o.ok W0 ln h
    have hmem : u ∈ T1.map Prod.fst := by
      rw [o.keys]
      exact List.mem_map.2 ⟨_, h.tp.tb.f_some (v := u) (by show ¬ tbF T u < 0; rw [e1]; omega), rfl⟩
    obtain ⟨y, hy, rfl⟩ := List.mem_map.1 hmem
    have hty : tbF T1 y.1 = y.2 := tbF_mem (v := y.1) (p := y.2) h1.tp.tb hy
    have hy0 := (h1.tp.tk y hy).1
    have e3 : tbF T1 y.1 = ((y.2.toNat : Nat) : Int) := by rw [hty]; omega
    rw [mvAll_win hC r m1 T1 L1 W0 ln h1 o.ms nd.2 (fun u hu => by rw [o.far u (hne u hu)]; exact hv u (List.mem_cons_of_mem _ hu)) (by
      rw [List.countP_congr (q := fun u => !Cq.inW k W (tbF T u).toNat) fun u hu => by rw [o.far u (hne u hu)]]
      cases e : Cq.inW k W (tbF T v).toNat
      · rw [e] at hf hfr; simp at hf hfr; omega
      · rw [e] at hf hfr; simp at hf hfr; omega) y.1 _ q' e3 e2]
    exact o.wn y.1 q _ e1 e3
theorem keys_nodup (h : TbOk T) : (T.map Prod.fst).Nodup := by
  have := h.up
  rw [List.nodup_iff_pairwise_ne, List.pairwise_map]
  exact this.imp fun e => by omega
theorem mvN_keys (h : TbOk T) : mvN k W T = (T.map Prod.fst).countP fun v => !Cq.inW k W (tbF T v).toNat := by
  unfold mvN
  rw [List.countP_map]
  apply List.countP_congr
  intro y hy
  show _ ↔ (!Cq.inW k W (tbF T y.1).toNat) = true
  rw [tbF_mem (v := y.1) (p := y.2) h hy]
theorem hMo_ok (h : HpOk C m H) (ok : MsOk m) (W : List Int) (hw : (hMo k m H W).2.2 = 0) : Left17 (fun q => Cq.inW k W q = true) m H (hMo k m H W).1 (hMo k m H W).2.1 ∧ (hMo k m H W).2.1.W = W ∧ (hMo k m H W).1.ss.length ≤ m.ss.length + 3 * H.T.length := by
  unfold hMo at hw ⊢
  by_cases e : Cq.frI k m.has W < mvN k W H.T
  · rw [if_pos e] at hw; exact absurd (show (13 : Int) = 0 from hw) (by decide)
  rw [if_neg e]
  have h1 : HpOk (fun _ => True) m ⟨H.W, H.T, H.L, H.ln⟩ := h.weak fun _ _ _ => trivial
  obtain ⟨i1, i2, i3, i4, i5, i6, i7, i8⟩ := mvAll_spec (C := fun _ => True) (k := k) (W := W) (fun _ _ => trivial) (H.T.map Prod.fst) m H.T H.L H.W H.ln h1 ok (keys_nodup h.tp.tb) (fun v hv => by
    obtain ⟨y, hy, rfl⟩ := List.mem_map.1 hv
    rw [tbF_mem (v := y.1) (p := y.2) h.tp.tb hy]
    have := (h.tp.tk y hy).1
    omega) (by rw [← mvN_keys h.tp.tb]; omega)
  rw [List.length_map] at i8
  refine ⟨⟨?_, i2, i3, i4⟩, rfl, i8⟩
  have h2 : HpOk (fun q => Cq.inW k W q = true) _ ⟨H.W, _, _, H.ln⟩ := i1.weak fun y hy _ => by
    have h3 : y.1 ∈ H.T.map Prod.fst := by rw [← i5]; exact List.mem_map.2 ⟨y, hy, rfl⟩
    have := i6 _ h3
    rw [tbF_mem (v := y.1) (p := y.2) i1.tp.tb hy] at this
    exact this
  exact ⟨h2.tp, h2.nd, h2.at_, h2.dom, h2.cov, h2.sm, h2.ln⟩
theorem hMo_no (h : (hMo k m H W).2.2 ≠ 0) : (hMo k m H W).1 = m ∧ (hMo k m H W).2.1 = H ∧ (hMo k m H W).2.2 = 13 := by
  unfold hMo at h ⊢
  by_cases e : Cq.frI k m.has W < mvN k W H.T
  · rw [if_pos e]; exact ⟨rfl, rfl, rfl⟩
  · rw [if_neg e] at h; exact (h rfl).elim
end
end Go.Proofs.YtejbdbjccjkfdaaGreatDoor
