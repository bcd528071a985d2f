/-
  How local pages are held and let go of: mathematics.
  A heap and what each call leaves of it: mathematics. Malloc.
-/
import Derived.Test.YtioplfbkfokkfaaGreatDoorHpBase
namespace Go.Proofs.YtioplfbkfokkfaaGreatDoor
open Go.RowKit
open An

section
variable {m : Ms} {T : Tb} {k : Nat} {W : List Int} {has : List Bool} {v : Int} {C : Nat → Prop}
theorem getD_set {has : List Bool} {p q : Nat} {b d : Bool} (hp : p < has.length) : (has.set p b).getD q d = if q = p then b else has.getD q d := by
  simp only [List.getD_eq_getElem?_getD, List.getElem?_set, hp]
  by_cases e : p = q
  · subst e; simp
  · rw [if_neg e, if_neg (fun e2 => e e2.symm)]
theorem getD_in {has : List Bool} {q : Nat} {d d' : Bool} (hq : q < has.length) : has.getD q d = has.getD q d' := by simp [List.getD_eq_getElem?_getD, hq]
theorem TpOk.lt (h : TpOk C has T) {q : Nat} (hq : Pgs T q) : q < has.length := by
  obtain ⟨v, hv⟩ := hq
  have := (h.tk _ hv).2.1
  simpa using this
theorem TpOk.on (h : TpOk C has T) {q : Nat} (hq : Pgs T q) : has.getD q true = true ∧ C q := by
  have hl := h.lt hq
  obtain ⟨v, hv⟩ := hq
  have := h.tk _ hv
  simp only [Int.toNat_natCast] at this
  exact ⟨by rw [getD_in hl (d' := false)]; exact this.2.2.1, this.2.2.2⟩
theorem TpOk.holder (h : TpOk C has T) {q : Nat} (hq : has.getD q true = false) : tbH T q < 0 := by
  by_cases e : tbH T q < 0
  · exact e
  · have := h.on ⟨_, h.tb.h_some e⟩
    rw [hq] at this
    cases this.1
theorem TpOk.free (h : TpOk C has T) {q : Nat} (hq : has.getD q true = false) : ¬ Pgs T q := fun e => by
  have := (h.on e).1
  rw [hq] at this
  cases this
theorem tak_one (hC : ∀ q, Cq.inW k W q = true → C q) (h : TpOk C has T) (hc : has.length ≤ 4096) (hf : 0 < Cq.frI k has W) (hv : VOk v) (hn : tbF T v < 0) :
    ∃ p : Nat, p < has.length ∧ has.getD p true = false ∧ Cq.inW k W p = true ∧ Cq.takV k has W = (p : Int) ∧ Cq.takE k has W = 0 ∧ Cq.takS k has W = has.set p true ∧ tbME T v p = 0 ∧ tbM T v p = tbI T v p ∧ ¬ Pgs T p ∧ TpOk C (has.set p true) (tbI T v p) ∧ Cq.frI k (Cq.takS k has W) W + 1 = Cq.frI k has W := by
  obtain ⟨p, h1, h2, h3, h4, h5, _, h7, _⟩ := Cq.take_yes hf
  unfold Cq.meant at h2
  simp only [Bool.and_eq_true, Bool.not_eq_true'] at h2
  have hh := h.holder h2.1
  have hm : tbME T v p = 0 := tbME_zero.2 ⟨⟨hv, by unfold POk; omega⟩, hn, hh⟩
  refine ⟨p, h1, h2.1, h2.2, h3, h4, h5, hm, tbM_yes hm, h.free h2.1, ⟨h.tb.ins hv (by unfold POk; omega) hn hh, fun y hy => ?_⟩, h7⟩
  rw [List.length_set, getD_set h1]
  rcases mem_tbI.1 hy with rfl | hy
  · simp [h1]; exact hC _ h2.2
  · have := h.tk y hy
    refine ⟨this.1, this.2.1, ?_, this.2.2.2⟩
    split
    · rfl
    · exact this.2.2.1
theorem f_tbI (h : TbOk T) (hn : tbF T v < 0) {p : Int} (hI : TbOk (tbI T v p)) (u : Int) : tbF (tbI T v p) u = if u = v then p else tbF T u := by
  by_cases e : u = v
  · rw [if_pos e]; subst e; exact tbF_mem hI (mem_tbI.2 (.inl rfl))
  · rw [if_neg e]
    by_cases hu : tbF T u < 0
    · have h1 := h.f_none hu
      by_cases hu2 : tbF (tbI T v p) u < 0
      · rw [(hI.f_none hu2).1, h1.1]
      · rcases mem_tbI.1 (hI.f_some hu2) with e2 | e2
        · simp only [Prod.mk.injEq] at e2; exact (e e2.1).elim
        · exact (h1.2 _ e2 rfl).elim
    · exact tbF_mem hI (mem_tbI.2 (.inr (h.f_some hu)))
structure Took (C : Nat → Prop) (k : Nat) (W : List Int) (n : Nat) (v : Int) (has : List Bool) (T : Tb) (has' : List Bool) (T' : Tb) : Prop where
  ok : TpOk C has' T'
  len : has'.length = has.length
  sub : ∀ y ∈ T, y ∈ T'
  new : ∀ y ∈ T', y ∈ T ∨ ((∃ i : Nat, i < n ∧ y.1 = v + i) ∧ has.getD y.2.toNat true = false)
  got : ∀ i : Nat, i < n → ¬ tbF T' (v + i) < 0
  far : ∀ u, (∀ i : Nat, i < n → u ≠ v + i) → tbF T' u = tbF T u
  out : ∀ q, ¬ Pgs T' q → has'.getD q true = has.getD q true
  up : ∀ q, has'.getD q true = false → has.getD q true = false
  tl : T'.length = T.length + n
  fr : Cq.frI k has' W + n = Cq.frI k has W
theorem takN_spec (hC : ∀ q, Cq.inW k W q = true → C q) : ∀ (n : Nat) (v : Int) (has : List Bool) (T : Tb), TpOk C has T → has.length ≤ 4096 → n ≤ Cq.frI k has W → (∀ i : Nat, i < n → VOk (v + i) ∧ tbF T (v + i) < 0) → Took C k W n v has T (takN k W n v has T).1 (takN k W n v has T).2
  | 0, v, has, T, h, _, _, _ => ⟨h, rfl, fun _ => id, fun _ => .inl, fun i hi => by omega, fun _ _ => rfl, fun _ _ => rfl, fun _ => id, rfl, rfl⟩
  | n + 1, v, has, T, h, hc, hn, hv => by
    have hv0 := hv 0 (by omega)
    simp only [Int.natCast_zero, Int.add_zero] at hv0
    obtain ⟨p, h1, h2, h3, h4, _, h5, h6, h7, h8, h9, h10⟩ := tak_one hC h hc (by omega) hv0.1 hv0.2
    unfold takN
    rw [h4, h7, h5]
    rw [h5] at h10
    have hF := f_tbI h.tb hv0.2 h9.tb
    have ih := takN_spec hC n (v + 1) (has.set p true) (tbI T v p) h9 (by rw [List.length_set]; exact hc) (by omega) fun i hi => by
      have := hv (i + 1) (by omega)
      rw [show v + ((i + 1 : Nat) : Int) = v + 1 + i by omega] at this
      refine ⟨this.1, ?_⟩
      rw [hF, if_neg (by omega)]
      exact this.2
    refine ⟨ih.ok, by rw [ih.len, List.length_set], fun y hy => ih.sub y (mem_tbI.2 (.inr hy)), fun y hy => ?_, fun i hi => ?_, fun u hu => ?_, fun q hq => ?_, fun q hq => ?_, by rw [ih.tl, tbI_len]; omega, by have := ih.fr; omega⟩
    · rcases ih.new y hy with e | ⟨⟨i, hi, e⟩, e2⟩
      · rcases mem_tbI.1 e with rfl | e
        · exact .inr ⟨⟨0, by omega, by simp⟩, by simpa using h2⟩
        · exact .inl e
      · refine .inr ⟨⟨i + 1, by omega, by omega⟩, ?_⟩
        rw [getD_set h1] at e2
        split at e2
        · cases e2
        · exact e2
    · by_cases e : i = 0
      · subst e
        rw [ih.far _ (by intro j _; omega), hF, if_pos (by simp)]
        omega
      · have := ih.got (i - 1) (by omega)
        rw [show v + 1 + ((i - 1 : Nat) : Int) = v + i by omega] at this
        exact this
    · rw [ih.far u (by intro i hi; have := hu (i + 1) (by omega); omega), hF, if_neg (by have := hu 0 (by omega); simpa using this)]
    · rw [ih.out q hq, getD_set h1, if_neg]
      intro e
      subst e
      exact hq ⟨v, ih.sub _ (mem_tbI.2 (.inl rfl))⟩
    · have := ih.up q hq
      rw [getD_set h1] at this
      split at this
      · cases this
      · exact this
theorem Took.stp {n : Nat} {has' : List Bool} {T' : Tb} {bs : List UInt8} {ss ss' : List Sp} (h : Took C k W n v has T has' T') : Stp ⟨has, bs, ss⟩ T ⟨has', bs, ss'⟩ T' :=
  ⟨h.len, rfl, fun q _ _ h2 => ⟨h.out q h2, rfl⟩, fun q ⟨u, h1⟩ h2 => by
    rcases h.new _ h1 with e | e
    · exact (h2 ⟨u, e⟩).elim
    · simpa using e.2, fun q ⟨u, h1⟩ h2 => (h2 ⟨u, h.sub _ h1⟩).elim⟩
theorem Took.ms {n : Nat} {has' : List Bool} {T' : Tb} {bs : List UInt8} {ss ss' : List Sp} (h : Took C k W n v has T has' T') (ok : MsOk ⟨has, bs, ss⟩) : MsOk ⟨has', bs, ss'⟩ :=
  ⟨by rw [ok.len]; show _ = has'.length * 512; rw [h.len], by show has'.length ≤ 4096; rw [h.len]; exact ok.cap, fun q hq hf => ok.cl q (by have hq : q < has'.length := hq; rw [h.len] at hq; exact hq) (h.up q hf)⟩
theorem win_nz {bs : List UInt8} {b : Nat} (h : b + 512 ≤ bs.length) : win (over bs b (nz 512)) b = nz 512 := by
  have := win_over (bs := bs) (ds := nz 512) (b := b) (q := 0) h (by rw [nz_length]; omega)
  rw [Nat.add_zero] at this
  rw [this]
  unfold over
  simp [win_length h, nz_length]
structure Went (C : Nat → Prop) (n : Nat) (v : Int) (m : Ms) (T : Tb) (m' : Ms) (T' : Tb) : Prop where
  ok : TpOk C m'.has T'
  ms : MsOk m'
  stp : Stp m T m' T'
  mem : ∀ y, y ∈ T' ↔ y ∈ T ∧ ∀ i : Nat, i < n → y.1 ≠ v + i
  tl : T'.length + n = T.length
  far : ∀ u, (∀ i : Nat, i < n → u ≠ v + i) → tbF T' u = tbF T u
  win : ∀ q, Pgs T' q → win m'.bs (q * 512) = win m.bs (q * 512)
theorem hp_memU {y : Int × Int} : y ∈ tbU T v ↔ y ∈ T ∧ y.1 ≠ v := by simp [tbU]
theorem tbU_far : ∀ (T : Tb) (u : Int), u ≠ v → tbF (tbU T v) u = tbF T u
  | [], _, _ => rfl
  | x :: r, u, h => by
    have ih := tbU_far r u h
    unfold tbU at ih ⊢
    by_cases e : x.1 = v
    · rw [List.filter_cons_of_neg (by simp [e]), ih]
      unfold tbF
      rw [if_neg (by rw [e]; exact fun e2 => h e2.symm)]
      cases r <;> rfl
    · rw [List.filter_cons_of_pos (by simp [e])]
      unfold tbF
      rw [ih]
theorem hp_tbU_less (h : TbOk T) {p : Int} (hm : (v, p) ∈ T) : (tbU T v).length + 1 = T.length := by
  induction T with
  | nil => simp at hm
  | cons x r ih =>
    have hup := List.pairwise_cons.1 h.up
    rcases List.mem_cons.1 hm with e | e
    · subst e
      unfold tbU
      rw [List.filter_cons_of_neg (by simp), List.length_cons, List.filter_eq_self.2]
      intro y hy
      have := hup.1 y hy
      simp at this ⊢
      omega
    · have := ih h.tail e
      have h1 := hup.1 _ e
      unfold tbU at this ⊢
      rw [List.filter_cons_of_pos (by simp at h1 ⊢; omega), List.length_cons, List.length_cons, this]
theorem drop_one (h : TpOk C m.has T) (ok : MsOk m) (hv : ¬ tbF T v < 0) : ∃ p : Nat, (v, (p : Int)) ∈ T ∧ tbUV T v = (p : Int) ∧ tbUE T v = 0 ∧ p * 512 + 512 ≤ m.bs.length ∧ Cq.giE m.has p = 0 ∧ Went C 1 v m T (drM m T v) (tbU T v) := by
  have hmem := h.tb.f_some hv
  obtain ⟨p, hp⟩ : ∃ p : Nat, tbF T v = (p : Int) := ⟨(tbF T v).toNat, by omega⟩
  rw [hp] at hmem
  have hpl : p < m.has.length := h.lt ⟨v, hmem⟩
  have hon := (h.on ⟨v, hmem⟩).1
  have hU : tbUV T v = (p : Int) := by unfold tbUV; rw [if_neg hv, hp]
  have hb : p * 512 + 512 ≤ m.bs.length := by have := ok.len; omega
  have hg : Cq.giS m.has (p : Int) = m.has.set p false := by unfold Cq.giS; rw [if_pos ⟨by omega, by omega⟩]; rfl
  have hE : Cq.giE m.has (p : Int) = 0 := by unfold Cq.giE; rw [if_pos ⟨by omega, by omega⟩, if_pos (by rw [Int.toNat_natCast, getD_in hpl (d' := true)]; exact hon)]
  refine ⟨p, hmem, hU, by unfold tbUE; rw [if_neg hv], hb, hE, ?_⟩
  have hone : ∀ y ∈ tbU T v, y.2 ≠ (p : Int) := fun y hy e => by
    have h1 := (hp_memU.1 hy)
    have h2 := tbH_mem h.tb hmem
    have h3 := tbH_mem (v := y.1) (p := y.2) h.tb h1.1
    rw [e, h2] at h3
    exact h1.2 h3.symm
  unfold drM
  rw [hU, hg, Int.toNat_natCast]
  have hfar : ∀ q : Nat, q ≠ p → win (over m.bs (p * 512) (nz 512)) (q * 512) = win m.bs (q * 512) := fun q hq => win_far (by rw [nz_length]; exact hb) (by rw [nz_length]; omega)
  have hol : (over m.bs (p * 512) (nz 512)).length = m.bs.length := over_length _ _ _ (by rw [nz_length]; exact hb)
  refine ⟨⟨h.tb.unmap v, fun y hy => ?_⟩, ⟨?_, by rw [List.length_set]; exact ok.cap, fun q hq hf => ?_⟩, ⟨by simp, hol, fun q hq h1 h2 => ?_, fun q ⟨u, h1⟩ h2 => (h2 ⟨u, (hp_memU.1 h1).1⟩).elim, fun q ⟨u, h1⟩ h2 => ?_⟩, fun y => ?_, hp_tbU_less h.tb hmem, fun u hu => tbU_far T u (by have := hu 0 (by omega); simpa using this), fun q ⟨u, h1⟩ => hfar q fun e => hone _ h1 (by simp [e])⟩
  · have h1 := h.tk y (hp_memU.1 hy).1
    refine ⟨h1.1, by rw [List.length_set]; exact h1.2.1, ?_, h1.2.2.2⟩
    show (m.has.set p false).getD y.2.toNat false = true
    rw [getD_set hpl, if_neg (fun e => hone y hy (by omega))]
    exact h1.2.2.1
  · show (over m.bs (p * 512) (nz 512)).length = (m.has.set p false).length * 512
    rw [hol, List.length_set]; exact ok.len
  · rw [List.length_set] at hq
    rw [getD_set hpl] at hf
    by_cases e : q = p
    · subst e; exact win_nz hb
    · rw [if_neg e] at hf
      show win (over m.bs (p * 512) (nz 512)) (q * 512) = _
      rw [hfar q e]; exact ok.cl q hq hf
  · have e : q ≠ p := fun e => h1 (by subst e; exact ⟨v, hmem⟩)
    exact ⟨by show (m.has.set p false).getD q true = _; rw [getD_set hpl, if_neg e], hfar q e⟩
  · have e : q = p := by
      by_cases e : u = v
      · subst e
        have h3 := tbF_mem h.tb h1
        rw [hp] at h3
        omega
      · exact (h2 ⟨u, hp_memU.2 ⟨h1, e⟩⟩).elim
    show (m.has.set p false).getD q true = false
    rw [getD_set hpl, if_pos e]
  · rw [hp_memU]
    constructor
    · rintro ⟨h1, h2⟩; exact ⟨h1, fun i hi => by
        obtain rfl : i = 0 := by omega
        simpa using h2⟩
    · rintro ⟨h1, h2⟩; exact ⟨h1, by have := h2 0 (by omega); simpa using this⟩
theorem letN_spec : ∀ (n : Nat) (v : Int) (m : Ms) (T : Tb), TpOk C m.has T → MsOk m → (∀ i : Nat, i < n → ¬ tbF T (v + i) < 0) → Went C n v m T (letN n v m T).1 (letN n v m T).2
  | 0, v, m, T, h, ok, _ => ⟨h, ok, Stp.refl _ _, fun y => ⟨fun e => ⟨e, fun i hi => by omega⟩, fun e => e.1⟩, rfl, fun _ _ => rfl, fun _ _ => rfl⟩
  | n + 1, v, m, T, h, ok, hv => by
    have hv0 := hv 0 (by omega)
    simp only [Int.natCast_zero, Int.add_zero] at hv0
    obtain ⟨p, _, _, _, _, _, h1⟩ := drop_one h ok hv0
    unfold letN
    have ih := letN_spec n (v + 1) (drM m T v) (tbU T v) h1.ok h1.ms fun i hi => by
      have := hv (i + 1) (by omega)
      rw [show v + ((i + 1 : Nat) : Int) = v + 1 + i by omega] at this
      rw [tbU_far _ _ (by omega)]
      exact this
    refine ⟨ih.ok, ih.ms, h1.stp.trans ih.stp ok ih.ms, fun y => ?_, by have := ih.tl; have := h1.tl; omega, fun u hu => ?_, fun q hq => ?_⟩
    · rw [ih.mem, hp_memU]
      constructor
      · rintro ⟨⟨a1, a2⟩, a3⟩
        refine ⟨a1, fun i hi => ?_⟩
        by_cases e : i = 0
        · subst e; simpa using a2
        · have := a3 (i - 1) (by omega); omega
      · rintro ⟨a1, a2⟩
        exact ⟨⟨a1, by have := a2 0 (by omega); simpa using this⟩, fun i hi => by have := a2 (i + 1) (by omega); omega⟩
    · rw [ih.far u (fun i hi => by have := hu (i + 1) (by omega); omega), tbU_far _ _ (by have := hu 0 (by omega); simpa using this)]
    · obtain ⟨u, hu⟩ := hq
      have h2 := (ih.mem _).1 hu
      rw [ih.win q ⟨u, hu⟩, h1.win q ⟨u, h2.1⟩]
end
end Go.Proofs.YtioplfbkfokkfaaGreatDoor

namespace Go.Proofs.YtioplfbkfokkfaaGreatDoor
open Go.RowKit
open An

structure SmOk (bs : List UInt8) (T : Tb) (x : Hd) : Prop where
  ok : x.pg.Ok bs
  cl : x.pg.Clean bs
  kd : x.pg.kind = x.kind
  at_ : (x.pg.base : Int) = tbF T (lo x.kind x.slot) * 512
structure HpOk (C : Nat → Prop) (m : Ms) (H : Hp) : Prop where
  tp : TpOk C m.has H.T
  nd : (H.L.map fun x => (x.kind, x.slot)).Nodup
  at_ : ∀ x ∈ H.L, x.kind ≤ 23 ∧ x.slot < sn x.kind
  dom : ∀ y ∈ H.T, ∃ x ∈ H.L, ∃ i : Nat, i < pn x.kind ∧ y.1 = lo x.kind x.slot + i
  cov : ∀ x ∈ H.L, ∀ i : Nat, i < pn x.kind → ¬ tbF H.T (lo x.kind x.slot + i) < 0
  sm : ∀ x ∈ H.L, x.kind ≤ 7 → SmOk m.bs H.T x
  ln : ∀ c, (H.ln c).Nodup ∧ ∀ v, v ∈ H.ln c ↔ ∃ x ∈ H.L, x.kind = c ∧ c ≤ 7 ∧ v = lo c x.slot ∧ ¬ x.pg.Full
section
variable {C : Nat → Prop} {k : Nat} {m m' : Ms} {H : Hp} {bs bs' : List UInt8} {g : Pg} {T T' : Tb} {L : List Hd} {c s : Nat}
theorem Pg.Ok.ext (h : g.Ok bs) (hl : bs'.length = bs.length) (hw : win bs' g.base = win bs g.base) : g.Ok bs' :=
  ⟨h.kind, h.mod, by rw [hl]; exact h.fit, rep_win h.kind hw h.lr h.r, rep_win h.kind hw h.ld h.d, h.nd, h.lt, h.fr⟩
theorem byte_win {b i : Nat} (hw : win bs' b = win bs b) (h1 : b ≤ i) (h2 : i < b + 512) : bs'[i]? = bs[i]? := by
  have e1 := win_get? bs b (i - b) (by omega)
  have e2 := win_get? bs' b (i - b) (by omega)
  rw [show b + (i - b) = i by omega] at e1 e2
  rw [← e1, ← e2, hw]
theorem Pg.Clean.ext (h : g.Clean bs) (hw : win bs' g.base = win bs g.base) : g.Clean bs' := fun i h1 h2 hne => h i h1 h2 (by rw [byte_win hw h1 h2] at hne; exact hne)
theorem SmOk.ext {x : Hd} (h : SmOk bs T x) (hl : bs'.length = bs.length) (hw : win bs' x.pg.base = win bs x.pg.base) (hf : tbF T' (lo x.kind x.slot) = tbF T (lo x.kind x.slot)) : SmOk bs' T' x :=
  ⟨h.ok.ext hl hw, h.cl.ext hw, h.kd, by rw [hf]; exact h.at_⟩
theorem SmOk.page {x : Hd} (h : SmOk bs T x) (tb : TbOk T) : ∃ q : Nat, x.pg.base = q * 512 ∧ (lo x.kind x.slot, (q : Int)) ∈ T := by
  have h1 := h.at_
  have h2 := h.ok.mod
  refine ⟨x.pg.base / 512, by omega, ?_⟩
  have h3 : tbF T (lo x.kind x.slot) = ((x.pg.base / 512 : Nat) : Int) := by omega
  have := tb.f_some (v := lo x.kind x.slot) (by omega)
  rw [h3] at this
  exact this
theorem hAt_mem {x : Hd} (nd : (L.map fun x => (x.kind, x.slot)).Nodup) (hx : x ∈ L) : hAt L x.kind x.slot = some x := by
  unfold hAt
  induction L with
  | nil => simp at hx
  | cons y r ih =>
    rw [List.map_cons, List.nodup_cons] at nd
    rcases List.mem_cons.1 hx with rfl | e
    · rw [List.find?_cons_of_pos (by simp)]
    · rw [List.find?_cons_of_neg, ih nd.2 e]
      intro h
      simp only [decide_eq_true_eq] at h
      exact nd.1 (List.mem_map.2 ⟨x, e, by rw [h.1, h.2]⟩)
theorem hAt_some {x : Hd} (h : hAt L c s = some x) : x ∈ L ∧ x.kind = c ∧ x.slot = s := by
  unfold hAt at h
  have := List.find?_some h
  simp only [decide_eq_true_eq] at this
  exact ⟨List.mem_of_find?_eq_some h, this⟩
theorem hAt_none (h : hAt L c s = none) : ¬ Held L c s := by
  unfold hAt at h
  rw [List.find?_eq_none] at h
  rintro ⟨x, hx, e⟩
  exact h x hx (by simpa using e)
theorem slot_one {x y : Hd} (nd : (L.map fun x => (x.kind, x.slot)).Nodup) (hx : x ∈ L) (hy : y ∈ L) (h1 : x.kind = y.kind) (h2 : x.slot = y.slot) : x = y := by
  have e1 := hAt_mem nd hx
  have e2 := hAt_mem nd hy
  rw [h1, h2, e2] at e1
  exact (Option.some.inj e1).symm
theorem hSl_free (h : hSl L c < sn c) : ¬ Held L c (hSl L c) := by
  rcases Cq.low_cases (fun s => !heldB L c s) (sn c) with ⟨_, h2, _⟩ | ⟨h2, _⟩
  · intro e
    have : (!heldB L c (hSl L c)) = true := h2
    rw [heldB_iff.2 e] at this
    cases this
  · have : hSl L c = sn c := h2
    omega
theorem mem_hSet {y : Hd} (_nd : (L.map fun x => (x.kind, x.slot)).Nodup) {x : Hd} (hx : x ∈ L) : y ∈ hSet L x.kind x.slot g ↔ y = ⟨x.kind, x.slot, g⟩ ∨ (y ∈ L ∧ ¬ (y.kind = x.kind ∧ y.slot = x.slot)) := by
  unfold hSet
  rw [List.mem_map]
  constructor
  · rintro ⟨z, hz, rfl⟩
    by_cases e : z.kind = x.kind ∧ z.slot = x.slot
    · rw [if_pos e, e.1, e.2]; exact .inl rfl
    · rw [if_neg e]; exact .inr ⟨hz, e⟩
  · rintro (rfl | ⟨h1, h2⟩)
    · exact ⟨x, hx, by rw [if_pos ⟨rfl, rfl⟩]⟩
    · exact ⟨y, h1, by rw [if_neg h2]⟩
theorem hSet_keys : (hSet L c s g).map (fun x => (x.kind, x.slot)) = L.map fun x => (x.kind, x.slot) := by
  unfold hSet
  rw [List.map_map]
  apply List.map_congr_left
  intro x _
  by_cases e : x.kind = c ∧ x.slot = s
  · simp [e]
  · simp [e]
theorem mem_hDel {y : Hd} : y ∈ hDel L c s ↔ y ∈ L ∧ ¬ (y.kind = c ∧ y.slot = s) := by unfold hDel; rw [List.mem_filter, decide_eq_true_eq]
theorem Like.refl (h : g.Ok bs) : Like g g bs bs := ⟨rfl, rfl, rfl, rfl, rfl, h.mod, h.fit⟩
theorem HpOk.base_ne (h : HpOk C m H) {x y : Hd} (hx : x ∈ H.L) (hy : y ∈ H.L) (hk : x.kind ≤ 7) (hk2 : y.kind ≤ 7) (hne : ¬ (y.kind = x.kind ∧ y.slot = x.slot)) : y.pg.base + 512 ≤ x.pg.base ∨ x.pg.base + 512 ≤ y.pg.base := by
  obtain ⟨q, e1, m1⟩ := (h.sm x hx hk).page h.tp.tb
  obtain ⟨r, e2, m2⟩ := (h.sm y hy hk2).page h.tp.tb
  have : q ≠ r := fun e => by
    subst e
    have h1 := tbH_mem h.tp.tb m1
    rw [tbH_mem h.tp.tb m2] at h1
    obtain ⟨a1, a2⟩ := h.at_ x hx
    obtain ⟨b1, b2⟩ := h.at_ y hy
    have p1 := (pn_facts a1).1.1
    have p2 := (pn_facts b1).1.1
    have := lo_one b1 b2 a1 a2 (i := 0) (i' := 0) (by omega) (by omega) (by simpa using h1)
    exact hne ⟨this.1, this.2.1⟩
  omega
theorem HpOk.page (h : HpOk C m H) (ok : MsOk m) {x : Hd} (hx : x ∈ H.L) (hk : x.kind ≤ 7) {g' : Pg} {bs' : List UInt8} {ss' : List Sp} {ln' : Nat → List Int} (p1 : g'.Ok bs') (p2 : g'.Clean bs') (p3 : g'.base = x.pg.base) (p4 : g'.kind = x.kind) (p6 : bs'.length = m.bs.length)
    (p7 : ∀ b, (b + 512 ≤ x.pg.base ∨ x.pg.base + 512 ≤ b) → win bs' b = win m.bs b) (hl : ∀ c, (ln' c).Nodup ∧ ∀ v, v ∈ ln' c ↔ if c = x.kind ∧ v = lo x.kind x.slot then ¬ g'.Full else v ∈ H.ln c) :
    HpOk C ⟨m.has, bs', ss'⟩ ⟨H.W, H.T, hSet H.L x.kind x.slot g', ln'⟩ ∧ MsOk ⟨m.has, bs', ss'⟩ ∧ Stp m H.T ⟨m.has, bs', ss'⟩ H.T := by
  obtain ⟨q, e1, m1⟩ := (h.sm x hx hk).page h.tp.tb
  have hon := (h.tp.on ⟨_, m1⟩).1
  have hfar : ∀ r : Nat, r ≠ q → win bs' (r * 512) = win m.bs (r * 512) := fun r hr => p7 _ (by omega)
  have hms : MsOk ⟨m.has, bs', ss'⟩ := ⟨by rw [← ok.len]; exact p6, ok.cap, fun r hr hf => by
    have : r ≠ q := fun e => by subst e; have hf : m.has.getD r true = false := hf; rw [hon] at hf; cases hf
    show win bs' (r * 512) = _
    rw [hfar r this]; exact ok.cl r hr hf⟩
  have hmem := fun y => mem_hSet (y := y) (g := g') h.nd hx
  refine ⟨⟨h.tp, by rw [hSet_keys]; exact h.nd, fun y hy => ?_, fun y hy => ?_, fun y hy i hi => ?_, fun y hy hy7 => ?_, fun c => ⟨(hl c).1, fun v => ?_⟩⟩, hms, ⟨rfl, p6, fun r hr h1 _ => ⟨rfl, hfar r fun e => h1 (by subst e; exact ⟨_, m1⟩)⟩, fun r h1 h2 => (h2 h1).elim, fun r h1 h2 => (h2 h1).elim⟩⟩
  · rcases (hmem y).1 hy with rfl | e
    · exact h.at_ x hx
    · exact h.at_ y e.1
  · obtain ⟨z, hz, i, hi, e⟩ := h.dom y hy
    by_cases e2 : z.kind = x.kind ∧ z.slot = x.slot
    · exact ⟨⟨x.kind, x.slot, g'⟩, (hmem _).2 (.inl rfl), i, by rw [← e2.1]; exact hi, by rw [← e2.1, ← e2.2]; exact e⟩
    · exact ⟨z, (hmem _).2 (.inr ⟨hz, e2⟩), i, hi, e⟩
  · rcases (hmem y).1 hy with rfl | e
    · exact h.cov x hx i hi
    · exact h.cov y e.1 i hi
  · rcases (hmem y).1 hy with rfl | e
    · exact ⟨p1, p2, p4, by show (g'.base : Int) = _; rw [p3]; exact (h.sm x hx hk).at_⟩
    · exact (h.sm y e.1 hy7).ext p6 (p7 _ (h.base_ne hx e.1 hk hy7 e.2)) rfl
  · have hlv := (hl c).2 v
    rw [hlv]
    obtain ⟨a1, a2⟩ := h.at_ x hx
    have p1' := (pn_facts a1).1.1
    by_cases e : c = x.kind ∧ v = lo x.kind x.slot
    · rw [if_pos e]
      constructor
      · intro hf
        exact ⟨⟨x.kind, x.slot, g'⟩, (hmem _).2 (.inl rfl), e.1.symm, by omega, by rw [e.1]; exact e.2, hf⟩
      · rintro ⟨y, hy, y1, y2, y3, y4⟩
        rcases (hmem y).1 hy with rfl | e3
        · exact y4
        · exfalso
          obtain ⟨b1, b2⟩ := h.at_ y e3.1
          have p2' := (pn_facts b1).1.1
          have := lo_one b1 b2 a1 a2 (i := 0) (i' := 0) (by omega) (by omega) (by rw [y1, ← y3, e.2])
          exact e3.2 ⟨this.1, this.2.1⟩
    · rw [if_neg e, (h.ln c).2 v]
      constructor
      · rintro ⟨y, hy, y1, y2, y3, y4⟩
        refine ⟨y, (hmem y).2 (.inr ⟨hy, fun e3 => e ⟨by rw [← y1, e3.1], by rw [← e3.1, ← e3.2, y1]; exact y3⟩⟩), y1, y2, y3, y4⟩
      · rintro ⟨y, hy, y1, y2, y3, y4⟩
        rcases (hmem y).1 hy with rfl | e3
        · exact (e ⟨y1.symm, by rw [y3, ← y1]⟩).elim
        · exact ⟨y, e3.1, y1, y2, y3, y4⟩
theorem HpOk.add (h : HpOk C m H) (_ : MsOk m) {has' : List Bool} {T' : Tb} (hc : c ≤ 23) (hs : s < sn c) (hn : ¬ Held H.L c s) (tk : Took C k H.W (pn c) (lo c s) m.has H.T has' T') (hg : c ≤ 7 → SmOk m.bs T' ⟨c, s, g⟩) {ln' : Nat → List Int} {ss' : List Sp}
    (hl : ∀ d, (ln' d).Nodup ∧ ∀ v, v ∈ ln' d ↔ v ∈ H.ln d ∨ (d = c ∧ c ≤ 7 ∧ v = lo c s ∧ ¬ g.Full)) : HpOk C ⟨has', m.bs, ss'⟩ ⟨H.W, T', H.L ++ [⟨c, s, g⟩], ln'⟩ := by
  have hfar : ∀ y ∈ H.L, ∀ i : Nat, i < pn y.kind → ∀ j : Nat, j < pn c → lo y.kind y.slot + i ≠ lo c s + j := fun y hy i hi j hj e => by
    obtain ⟨b1, b2⟩ := h.at_ y hy
    have := lo_one b1 b2 hc hs hi hj e
    exact hn ⟨y, hy, this.1, this.2.1⟩
  have hmem : ∀ y : Hd, y ∈ H.L ++ [⟨c, s, g⟩] ↔ y ∈ H.L ∨ y = ⟨c, s, g⟩ := fun y => by simp
  refine ⟨tk.ok, ?_, fun y hy => ?_, fun y hy => ?_, fun y hy i hi => ?_, fun y hy hy7 => ?_, fun d => ⟨(hl d).1, fun v => ?_⟩⟩
  · rw [List.map_append, List.nodup_append]
    refine ⟨h.nd, by simp, fun a ha b hb e => ?_⟩
    obtain ⟨y, hy, rfl⟩ := List.mem_map.1 ha
    simp only [List.map_cons, List.map_nil, List.mem_singleton] at hb
    rw [hb] at e
    simp only [Prod.mk.injEq] at e
    exact hn ⟨y, hy, e.1, e.2⟩
  · rcases (hmem y).1 hy with e | rfl
    · exact h.at_ y e
    · exact ⟨hc, hs⟩
  · rcases tk.new y hy with e | ⟨⟨i, hi, e⟩, _⟩
    · obtain ⟨z, hz, i, hi, e2⟩ := h.dom y e
      exact ⟨z, (hmem z).2 (.inl hz), i, hi, e2⟩
    · exact ⟨⟨c, s, g⟩, (hmem _).2 (.inr rfl), i, hi, e⟩
  · rcases (hmem y).1 hy with e | rfl
    · rw [tk.far _ fun j hj => hfar y e i hi j hj]; exact h.cov y e i hi
    · exact tk.got i hi
  · rcases (hmem y).1 hy with e | rfl
    · have p := (pn_facts (h.at_ y e).1).1.1
      exact (h.sm y e hy7).ext rfl rfl (tk.far _ fun j hj => by have := hfar y e 0 (by omega) j hj; simpa using this)
    · exact hg hy7
  · rw [(hl d).2 v, (h.ln d).2 v]
    constructor
    · rintro (⟨y, hy, r⟩ | ⟨rfl, r1, r2, r3⟩)
      · exact ⟨y, (hmem y).2 (.inl hy), r⟩
      · exact ⟨⟨d, s, g⟩, (hmem _).2 (.inr rfl), rfl, r1, r2, r3⟩
    · rintro ⟨y, hy, r1, r2, r3, r4⟩
      rcases (hmem y).1 hy with e | rfl
      · exact .inl ⟨y, e, r1, r2, r3, r4⟩
      · have r1 : c = d := r1
        subst r1
        exact .inr ⟨rfl, r2, r3, r4⟩
end
def lnS (ln : Nat → List Int) (c : Nat) (x : List Int) : Nat → List Int := fun d => if d = c then x else ln d
def hHold (k : Nat) (m : Ms) (H : Hp) (c : Nat) : Option (Ms × Hp) :=
  if hSl H.L c < sn c ∧ pn c ≤ Cq.frI k m.has H.W then
    some (⟨(takN k H.W (pn c) (lo c (hSl H.L c)) m.has H.T).1, m.bs, m.ss⟩, ⟨H.W, (takN k H.W (pn c) (lo c (hSl H.L c)) m.has H.T).2, H.L ++ [⟨c, hSl H.L c, ⟨(tbF (takN k H.W (pn c) (lo c (hSl H.L c)) m.has H.T).2 (lo c (hSl H.L c))).toNat * 512, c, 0, [], []⟩⟩], H.ln⟩)
  else none
def hSm (m : Ms) (H : Hp) (c : Nat) (v : Int) : Ms × Hp × Int :=
  match hAt H.L c (v - lo c 0).toNat with
  | none => (m, H, 0)
  | some x => (⟨m.has, paB x.pg m.bs, paT x.pg m.ss⟩, ⟨H.W, H.T, hSet H.L c x.slot (paS x.pg), if (paS x.pg).Full then lnS H.ln c (liR (H.ln c) v) else H.ln⟩, adI c x.slot (paV x.pg))
def hM (k : Nat) (m : Ms) (H : Hp) (n : Int) : Ms × Hp × Int × Int :=
  if ofI n < 0 then (m, H, 0, 2)
  else if 8 ≤ (ofI n).toNat then
    match hHold k m H (ofI n).toNat with
    | none => (m, H, 0, 13)
    | some r => (r.1, r.2, adI (ofI n) (hSl H.L (ofI n).toNat) 0, 0)
  else match H.ln (ofI n).toNat with
    | v :: _ => ((hSm m H (ofI n).toNat v).1, (hSm m H (ofI n).toNat v).2.1, (hSm m H (ofI n).toNat v).2.2, 0)
    | [] => match hHold k m H (ofI n).toNat with
      | none => (m, H, 0, 13)
      | some r =>
        let v := lo (ofI n).toNat (hSl H.L (ofI n).toNat)
        let H' : Hp := ⟨r.2.W, r.2.T, r.2.L, lnS r.2.ln (ofI n).toNat [v]⟩
        ((hSm r.1 H' (ofI n).toNat v).1, (hSm r.1 H' (ofI n).toNat v).2.1, (hSm r.1 H' (ofI n).toNat v).2.2, 0)
end Go.Proofs.YtioplfbkfokkfaaGreatDoor
