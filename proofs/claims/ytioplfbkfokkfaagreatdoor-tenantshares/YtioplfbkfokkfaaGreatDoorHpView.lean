/-
  A tenant's blocks seen through the table: mathematics. What is written into a block that is had leaves the heap right.
-/
import Derived.Test.YtioplfbkfokkfaaGreatDoorViIn
import Derived.Test.YtioplfbkfokkfaaGreatDoorViOver
namespace Go.Proofs.YtioplfbkfokkfaaGreatDoor
open Go.RowKit
open An

def phys (T : Tb) (a : Int) : Int := tbF T (a / 512) * 512 + a % 512
def lb (T : Tb) (bs : List UInt8) (a : Int) : UInt8 := bs[(phys T a).toNat]?.getD 0
section
variable {T : Tb} {a : Int} {bs bs' ds : List UInt8}
theorem pcs_all : ∀ k : Nat, (∀ i : Nat, i < k → ¬ tbF T ((a + i) / 512) < 0) → ∃ L, pcs T a k = some L
  | 0, _ => ⟨[], rfl⟩
  | k + 1, h => by
    obtain ⟨L, hL⟩ := pcs_all k fun i hi => h i (by omega)
    by_cases e : k = 0 ∨ (a + k) % 512 = 0
    · exact ⟨_, pcs_new hL (h k (by omega)) e⟩
    · exact ⟨_, pcs_more hL (h k (by omega)) e⟩
theorem hp_rdB_snoc (bs : List UInt8) (s : Sq) : ∀ L : List Sq, rdB bs (L ++ [s]) = rdB bs L ++ (bs.drop s.1.toNat).take s.2.1.toNat
  | [] => by simp [rdB]
  | t :: r => by simp only [List.cons_append, rdB, hp_rdB_snoc bs s r, List.append_assoc]
theorem pcs_phys : ∀ (k : Nat) (L : List Sq), pcs T a k = some L → (∀ q : Int, (∃ s ∈ L, s.1 ≤ q ∧ q < s.1 + s.2.1) ↔ ∃ i : Nat, i < k ∧ q = phys T (a + i)) ∧ ((k = 0 ∧ L = []) ∨ ∃ L0 s, L = L0 ++ [s] ∧ s.1 + s.2.1 = phys T (a + ((k - 1 : Nat) : Int)) + 1 ∧ 0 ≤ s.1 ∧ 1 ≤ s.2.1 ∧ 0 < k)
  | 0, L, h => by
    unfold pcs at h
    simp only [Option.some.injEq] at h
    subst h
    refine ⟨fun q => ⟨fun ⟨s, hs, _⟩ => (by cases hs), fun ⟨i, hi, _⟩ => by omega⟩, .inl ⟨rfl, rfl⟩⟩
  | k + 1, L, h => by
    cases hp : pcs T a k with
    | none => rw [pcs_none hp (by omega)] at h; cases h
    | some M =>
      obtain ⟨ih, il⟩ := pcs_phys k M hp
      by_cases hf : tbF T ((a + k) / 512) < 0
      · rw [pcs_stop hf (by omega)] at h; cases h
      have hadd : ∀ (L' : List Sq), (∀ q : Int, (∃ s ∈ L', s.1 ≤ q ∧ q < s.1 + s.2.1) ↔ (∃ s ∈ M, s.1 ≤ q ∧ q < s.1 + s.2.1) ∨ q = phys T (a + k)) → ∀ q : Int, (∃ s ∈ L', s.1 ≤ q ∧ q < s.1 + s.2.1) ↔ ∃ i : Nat, i < k + 1 ∧ q = phys T (a + i) := fun L' hL q => by
        rw [hL q, ih q]
        constructor
        · rintro (⟨i, hi, e⟩ | e)
          · exact ⟨i, by omega, e⟩
          · exact ⟨k, by omega, e⟩
        · rintro ⟨i, hi, e⟩
          by_cases e2 : i = k
          · subst e2; exact .inr e
          · exact .inl ⟨i, by omega, e⟩
      by_cases hk : k = 0 ∨ (a + k) % 512 = 0
      · rw [pcs_new hp hf hk] at h
        simp only [Option.some.injEq] at h
        subst h
        refine ⟨hadd _ fun q => ?_, .inr ⟨M, _, rfl, ?_, ?_, by show (1 : Int) ≤ 1; omega, by omega⟩⟩
        · constructor
          · rintro ⟨s, hs, h1, h2⟩
            rcases List.mem_append.1 hs with e | e
            · exact .inl ⟨s, e, h1, h2⟩
            · simp only [List.mem_singleton] at e
              subst e
              have h1 : phys T (a + k) ≤ q := h1
              have h2 : q < phys T (a + k) + 1 := h2
              exact .inr (by omega)
          · rintro (⟨s, hs, h1⟩ | e)
            · exact ⟨s, List.mem_append_left _ hs, h1⟩
            · exact ⟨_, List.mem_append_right _ (List.mem_singleton.2 rfl), by show phys T (a + k) ≤ q ∧ q < phys T (a + k) + 1; omega⟩
        · rw [Nat.add_sub_cancel]; rfl
        · show 0 ≤ tbF T ((a + k) / 512) * 512 + (a + k) % 512
          generalize tbF T ((a + k) / 512) = z at *
          omega
      · rw [pcs_more hp hf hk] at h
        simp only [Option.some.injEq] at h
        subst h
        rcases il with ⟨e, _⟩ | ⟨L0, s, rfl, e1, e2, e3, e4⟩
        · exact (hk (.inl e)).elim
        rw [bump_snoc]
        have hnext : phys T (a + ((k - 1 : Nat) : Int)) + 1 = phys T (a + k) := by
          unfold phys
          have hd : (a + ((k - 1 : Nat) : Int)) / 512 = (a + k) / 512 := by omega
          rw [hd]
          generalize tbF T ((a + k) / 512) = z at *
          omega
        refine ⟨hadd _ fun q => ?_, .inr ⟨L0, _, rfl, ?_, e2, by show 1 ≤ s.2.1 + 1; omega, by omega⟩⟩
        · constructor
          · rintro ⟨t, ht, h1, h2⟩
            rcases List.mem_append.1 ht with e | e
            · exact .inl ⟨t, List.mem_append_left _ e, h1, h2⟩
            · simp only [List.mem_singleton] at e
              subst e
              have h1 : s.1 ≤ q := h1
              have h2 : q < s.1 + (s.2.1 + 1) := h2
              by_cases e5 : q < s.1 + s.2.1
              · exact .inl ⟨s, List.mem_append_right _ (List.mem_singleton.2 rfl), h1, e5⟩
              · exact .inr (by omega)
          · rintro (⟨t, ht, h1, h2⟩ | e)
            · rcases List.mem_append.1 ht with e | e
              · exact ⟨t, List.mem_append_left _ e, h1, h2⟩
              · simp only [List.mem_singleton] at e
                subst e
                exact ⟨_, List.mem_append_right _ (List.mem_singleton.2 rfl), by show t.1 ≤ q ∧ q < t.1 + (t.2.1 + 1); omega⟩
            · exact ⟨_, List.mem_append_right _ (List.mem_singleton.2 rfl), by show s.1 ≤ q ∧ q < s.1 + (s.2.1 + 1); omega⟩
        · show s.1 + (s.2.1 + 1) = _
          rw [Nat.add_sub_cancel]
          omega
theorem pcs_read : ∀ (k : Nat) (L : List Sq), pcs T a k = some L → (∀ i : Nat, i < k → phys T (a + i) < bs.length) → rdB bs L = (List.range k).map fun i : Nat => lb T bs (a + i)
  | 0, L, h, _ => by
    unfold pcs at h
    simp only [Option.some.injEq] at h
    subst h
    rfl
  | k + 1, L, h, hb => by
    cases hp : pcs T a k with
    | none => rw [pcs_none hp (by omega)] at h; cases h
    | some M =>
      have ih := pcs_read k M hp fun i hi => hb i (by omega)
      have il := (pcs_phys k M hp).2
      have hbk := hb k (by omega)
      by_cases hf : tbF T ((a + k) / 512) < 0
      · rw [pcs_stop hf (by omega)] at h; cases h
      have h0 : 0 ≤ phys T (a + k) := by
        unfold phys
        generalize tbF T ((a + k) / 512) = z at *
        omega
      have hlb : bs[(phys T (a + k)).toNat]? = some (lb T bs (a + k)) := by
        unfold lb
        rw [List.getElem?_eq_getElem (by omega)]
        rfl
      rw [List.range_succ, List.map_append]
      by_cases hk : k = 0 ∨ (a + k) % 512 = 0
      · rw [pcs_new hp hf hk] at h
        simp only [Option.some.injEq] at h
        subst h
        rw [hp_rdB_snoc, ih]
        congr 1
        show (bs.drop (phys T (a + k)).toNat).take 1 = [lb T bs (a + k)]
        apply List.ext_getElem?
        intro i
        by_cases e : i < 1
        · obtain rfl : i = 0 := by omega
          rw [List.getElem?_take_of_lt (by omega), List.getElem?_drop, Nat.add_zero, hlb]; rfl
        · rw [List.getElem?_eq_none (by simp; omega), List.getElem?_eq_none (by simp; omega)]
      · rw [pcs_more hp hf hk] at h
        simp only [Option.some.injEq] at h
        subst h
        rcases il with ⟨e, _⟩ | ⟨L0, s, rfl, e1, e2, e3, e4⟩
        · exact (hk (.inl e)).elim
        have hnext : phys T (a + ((k - 1 : Nat) : Int)) + 1 = phys T (a + k) := by
          unfold phys
          have hd : (a + ((k - 1 : Nat) : Int)) / 512 = (a + k) / 512 := by omega
          rw [hd]
          generalize tbF T ((a + k) / 512) = z at *
          omega
        rw [bump_snoc, hp_rdB_snoc, ← ih, hp_rdB_snoc, List.append_assoc]
        congr 1
        show (bs.drop s.1.toNat).take (s.2.1 + 1).toNat = (bs.drop s.1.toNat).take s.2.1.toNat ++ [lb T bs (a + k)]
        rw [show (s.2.1 + 1).toNat = s.2.1.toNat + 1 by omega, List.take_add_one, List.getElem?_drop, show s.1.toNat + s.2.1.toNat = (phys T (a + k)).toNat by omega, hlb]
        rfl
end
structure Seen17 (T : Tb) (N : Nat) (a : Int) (n : Nat) : Prop where
  ok : VwOk T N a n
  pc : pcs T a n = some (piL T a n)
  at_ : ∀ i : Nat, i < n → ¬ tbF T ((a + i) / 512) < 0 ∧ 0 ≤ phys T (a + i) ∧ phys T (a + i) < N
section
variable {T : Tb} {a : Int} {n N : Nat} {bs ds : List UInt8}
theorem seen_of (hw : InWt a n) (hp : ∀ i : Nat, i < n → ¬ tbF T ((a + i) / 512) < 0 ∧ phys T (a + i) < N) : Seen17 T N a n := by
  obtain ⟨L, hL⟩ := pcs_all (T := T) (a := a) n fun i hi => (hp i hi).1
  have hL' : pcs T a (n : Int).toNat = some L := hL
  obtain ⟨e1, e2⟩ := pi_yes hw hL'
  have hph := (pcs_phys n L hL).1
  have h0 : ∀ i : Nat, i < n → 0 ≤ phys T (a + i) := fun i hi => by
    have := (hp i hi).1
    unfold phys
    generalize tbF T ((a + i) / 512) = z at *
    omega
  refine ⟨⟨e2, fun s hs => ?_⟩, by rw [e1]; exact hL, fun i hi => ⟨(hp i hi).1, h0 i hi, (hp i hi).2⟩⟩
  rw [e1] at hs
  have pk := pcs_ok (T := T) (a := a) (by have := hw.2.1; omega) n L hL
  obtain ⟨j, hj, rfl⟩ := List.getElem_of_mem hs
  obtain ⟨_, a2, _⟩ := pk.all j hj
  obtain ⟨i, hi, e⟩ := (hph (L[j].1 + L[j].2.1 - 1)).1 ⟨_, hs, by omega, by omega⟩
  have := (hp i hi).2
  omega
theorem Seen17.read (h : Seen17 T bs.length a n) : vrV T bs a n = (List.range n).map fun i : Nat => lb T bs (a + i) := by
  unfold vrV
  rw [if_pos h.ok]
  exact pcs_read n _ h.pc fun i hi => (h.at_ i hi).2.2
theorem Seen17.apt (h : Seen17 T N a n) (ok : TbOk T) : Apt N (piL T a n) ∧ lenL (piL T a n) = n := by
  obtain ⟨h1, h2, _⟩ := h.ok.apt ok
  exact ⟨h1, by rw [h2]; rfl⟩
theorem Seen17.wr (h : Seen17 T bs.length a n) (hd : ds.length = n) : vwB T bs a ds = wrB bs (piL T a n) ds := by
  unfold vwB
  rw [hd, if_pos h.ok]
theorem Seen17.wlen (h : Seen17 T bs.length a n) (ok : TbOk T) (hd : ds.length = n) : (vwB T bs a ds).length = bs.length := by rw [h.wr hd]; exact wrB_length (h.apt ok).1
theorem Seen17.far (h : Seen17 T bs.length a n) (ok : TbOk T) (hd : ds.length = n) (q : Nat) (hq : ∀ i : Nat, i < n → (q : Int) ≠ phys T (a + i)) : (vwB T bs a ds)[q]? = bs[q]? := by
  rw [h.wr hd]
  refine wrB_far (h.apt ok).1 q fun s hs => ?_
  by_cases e : (q : Int) < s.1 ∨ s.1 + s.2.1 ≤ q
  · exact e
  · obtain ⟨i, hi, e2⟩ := ((pcs_phys n _ h.pc).1 q).1 ⟨s, hs, by omega, by omega⟩
    exact (hq i hi e2).elim
theorem Seen17.same (h : Seen17 T bs.length a n) (ok : TbOk T) (hd : ds.length = n) : (List.range n).map (fun i : Nat => lb T (vwB T bs a ds) (a + i)) = ds := by
  have h2 : Seen17 T (vwB T bs a ds).length a n := by rw [h.wlen ok hd]; exact h
  rw [← pcs_read n _ h2.pc fun i hi => (h2.at_ i hi).2.2, h.wr hd]
  exact rd_wr (h.apt ok).1 (by rw [(h.apt ok).2]; exact hd)
theorem phys_one (ok : TbOk T) {b : Int} (ha : ¬ tbF T (a / 512) < 0) (hb : ¬ tbF T (b / 512) < 0) (e : phys T a = phys T b) : a = b := by
  unfold phys at e
  have h1 := ok.f_some ha
  have h2 := ok.f_some hb
  have e2 : tbF T (a / 512) = tbF T (b / 512) := by omega
  have h3 := tbH_mem ok h1
  rw [e2, tbH_mem ok h2] at h3
  omega
theorem win_ext {bs bs' : List UInt8} {b : Nat} (h : ∀ i, i < 512 → bs'[b + i]? = bs[b + i]?) : win bs' b = win bs b := by
  apply List.ext_getElem?
  intro i
  by_cases hi : i < 512
  · rw [win_get? _ _ _ hi, win_get? _ _ _ hi]; exact h i hi
  · unfold win
    rw [List.getElem?_eq_none (by simp; omega), List.getElem?_eq_none (by simp; omega)]
theorem rep_ext {k : Ck} {bs bs' : List UInt8} : ∀ {L : List Nat}, (∀ x ∈ L, ∀ i, i < 8 → bs'[k.pos x + i]? = bs[k.pos x + i]?) → Rep k bs L → Rep k bs' L
  | [], _, _ => trivial
  | x :: L, h, ⟨h1, h2⟩ => by
    refine ⟨?_, rep_ext (fun y hy => h y (List.mem_cons_of_mem _ hy)) h2⟩
    rw [← h1]
    unfold wd
    congr 1
    apply List.ext_getElem?
    intro i
    by_cases hi : i < 8
    · rw [List.getElem?_take_of_lt hi, List.getElem?_take_of_lt hi, List.getElem?_drop, List.getElem?_drop]
      exact h x (List.mem_cons_self ..) i hi
    · rw [List.getElem?_eq_none (by simp; omega), List.getElem?_eq_none (by simp; omega)]
theorem Pg.Ok.had_write {g : Pg} {bs bs' : List UInt8} (h : g.Ok bs) (hc : g.Clean bs) {j : Nat} (hj : j < pp g.kind) (hh : g.Had j) (hl : bs'.length = bs.length) (hf : ∀ i, g.base ≤ i → i < g.base + 512 → (i < g.pos j ∨ g.pos j + pu g.kind ≤ i) → bs'[i]? = bs[i]?) : g.Ok bs' ∧ g.Clean bs' := by
  obtain ⟨⟨u1, _⟩, _⟩ := kind_facts g.kind h.kind
  have hch : ∀ x, x < pp g.kind → x ≠ j → ∀ i, i < 8 → bs'[g.pos x + i]? = bs[g.pos x + i]? := fun x hx hne i hi => by
    have h1 := h.block hx
    have h2 := Pg.apart (g := g) hne
    exact hf _ (by omega) (by omega) (by omega)
  refine ⟨⟨h.kind, h.mod, by rw [hl]; exact h.fit, rep_ext (fun x hx i hi => hch x (h.lr x hx) (fun e => hh.2.1 (e ▸ hx)) i hi) h.r, rep_ext (fun x hx i hi => hch x (h.ld x hx) (fun e => hh.2.2 (e ▸ hx)) i hi) h.d, h.nd, h.lt, h.fr⟩, fun i h1 h2 hne => ?_⟩
  by_cases e : i < g.pos j ∨ g.pos j + pu g.kind ≤ i
  · rw [hf i h1 h2 e] at hne
    exact hc i h1 h2 hne
  · exact ⟨j, hj, .inl ⟨hh, by omega, by omega⟩⟩
end
section
variable {C : Nat → Prop} {M : Ms} {H : Hp} {x : Hd} {j : Nat} {ds : List UInt8}
theorem blk_at (hc : x.kind ≤ 23) (hs : x.slot < sn x.kind) (hj : j < (nuI x.kind).toNat) {i : Nat} (hi : i < (unitI x.kind).toNat) : ∃ t : Nat, t < pn x.kind ∧ (adI x.kind x.slot j + i) / 512 = lo x.kind x.slot + t := by
  obtain ⟨p1, p2, p3, p4, p5, _⟩ := pn_facts hc
  obtain ⟨f1, f2, f3, f4, _⟩ := pl_facts (c := x.kind) (by omega) (by omega)
  have pt : PlT x.kind x.slot j := ⟨by omega, by rw [p5]; omega, by omega, by omega⟩
  have l := pt.lies
  have hsb : sbI x.kind = (pn x.kind : Int) * 512 := by unfold sbI; rw [p4]
  have had : adI x.kind x.slot j = lo x.kind x.slot * 512 + j * unitI x.kind := by
    rw [lo_eq hc]
    unfold adI
    rw [hsb, show (x.slot : Int) * ((pn x.kind : Int) * 512) = ((x.slot * pn x.kind : Nat) : Int) * 512 by rw [Int.natCast_mul, Int.mul_assoc]]
    omega
  rw [had]
  rw [hsb] at l
  generalize (j : Int) * unitI x.kind = z at *
  exact ⟨((z + i) / 512).toNat, by omega, by omega⟩
theorem blk_seen (h : HpOk C M H) (ok : MsOk M) (hx : x ∈ H.L) (hj : j < (nuI x.kind).toNat) : Seen17 H.T M.bs.length (adI x.kind x.slot j) (unitI x.kind).toNat := by
  obtain ⟨c1, c2⟩ := h.at_ x hx
  obtain ⟨p1, p2, p3, p4, p5, _⟩ := pn_facts c1
  obtain ⟨f1, f2, f3, f4, _⟩ := pl_facts (c := x.kind) (by omega) (by omega)
  have pt : PlT x.kind x.slot j := ⟨by omega, by rw [p5]; omega, by omega, by omega⟩
  have hin := pt.inside
  refine seen_of ⟨by omega, by omega, by omega, by omega⟩ fun i hi => ?_
  obtain ⟨t, ht, e⟩ := blk_at c1 c2 hj hi
  have hv := h.cov x hx t ht
  refine ⟨by rw [e]; exact hv, ?_⟩
  unfold phys
  rw [e]
  have hm := h.tp.tb.f_some hv
  have hk := (h.tp.tk _ hm).2.1
  have hl := ok.len
  simp only at hk
  generalize tbF H.T (lo x.kind x.slot + t) = z at *
  omega
theorem small_phys (h : HpOk C M H) (hx : x ∈ H.L) (h7 : x.kind ≤ 7) (hj : j < pp x.kind) {i : Nat} (hi : i < pu x.kind) : phys H.T (adI x.kind x.slot j + i) = ((x.pg.pos j + i : Nat) : Int) := by
  have hs := h.sm x hx h7
  obtain ⟨q, e1, m1⟩ := hs.page h.tp.tb
  obtain ⟨c1, c2⟩ := h.at_ x hx
  have p1 := ((pn_facts c1).2.2.2.2.2 h7).1
  obtain ⟨k1, k2, k3, k4, k5⟩ := kind_facts x.kind h7
  have hq : tbF H.T (lo x.kind x.slot) = (q : Int) := tbF_mem h.tp.tb m1
  have hgp : x.pg.pos j = q * 512 + j * pu x.kind := by unfold Pg.pos; rw [e1, hs.kd]
  have had : adI x.kind x.slot j = lo x.kind x.slot * 512 + ((j * pu x.kind : Nat) : Int) := by
    unfold lo adI
    rw [k4, Int.natCast_mul]
    have : ((x.kind : Int) + 1) * 131072 + (x.slot : Int) * sbI x.kind = (((x.kind : Int) + 1) * 131072 + (x.slot : Int) * sbI x.kind + 0 * (pu x.kind : Int)) / 512 * 512 := by
      have hsb : sbI x.kind = 512 := by unfold sbI; rw [(pn_facts c1).2.2.2.1, p1]; rfl
      rw [hsb]; omega
    rw [← this]
  have hjl : j * pu x.kind + pu x.kind ≤ 512 := by
    have h3 : (j + 1) * pu x.kind ≤ pp x.kind * pu x.kind := Nat.mul_le_mul_right _ hj
    rw [Nat.add_mul, Nat.one_mul, Nat.mul_comm (pp x.kind)] at h3
    omega
  unfold phys
  rw [had, hgp]
  generalize j * pu x.kind = z at *
  have e5 : (lo x.kind x.slot * 512 + (z : Int) + i) / 512 = lo x.kind x.slot := by omega
  rw [e5, hq]
  omega
theorem HpOk.write (h : HpOk C M H) (ok : MsOk M) (hx : x ∈ H.L) (hj : j < (nuI x.kind).toNat) (hh : x.kind ≤ 7 → x.pg.Had j) (hd : ds.length = (unitI x.kind).toNat) {ss' : List Sp} : Left17 C M H ⟨M.has, vwB H.T M.bs (adI x.kind x.slot j) ds, ss'⟩ H := by
  have sn := blk_seen h ok hx hj
  obtain ⟨c1, c2⟩ := h.at_ x hx
  have hl := sn.wlen h.tp.tb hd
  have hfar := fun q hq => sn.far (ds := ds) h.tp.tb hd q hq
  have hpage : ∀ i : Nat, i < (unitI x.kind).toNat → ∃ t : Nat, t < pn x.kind ∧ phys H.T (adI x.kind x.slot j + i) / 512 = tbF H.T (lo x.kind x.slot + t) := fun i hi => by
    obtain ⟨t, ht, e⟩ := blk_at c1 c2 hj hi
    refine ⟨t, ht, ?_⟩
    unfold phys
    rw [e]
    generalize tbF H.T (lo x.kind x.slot + t) = z
    omega
  generalize vwB H.T M.bs (adI x.kind x.slot j) ds = bs' at *
  have hwin : ∀ q : Nat, (∀ t : Nat, t < pn x.kind → (q : Int) ≠ tbF H.T (lo x.kind x.slot + t)) → win bs' (q * 512) = win M.bs (q * 512) := fun q hq => win_ext fun i hi => hfar _ fun i' hi' e => by
    obtain ⟨t, ht, e2⟩ := hpage i' hi'
    exact hq t ht (by omega)
  have hmem : ∀ t : Nat, t < pn x.kind → (lo x.kind x.slot + t, tbF H.T (lo x.kind x.slot + t)) ∈ H.T := fun t ht => h.tp.tb.f_some (h.cov x hx t ht)
  have hout : ∀ q : Nat, ¬ Pgs H.T q → win bs' (q * 512) = win M.bs (q * 512) := fun q hq => hwin q fun t ht e => hq ⟨_, by rw [e]; exact hmem t ht⟩
  refine ⟨⟨h.tp, h.nd, h.at_, h.dom, h.cov, fun y hy h7 => ?_, h.ln⟩, ⟨by rw [← ok.len]; exact hl, ok.cap, fun q hq hf => ?_⟩, ⟨rfl, hl, fun q hq q1 _ => ⟨rfl, hout q q1⟩, fun q q1 q2 => (q2 q1).elim, fun q q1 q2 => (q2 q1).elim⟩, id⟩
  · have hs := h.sm y hy h7
    obtain ⟨q, e1, m1⟩ := hs.page h.tp.tb
    by_cases e : y.kind = x.kind ∧ y.slot = x.slot
    · obtain rfl := slot_one h.nd hy hx e.1 e.2
      have p1 := ((pn_facts c1).2.2.2.2.2 h7).1
      obtain ⟨k1, k2, k3, k4, k5⟩ := kind_facts y.kind h7
      have hnu : (nuI y.kind).toNat = pp y.kind := by unfold nuI; rw [k5, if_neg (by omega)]; simp
      have hun : (unitI y.kind).toNat = pu y.kind := rfl
      have hq : tbF H.T (lo y.kind y.slot) = (q : Int) := tbF_mem h.tp.tb m1
      have hkd := hs.kd
      have hgp : y.pg.pos j = q * 512 + j * pu y.kind := by unfold Pg.pos; rw [e1, hkd]
      have hph : ∀ i : Nat, i < pu y.kind → phys H.T (adI y.kind y.slot j + i) = ((y.pg.pos j + i : Nat) : Int) := fun i hi => by
        have had : adI y.kind y.slot j = lo y.kind y.slot * 512 + ((j * pu y.kind : Nat) : Int) := by
          unfold lo adI
          rw [k4, Int.natCast_mul]
          have : ((y.kind : Int) + 1) * 131072 + (y.slot : Int) * sbI y.kind = (((y.kind : Int) + 1) * 131072 + (y.slot : Int) * sbI y.kind + 0 * (pu y.kind : Int)) / 512 * 512 := by
            have hsb : sbI y.kind = 512 := by unfold sbI; rw [(pn_facts c1).2.2.2.1, p1]; rfl
            rw [hsb]; omega
          rw [← this]
        have hjl : j * pu y.kind + pu y.kind ≤ 512 := by
          have h3 : (j + 1) * pu y.kind ≤ pp y.kind * pu y.kind := Nat.mul_le_mul_right _ (by rw [hnu] at hj; exact hj)
          rw [Nat.add_mul, Nat.one_mul, Nat.mul_comm (pp y.kind)] at h3
          omega
        unfold phys
        rw [had, hgp]
        generalize j * pu y.kind = z at *
        have e5 : (lo y.kind y.slot * 512 + (z : Int) + i) / 512 = lo y.kind y.slot := by omega
        rw [e5, hq]
        omega
      have hw := hs.ok.had_write hs.cl (j := j) (by rw [hkd, ← hnu]; exact hj) (hh h7) hl fun i i1 i2 i3 => hfar i fun i' hi' e5 => by
        rw [hph i' hi'] at e5
        rw [hkd] at i3
        rw [hun] at hi'
        omega
      exact ⟨hw.1, hw.2, hs.kd, hs.at_⟩
    · refine hs.ext hl ?_ rfl
      rw [e1]
      refine hwin q fun t ht e5 => e ?_
      have e6 := tbH_mem h.tp.tb m1
      rw [e5, tbH_mem h.tp.tb (hmem t ht)] at e6
      obtain ⟨b1, b2⟩ := h.at_ y hy
      have p2 := (pn_facts b1).1.1
      have := lo_one b1 b2 c1 c2 (i := 0) (i' := t) (by omega) ht (by rw [e6]; simp)
      exact ⟨this.1, this.2.1⟩
  · show win bs' (q * 512) = nz 512
    rw [hout q (h.tp.free hf)]
    exact ok.cl q hq hf
end
end Go.Proofs.YtioplfbkfokkfaaGreatDoor
