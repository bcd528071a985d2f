/-
  A tenant's blocks seen through the table: mathematics. What is written into a block that is had leaves the heap right.
  Which blocks are had: mathematics.
-/
import Derived.Test.YtejbdbjccjkfdaaGreatDoorHpMove
import Derived.Test.YtejbdbjccjkfdaaGreatDoorViBase
import Derived.Test.YtejbdbjccjkfdaaGreatDoorHpAwake
namespace Go.Proofs.YtejbdbjccjkfdaaGreatDoor
open Go.RowKit
open An

/-- Where a local byte lies; what it is. -/
def phys (T : Tb) (a : Int) : Int := tbF T (a / 512) * 512 + a % 512
def lb (T : Tb) (bs : List UInt8) (a : Int) : UInt8 := bs[(phys T a).toNat]?.getD 0
section
variable {T : Tb} {a : Int} {bs bs' ds : List UInt8}
theorem pcs_all : ∀ k : Nat, (∀ i : Nat, i < k → ¬ tbF T ((a + i) / 512) < 0) → ∃ L, pcs T a k = some L
  | 0, _ => ⟨[], rfl⟩
  | k + 1, h => by
    obtain ⟨L, hL⟩ := pcs_all k fun i hi => h i (by omega)
    by_cases e : k = 0 ∨ (a + k) % 512 = 0
    · exact ⟨_, pcs_new hL (h k (by omega)) e⟩
    · exact ⟨_, pcs_more hL (h k (by omega)) e⟩
theorem hp_rdB_snoc (bs : List UInt8) (s : Sq) : ∀ L : List Sq, rdB bs (L ++ [s]) = rdB bs L ++ (bs.drop s.1.toNat).take s.2.1.toNat
  | [] => by simp [rdB]
  | t :: r => by simp only [List.cons_append, rdB, hp_rdB_snoc bs s r, List.append_assoc]
/-- The pieces, byte by byte. -/
theorem pcs_phys : ∀ (k : Nat) (L : List Sq), pcs T a k = some L → (∀ q : Int, (∃ s ∈ L, s.1 ≤ q ∧ q < s.1 + s.2.1) ↔ ∃ i : Nat, i < k ∧ q = phys T (a + i)) ∧ ((k = 0 ∧ L = []) ∨ ∃ L0 s, L = L0 ++ [s] ∧ s.1 + s.2.1 = phys T (a + ((k - 1 : Nat) : Int)) + 1 ∧ 0 ≤ s.1 ∧ 1 ≤ s.2.1 ∧ 0 < k)
  | 0, L, h => by
    unfold pcs at h
    simp only [Option.some.injEq] at h
    subst h
    refine ⟨fun q => ⟨fun ⟨s, hs, _⟩ => (by cases hs), fun ⟨i, hi, _⟩ => by omega⟩, .inl ⟨rfl, rfl⟩⟩
  | k + 1, L, h => by
    cases hp : pcs T a k with
    | none => rw [pcs_none hp (by omega)] at h; cases h
    | some M =>
      obtain ⟨ih, il⟩ := pcs_phys k M hp
      by_cases hf : tbF T ((a + k) / 512) < 0
      · rw [pcs_stop hf (by omega)] at h; cases h
      have hadd : ∀ (L' : List Sq), (∀ q : Int, (∃ s ∈ L', s.1 ≤ q ∧ q < s.1 + s.2.1) ↔ (∃ s ∈ M, s.1 ≤ q ∧ q < s.1 + s.2.1) ∨ q = phys T (a + k)) → ∀ q : Int, (∃ s ∈ L', s.1 ≤ q ∧ q < s.1 + s.2.1) ↔ ∃ i : Nat, i < k + 1 ∧ q = phys T (a + i) := fun L' hL q => by
        rw [hL q, ih q]
        constructor
        · rintro (⟨i, hi, e⟩ | e)
          · exact ⟨i, by omega, e⟩
          · exact ⟨k, by omega, e⟩
        · rintro ⟨i, hi, e⟩
          by_cases e2 : i = k
          · subst e2; exact .inr e
          · exact .inl ⟨i, by omega, e⟩
      by_cases hk : k = 0 ∨ (a + k) % 512 = 0
      · rw [pcs_new hp hf hk] at h
        simp only [Option.some.injEq] at h
        subst h
        refine ⟨hadd _ fun q => ?_, .inr ⟨M, _, rfl, ?_, ?_, by show (1 : Int) ≤ 1; omega, by omega⟩⟩
        · constructor
          · rintro ⟨s, hs, h1, h2⟩
            rcases List.mem_append.1 hs with e | e
            · exact .inl ⟨s, e, h1, h2⟩
            · simp only [List.mem_singleton] at e
              subst e
              have h1 : phys T (a + k) ≤ q := h1
              have h2 : q < phys T (a + k) + 1 := h2
              exact .inr (by omega)
          · rintro (⟨s, hs, h1⟩ | e)
            · exact ⟨s, List.mem_append_left _ hs, h1⟩
            · exact ⟨_, List.mem_append_right _ (List.mem_singleton.2 rfl), by show phys T (a + k) ≤ q ∧ q < phys T (a + k) + 1; omega⟩
        · rw [Nat.add_sub_cancel]; rfl
        · show 0 ≤ tbF T ((a + k) / 512) * 512 + (a + k) % 512
          generalize tbF T ((a + k) / 512) = z at *
          omega
      · rw [pcs_more hp hf hk] at h
        simp only [Option.some.injEq] at h
        subst h
        rcases il with ⟨e, _⟩ | ⟨L0, s, rfl, e1, e2, e3, e4⟩
        · exact (hk (.inl e)).elim
        rw [bump_snoc]
        have hnext : phys T (a + ((k - 1 : Nat) : Int)) + 1 = phys T (a + k) := by
          unfold phys
          have hd : (a + ((k - 1 : Nat) : Int)) / 512 = (a + k) / 512 := by omega
          rw [hd]
          generalize tbF T ((a + k) / 512) = z at *
          omega
        refine ⟨hadd _ fun q => ?_, .inr ⟨L0, _, rfl, ?_, e2, by show 1 ≤ s.2.1 + 1; omega, by omega⟩⟩
        · constructor
          · rintro ⟨t, ht, h1, h2⟩
            rcases List.mem_append.1 ht with e | e
            · exact .inl ⟨t, List.mem_append_left _ e, h1, h2⟩
            · simp only [List.mem_singleton] at e
              subst e
              have h1 : s.1 ≤ q := h1
              have h2 : q < s.1 + (s.2.1 + 1) := h2
              by_cases e5 : q < s.1 + s.2.1
              · exact .inl ⟨s, List.mem_append_right _ (List.mem_singleton.2 rfl), h1, e5⟩
              · exact .inr (by omega)
          · rintro (⟨t, ht, h1, h2⟩ | e)
            · rcases List.mem_append.1 ht with e | e
              · exact ⟨t, List.mem_append_left _ e, h1, h2⟩
              · simp only [List.mem_singleton] at e
                subst e
                exact ⟨_, List.mem_append_right _ (List.mem_singleton.2 rfl), by show t.1 ≤ q ∧ q < t.1 + (t.2.1 + 1); omega⟩
            · exact ⟨_, List.mem_append_right _ (List.mem_singleton.2 rfl), by show s.1 ≤ q ∧ q < s.1 + (s.2.1 + 1); omega⟩
        · show s.1 + (s.2.1 + 1) = _
          rw [Nat.add_sub_cancel]
          omega
theorem pcs_read : ∀ (k : Nat) (L : List Sq), pcs T a k = some L → (∀ i : Nat, i < k → phys T (a + i) < bs.length) → rdB bs L = (List.range k).map fun i : Nat => lb T bs (a + i)
  | 0, L, h, _ => by
    unfold pcs at h
    simp only [Option.some.injEq] at h
    subst h
    rfl
  | k + 1, L, h, hb => by
    cases hp : pcs T a k with
    | none => rw [pcs_none hp (by omega)] at h; cases h
    | some M =>
      have ih := pcs_read k M hp fun i hi => hb i (by omega)
      have il := (pcs_phys k M hp).2
      have hbk := hb k (by omega)
      by_cases hf : tbF T ((a + k) / 512) < 0
      · rw [pcs_stop hf (by omega)] at h; cases h
      have h0 : 0 ≤ phys T (a + k) := by
        unfold phys
        generalize tbF T ((a + k) / 512) = z at *
        omega
      have hlb : bs[(phys T (a + k)).toNat]? = some (lb T bs (a + k)) := by
        unfold lb
        rw [List.getElem?_eq_getElem (by omega)]
        rfl
      rw [List.range_succ, List.map_append]
      by_cases hk : k = 0 ∨ (a + k) % 512 = 0
      · rw [pcs_new hp hf hk] at h
        simp only [Option.some.injEq] at h
        subst h
        rw [hp_rdB_snoc, ih]
        congr 1
        show (bs.drop (phys T (a + k)).toNat).take 1 = [lb T bs (a + k)]
        apply List.ext_getElem?
        intro i
        by_cases e : i < 1
        · obtain rfl : i = 0 := by omega
          rw [List.getElem?_take_of_lt (by omega), List.getElem?_drop, Nat.add_zero, hlb]; rfl
        · rw [List.getElem?_eq_none (by simp; omega), List.getElem?_eq_none (by simp; omega)]
      · rw [pcs_more hp hf hk] at h
        simp only [Option.some.injEq] at h
        subst h
        rcases il with ⟨e, _⟩ | ⟨L0, s, rfl, e1, e2, e3, e4⟩
        · exact (hk (.inl e)).elim
        have hnext : phys T (a + ((k - 1 : Nat) : Int)) + 1 = phys T (a + k) := by
          unfold phys
          have hd : (a + ((k - 1 : Nat) : Int)) / 512 = (a + k) / 512 := by omega
          rw [hd]
          generalize tbF T ((a + k) / 512) = z at *
          omega
        rw [bump_snoc, hp_rdB_snoc, ← ih, hp_rdB_snoc, List.append_assoc]
        congr 1
        show (bs.drop s.1.toNat).take (s.2.1 + 1).toNat = (bs.drop s.1.toNat).take s.2.1.toNat ++ [lb T bs (a + k)]
        rw [show (s.2.1 + 1).toNat = s.2.1.toNat + 1 by omega, List.take_add_one, List.getElem?_drop, show s.1.toNat + s.2.1.toNat = (phys T (a + k)).toNat by omega, hlb]
        rfl
end
/-- What a view may be asked of. -/
structure Seen17 (T : Tb) (N : Nat) (a : Int) (n : Nat) : Prop where
  ok : VwOk T N a n
  pc : pcs T a n = some (piL T a n)
  at_ : ∀ i : Nat, i < n → ¬ tbF T ((a + i) / 512) < 0 ∧ 0 ≤ phys T (a + i) ∧ phys T (a + i) < N
section
variable {T : Tb} {a : Int} {n N : Nat} {bs ds : List UInt8}
theorem seen_of (hw : InWt a n) (hp : ∀ i : Nat, i < n → ¬ tbF T ((a + i) / 512) < 0 ∧ phys T (a + i) < N) : Seen17 T N a n := by
  obtain ⟨L, hL⟩ := pcs_all (T := T) (a := a) n fun i hi => (hp i hi).1
  have hL' : pcs T a (n : Int).toNat = some L := hL
  obtain ⟨e1, e2⟩ := pi_yes hw hL'
  have hph := (pcs_phys n L hL).1
  have h0 : ∀ i : Nat, i < n → 0 ≤ phys T (a + i) := fun i hi => by
    have := (hp i hi).1
    unfold phys
    generalize tbF T ((a + i) / 512) = z at *
    omega
  refine ⟨⟨e2, fun s hs => ?_⟩, by rw [e1]; exact hL, fun i hi => ⟨(hp i hi).1, h0 i hi, (hp i hi).2⟩⟩
  rw [e1] at hs
  have pk := pcs_ok (T := T) (a := a) (by have := hw.2.1; omega) n L hL
  obtain ⟨j, hj, rfl⟩ := List.getElem_of_mem hs
  obtain ⟨_, a2, _⟩ := pk.all j hj
  obtain ⟨i, hi, e⟩ := (hph (L[j].1 + L[j].2.1 - 1)).1 ⟨_, hs, by omega, by omega⟩
  have := (hp i hi).2
  omega
theorem Seen17.read (h : Seen17 T bs.length a n) : vrV T bs a n = (List.range n).map fun i : Nat => lb T bs (a + i) := by
  unfold vrV
  rw [if_pos h.ok]
  exact pcs_read n _ h.pc fun i hi => (h.at_ i hi).2.2
theorem Seen17.apt (h : Seen17 T N a n) (ok : TbOk T) : Apt N (piL T a n) ∧ lenL (piL T a n) = n := by
  obtain ⟨h1, h2, _⟩ := h.ok.apt ok
  exact ⟨h1, by rw [h2]; rfl⟩
theorem Seen17.wr (h : Seen17 T bs.length a n) (hd : ds.length = n) : vwB T bs a ds = wrB bs (piL T a n) ds := by
  unfold vwB
  rw [hd, if_pos h.ok]
theorem Seen17.wlen (h : Seen17 T bs.length a n) (ok : TbOk T) (hd : ds.length = n) : (vwB T bs a ds).length = bs.length := by rw [h.wr hd]; exact wrB_length (h.apt ok).1
theorem Seen17.far (h : Seen17 T bs.length a n) (ok : TbOk T) (hd : ds.length = n) (q : Nat) (hq : ∀ i : Nat, i < n → (q : Int) ≠ phys T (a + i)) : (vwB T bs a ds)[q]? = bs[q]? := by
  rw [h.wr hd]
  refine wrB_far (h.apt ok).1 q fun s hs => ?_
  by_cases e : (q : Int) < s.1 ∨ s.1 + s.2.1 ≤ q
  · exact e
  · obtain ⟨i, hi, e2⟩ := ((pcs_phys n _ h.pc).1 q).1 ⟨s, hs, by omega, by omega⟩
    exact (hq i hi e2).elim
theorem Seen17.same (h : Seen17 T bs.length a n) (ok : TbOk T) (hd : ds.length = n) : (List.range n).map (fun i : Nat => lb T (vwB T bs a ds) (a + i)) = ds := by
  have h2 : Seen17 T (vwB T bs a ds).length a n := by rw [h.wlen ok hd]; exact h
  rw [← pcs_read n _ h2.pc fun i hi => (h2.at_ i hi).2.2, h.wr hd]
  exact rd_wr (h.apt ok).1 (by rw [(h.apt ok).2]; exact hd)
theorem phys_one (ok : TbOk T) {b : Int} (ha : ¬ tbF T (a / 512) < 0) (hb : ¬ tbF T (b / 512) < 0) (e : phys T a = phys T b) : a = b := by
  unfold phys at e
  have h1 := ok.f_some ha
  have h2 := ok.f_some hb
  have e2 : tbF T (a / 512) = tbF T (b / 512) := by omega
  have h3 := tbH_mem ok h1
  rw [e2, tbH_mem ok h2] at h3
  omega
theorem win_ext {bs bs' : List UInt8} {b : Nat} (h : ∀ i, i < 512 → bs'[b + i]? = bs[b + i]?) : win bs' b = win bs b := by
  apply List.ext_getElem?
  intro i
  by_cases hi : i < 512
  · rw [win_get? _ _ _ hi, win_get? _ _ _ hi]; exact h i hi
  · unfold win
    rw [List.getElem?_eq_none (by simp; omega), List.getElem?_eq_none (by simp; omega)]
/-- Bytes of one block that is had are others: the page is right still. -/
theorem rep_ext {k : Ck} {bs bs' : List UInt8} : ∀ {L : List Nat}, (∀ x ∈ L, ∀ i, i < 8 → bs'[k.pos x + i]? = bs[k.pos x + i]?) → Rep k bs L → Rep k bs' L
  | [], _, _ => trivial
  | x :: L, h, ⟨h1, h2⟩ => by
    refine ⟨?_, rep_ext (fun y hy => h y (List.mem_cons_of_mem _ hy)) h2⟩
    rw [← h1]
    unfold wd
    congr 1
    apply List.ext_getElem?
    intro i
    by_cases hi : i < 8
    · rw [List.getElem?_take_of_lt hi, List.getElem?_take_of_lt hi, List.getElem?_drop, List.getElem?_drop]
      exact h x (List.mem_cons_self ..) i hi
    · rw [List.getElem?_eq_none (by simp; omega), List.getElem?_eq_none (by simp; omega)]
theorem Pg.Ok.had_write {g : Pg} {bs bs' : List UInt8} (h : g.Ok bs) (hc : g.Clean bs) {j : Nat} (hj : j < pp g.kind) (hh : g.Had j) (hl : bs'.length = bs.length) (hf : ∀ i, g.base ≤ i → i < g.base + 512 → (i < g.pos j ∨ g.pos j + pu g.kind ≤ i) → bs'[i]? = bs[i]?) : g.Ok bs' ∧ g.Clean bs' := by
  obtain ⟨⟨u1, _⟩, _⟩ := kind_facts g.kind h.kind
  have hch : ∀ x, x < pp g.kind → x ≠ j → ∀ i, i < 8 → bs'[g.pos x + i]? = bs[g.pos x + i]? := fun x hx hne i hi => by
    have h1 := h.block hx
    have h2 := Pg.apart (g := g) hne
    exact hf _ (by omega) (by omega) (by omega)
  refine ⟨⟨h.kind, h.mod, by rw [hl]; exact h.fit, rep_ext (fun x hx i hi => hch x (h.lr x hx) (fun e => hh.2.1 (e ▸ hx)) i hi) h.r, rep_ext (fun x hx i hi => hch x (h.ld x hx) (fun e => hh.2.2 (e ▸ hx)) i hi) h.d, h.nd, h.lt, h.fr⟩, fun i h1 h2 hne => ?_⟩
  by_cases e : i < g.pos j ∨ g.pos j + pu g.kind ≤ i
  · rw [hf i h1 h2 e] at hne
    exact hc i h1 h2 hne
  · exact ⟨j, hj, .inl ⟨hh, by omega, by omega⟩⟩
end
section
variable {C : Nat → Prop} {M : Ms} {H : Hp} {x : Hd} {j : Nat} {ds : List UInt8}
/-- Where the bytes of a block lie. -/
theorem blk_at (hc : x.kind ≤ 23) (hs : x.slot < sn x.kind) (hj : j < (nuI x.kind).toNat) {i : Nat} (hi : i < (unitI x.kind).toNat) : ∃ t : Nat, t < pn x.kind ∧ (adI x.kind x.slot j + i) / 512 = lo x.kind x.slot + t := by
  obtain ⟨p1, p2, p3, p4, p5, _⟩ := pn_facts hc
  obtain ⟨f1, f2, f3, f4, _⟩ := pl_facts (c := x.kind) (by omega) (by omega)
  have pt : PlT x.kind x.slot j := ⟨by omega, by rw [p5]; omega, by omega, by omega⟩
  have l := pt.lies
  have hsb : sbI x.kind = (pn x.kind : Int) * 512 := by unfold sbI; rw [p4]
  have had : adI x.kind x.slot j = lo x.kind x.slot * 512 + j * unitI x.kind := by
    rw [lo_eq hc]
    unfold adI
    rw [hsb, show (x.slot : Int) * ((pn x.kind : Int) * 512) = ((x.slot * pn x.kind : Nat) : Int) * 512 by rw [Int.natCast_mul, Int.mul_assoc]]
    omega
  rw [had]
  rw [hsb] at l
  generalize (j : Int) * unitI x.kind = z at *
  exact ⟨((z + i) / 512).toNat, by omega, by omega⟩
theorem blk_seen (h : HpOk C M H) (ok : MsOk M) (hx : x ∈ H.L) (hj : j < (nuI x.kind).toNat) : Seen17 H.T M.bs.length (adI x.kind x.slot j) (unitI x.kind).toNat := by
  obtain ⟨c1, c2⟩ := h.at_ x hx
  obtain ⟨p1, p2, p3, p4, p5, _⟩ := pn_facts c1
  obtain ⟨f1, f2, f3, f4, _⟩ := pl_facts (c := x.kind) (by omega) (by omega)
  have pt : PlT x.kind x.slot j := ⟨by omega, by rw [p5]; omega, by omega, by omega⟩
  have hin := pt.inside
  refine seen_of ⟨by omega, by omega, by omega, by omega⟩ fun i hi => ?_
  obtain ⟨t, ht, e⟩ := blk_at c1 c2 hj hi
  have hv := h.cov x hx t ht
  refine ⟨by rw [e]; exact hv, ?_⟩
  unfold phys
  rw [e]
  have hm := h.tp.tb.f_some hv
  have hk := (h.tp.tk _ hm).2.1
  have hl := ok.len
  simp only at hk
  generalize tbF H.T (lo x.kind x.slot + t) = z at *
  omega
/-- The bytes of a small block lie in its page. -/
theorem small_phys (h : HpOk C M H) (hx : x ∈ H.L) (h7 : x.kind ≤ 7) (hj : j < pp x.kind) {i : Nat} (hi : i < pu x.kind) : phys H.T (adI x.kind x.slot j + i) = ((x.pg.pos j + i : Nat) : Int) := by
  have hs := h.sm x hx h7
  obtain ⟨q, e1, m1⟩ := hs.page h.tp.tb
  obtain ⟨c1, c2⟩ := h.at_ x hx
  have p1 := ((pn_facts c1).2.2.2.2.2 h7).1
  obtain ⟨k1, k2, k3, k4, k5⟩ := kind_facts x.kind h7
  have hq : tbF H.T (lo x.kind x.slot) = (q : Int) := tbF_mem h.tp.tb m1
  have hgp : x.pg.pos j = q * 512 + j * pu x.kind := by unfold Pg.pos; rw [e1, hs.kd]
  have had : adI x.kind x.slot j = lo x.kind x.slot * 512 + ((j * pu x.kind : Nat) : Int) := by
    unfold lo adI
    rw [k4, Int.natCast_mul]
    have : ((x.kind : Int) + 1) * 131072 + (x.slot : Int) * sbI x.kind = (((x.kind : Int) + 1) * 131072 + (x.slot : Int) * sbI x.kind + 0 * (pu x.kind : Int)) / 512 * 512 := by
      have hsb : sbI x.kind = 512 := by unfold sbI; rw [(pn_facts c1).2.2.2.1, p1]; rfl
      rw [hsb]; omega
    rw [← this]
  have hjl : j * pu x.kind + pu x.kind ≤ 512 := by
    have h3 : (j + 1) * pu x.kind ≤ pp x.kind * pu x.kind := Nat.mul_le_mul_right _ hj
    rw [Nat.add_mul, Nat.one_mul, Nat.mul_comm (pp x.kind)] at h3
    omega
  unfold phys
  rw [had, hgp]
  generalize j * pu x.kind = z at *
  have e5 : (lo x.kind x.slot * 512 + (z : Int) + i) / 512 = lo x.kind x.slot := by omega
  rw [e5, hq]
  omega
/-- What is written into a block that is had. -/
theorem HpOk.write (h : HpOk C M H) (ok : MsOk M) (hx : x ∈ H.L) (hj : j < (nuI x.kind).toNat) (hh : x.kind ≤ 7 → x.pg.Had j) (hd : ds.length = (unitI x.kind).toNat) {ss' : List Sp} : Left17 C M H ⟨M.has, vwB H.T M.bs (adI x.kind x.slot j) ds, ss'⟩ H := by
  have sn := blk_seen h ok hx hj
  obtain ⟨c1, c2⟩ := h.at_ x hx
  have hl := sn.wlen h.tp.tb hd
  have hfar := fun q hq => sn.far (ds := ds) h.tp.tb hd q hq
  have hpage : ∀ i : Nat, i < (unitI x.kind).toNat → ∃ t : Nat, t < pn x.kind ∧ phys H.T (adI x.kind x.slot j + i) / 512 = tbF H.T (lo x.kind x.slot + t) := fun i hi => by
    obtain ⟨t, ht, e⟩ := blk_at c1 c2 hj hi
    refine ⟨t, ht, ?_⟩
    unfold phys
    rw [e]
    generalize tbF H.T (lo x.kind x.slot + t) = z
    omega
  generalize vwB H.T M.bs (adI x.kind x.slot j) ds = bs' at *
  have hwin : ∀ q : Nat, (∀ t : Nat, t < pn x.kind → (q : Int) ≠ tbF H.T (lo x.kind x.slot + t)) → win bs' (q * 512) = win M.bs (q * 512) := fun q hq => win_ext fun i hi => hfar _ fun i' hi' e => by
    obtain ⟨t, ht, e2⟩ := hpage i' hi'
    exact hq t ht (by omega)
  have hmem : ∀ t : Nat, t < pn x.kind → (lo x.kind x.slot + t, tbF H.T (lo x.kind x.slot + t)) ∈ H.T := fun t ht => h.tp.tb.f_some (h.cov x hx t ht)
  have hout : ∀ q : Nat, ¬ Pgs H.T q → win bs' (q * 512) = win M.bs (q * 512) := fun q hq => hwin q fun t ht e => hq ⟨_, by rw [e]; exact hmem t ht⟩
  refine ⟨⟨h.tp, h.nd, h.at_, h.dom, h.cov, fun y hy h7 => ?_, h.ln⟩, ⟨by rw [← ok.len]; exact hl, ok.cap, fun q hq hf => ?_⟩, ⟨rfl, hl, fun q hq q1 _ => ⟨rfl, hout q q1⟩, fun q q1 q2 => (q2 q1).elim, fun q q1 q2 => (q2 q1).elim⟩, id⟩
  · have hs := h.sm y hy h7
    obtain ⟨q, e1, m1⟩ := hs.page h.tp.tb
    by_cases e : y.kind = x.kind ∧ y.slot = x.slot
    · obtain rfl := slot_one h.nd hy hx e.1 e.2
      have p1 := ((pn_facts c1).2.2.2.2.2 h7).1
      obtain ⟨k1, k2, k3, k4, k5⟩ := kind_facts y.kind h7
      have hnu : (nuI y.kind).toNat = pp y.kind := by unfold nuI; rw [k5, if_neg (by omega)]; simp
      have hun : (unitI y.kind).toNat = pu y.kind := rfl
      have hq : tbF H.T (lo y.kind y.slot) = (q : Int) := tbF_mem h.tp.tb m1
      have hkd := hs.kd
      have hgp : y.pg.pos j = q * 512 + j * pu y.kind := by unfold Pg.pos; rw [e1, hkd]
      have hph : ∀ i : Nat, i < pu y.kind → phys H.T (adI y.kind y.slot j + i) = ((y.pg.pos j + i : Nat) : Int) := fun i hi => by
        have had : adI y.kind y.slot j = lo y.kind y.slot * 512 + ((j * pu y.kind : Nat) : Int) := by
          unfold lo adI
          rw [k4, Int.natCast_mul]
          have : ((y.kind : Int) + 1) * 131072 + (y.slot : Int) * sbI y.kind = (((y.kind : Int) + 1) * 131072 + (y.slot : Int) * sbI y.kind + 0 * (pu y.kind : Int)) / 512 * 512 := by
            have hsb : sbI y.kind = 512 := by unfold sbI; rw [(pn_facts c1).2.2.2.1, p1]; rfl
            rw [hsb]; omega
          rw [← this]
        have hjl : j * pu y.kind + pu y.kind ≤ 512 := by
          have h3 : (j + 1) * pu y.kind ≤ pp y.kind * pu y.kind := Nat.mul_le_mul_right _ (by rw [hnu] at hj; exact hj)
          rw [Nat.add_mul, Nat.one_mul, Nat.mul_comm (pp y.kind)] at h3
          omega
        unfold phys
        rw [had, hgp]
        generalize j * pu y.kind = z at *
        have e5 : (lo y.kind y.slot * 512 + (z : Int) + i) / 512 = lo y.kind y.slot := by omega
        rw [e5, hq]
        omega
      have hw := hs.ok.had_write hs.cl (j := j) (by rw [hkd, ← hnu]; exact hj) (hh h7) hl fun i i1 i2 i3 => hfar i fun i' hi' e5 => by
        rw [hph i' hi'] at e5
        rw [hkd] at i3
        rw [hun] at hi'
        omega
      exact ⟨hw.1, hw.2, hs.kd, hs.at_⟩
    · refine hs.ext hl ?_ rfl
      rw [e1]
      refine hwin q fun t ht e5 => e ?_
      have e6 := tbH_mem h.tp.tb m1
      rw [e5, tbH_mem h.tp.tb (hmem t ht)] at e6
      obtain ⟨b1, b2⟩ := h.at_ y hy
      have p2 := (pn_facts b1).1.1
      have := lo_one b1 b2 c1 c2 (i := 0) (i' := t) (by omega) ht (by rw [e6]; simp)
      exact ⟨this.1, this.2.1⟩
  · show win bs' (q * 512) = nz 512
    rw [hout q (h.tp.free hf)]
    exact ok.cl q hq hf
end
end Go.Proofs.YtejbdbjccjkfdaaGreatDoor

namespace Go.Proofs.YtejbdbjccjkfdaaGreatDoor
open Go.RowKit
open An

/-- A block is had. -/
def HadB (L : List Hd) (c s j : Nat) : Prop := ∃ x ∈ L, x.kind = c ∧ x.slot = s ∧ (c ≤ 7 → x.pg.Had j) ∧ j < (nuI c).toNat
section
variable {C : Nat → Prop} {k : Nat} {M : Ms} {H : Hp} {L : List Hd} {c s j : Nat}
theorem nu_small (h : c ≤ 7) : (nuI c).toNat = pp c := by
  obtain ⟨_, k2, _, _, k5⟩ := kind_facts c h
  unfold nuI
  rw [k5, if_neg (by omega)]
  simp
theorem nu_run (h : 8 ≤ c) (h2 : c ≤ 23) : (nuI c).toNat = 1 := by
  have : ∀ c : Fin 24, 8 ≤ (c : Nat) → (nuI c).toNat = 1 := by decide
  exact this ⟨c, by omega⟩ h
theorem HadB.there (h : HpOk C M H) (hb : HadB H.L c s j) : PlT c s j ∧ c ≤ 23 ∧ s < sn c := by
  obtain ⟨x, hx, rfl, rfl, _, hj⟩ := hb
  obtain ⟨c1, c2⟩ := h.at_ x hx
  obtain ⟨_, _, _, _, p5, _⟩ := pn_facts c1
  have f3 := (pl_facts (c := x.kind) (by omega) (by omega)).2.2.1
  exact ⟨⟨by omega, by rw [p5]; omega, by omega, by omega⟩, c1, c2⟩
theorem mem_hBl {a : Int} (nd : (L.map fun x => (x.kind, x.slot)).Nodup) (at_ : ∀ x ∈ L, x.kind ≤ 23 ∧ x.slot < sn x.kind) : a ∈ hBl L ↔ ∃ c s j : Nat, HadB L c s j ∧ a = adI c s j := by
  unfold hBl
  constructor
  · intro h
    obtain ⟨c, hc, h⟩ := List.mem_flatMap.1 h
    obtain ⟨s, hs, h⟩ := List.mem_flatMap.1 h
    cases e : hAt L c s with
    | none => rw [e] at h; cases h
    | some x =>
      rw [e] at h
      obtain ⟨j, hj, h⟩ := List.mem_filterMap.1 h
      obtain ⟨x1, x2, x3⟩ := hAt_some e
      split at h
      case isFalse => cases h
      case isTrue hor =>
        cases h
        refine ⟨c, s, j, ⟨x, x1, x2, x3, fun h7 => ?_, List.mem_range.1 hj⟩, rfl⟩
        rcases hor with e | e
        · omega
        · exact e
  · rintro ⟨c, s, j, ⟨x, hx, rfl, rfl, hh, hj⟩, rfl⟩
    obtain ⟨c1, c2⟩ := at_ x hx
    refine List.mem_flatMap.2 ⟨x.kind, List.mem_range.2 (by omega), List.mem_flatMap.2 ⟨x.slot, List.mem_range.2 c2, ?_⟩⟩
    rw [hAt_mem nd hx]
    refine List.mem_filterMap.2 ⟨j, List.mem_range.2 hj, ?_⟩
    rw [if_pos]
    by_cases h7 : x.kind ≤ 7
    · exact .inr (hh h7)
    · exact .inl (by omega)
/-- They rise. -/
theorem hBl_up (L : List Hd) : (hBl L).Pairwise (· < ·) := by
  have hblk : ∀ c s : Nat, ∀ a ∈ (match hAt L c s with
      | none => []
      | some x => (List.range (nuI c).toNat).filterMap fun j => if 8 ≤ c ∨ x.pg.Had j then some (adI c s j) else none : List Int), ∃ j : Nat, j < (nuI c).toNat ∧ a = adI c s j := fun c s a ha => by
    cases e : hAt L c s with
    | none => rw [e] at ha; cases ha
    | some x =>
      rw [e] at ha
      obtain ⟨j, hj, h⟩ := List.mem_filterMap.1 ha
      split at h
      · cases h; exact ⟨j, List.mem_range.1 hj, rfl⟩
      · cases h
  have hpl : ∀ {c s j : Nat}, c < 24 → s < sn c → j < (nuI c).toNat → PlT c s j := fun {c s j} hc hs hj => by
    obtain ⟨_, _, _, _, p5, _⟩ := pn_facts (show c ≤ 23 by omega)
    have f3 := (pl_facts (c := c) (by omega) (by omega)).2.2.1
    exact ⟨by omega, by rw [p5]; omega, by omega, by omega⟩
  unfold hBl
  rw [List.pairwise_flatMap]
  refine ⟨fun c hc => ?_, ?_⟩
  · have hc := List.mem_range.1 hc
    have f4 := (pl_facts (c := c) (by omega) (by omega)).2.2.2.1
    rw [List.pairwise_flatMap]
    refine ⟨fun s hs => ?_, ?_⟩
    · have hs := List.mem_range.1 hs
      cases e : hAt L c s with
      | none => exact .nil
      | some x =>
        show ((List.range (nuI c).toNat).filterMap fun j => if 8 ≤ c ∨ x.pg.Had j then some (adI c s j) else none).Pairwise (· < ·)
        rw [List.pairwise_filterMap]
        refine List.Pairwise.imp_of_mem ?_ List.pairwise_lt_range
        intro i j hi hj hij a ha b hb
        split at ha
        case isFalse => cases ha
        split at hb
        case isFalse => cases hb
        cases ha
        cases hb
        exact (PlT.lt_iff (hpl hc hs (List.mem_range.1 hi)) (hpl hc hs (List.mem_range.1 hj))).2 (.inr ⟨rfl, by omega⟩)
    · refine List.Pairwise.imp_of_mem ?_ List.pairwise_lt_range
      intro s s' hs hs' hlt a ha b hb
      obtain ⟨i, hi, rfl⟩ := hblk c s a ha
      obtain ⟨j, hj, rfl⟩ := hblk c s' b hb
      exact (PlT.lt_iff (hpl hc (List.mem_range.1 hs) hi) (hpl hc (List.mem_range.1 hs') hj)).2 (.inl (by omega))
  · refine List.Pairwise.imp_of_mem ?_ List.pairwise_lt_range
    intro c c' hc hc' hlt a ha b hb
    obtain ⟨s, hs, ha⟩ := List.mem_flatMap.1 ha
    obtain ⟨s', hs', hb⟩ := List.mem_flatMap.1 hb
    obtain ⟨i, hi, rfl⟩ := hblk c s a ha
    obtain ⟨j, hj, rfl⟩ := hblk c' s' b hb
    have h1 := (hpl (List.mem_range.1 hc) (List.mem_range.1 hs) hi).inside
    have h2 := (hpl (List.mem_range.1 hc') (List.mem_range.1 hs') hj).inside
    have f4 := (pl_facts (c := c) (by omega) (by have := List.mem_range.1 hc; omega)).2.2.2.1
    omega
theorem few_in : ∀ n : Nat, ∀ {l : List Nat}, (∀ j, j < n → j ∈ l) → n ≤ l.length
  | 0, _, _ => Nat.zero_le _
  | n + 1, l, h => by
    have h1 := few_in n (l := l.erase n) fun j hj => (List.mem_erase_of_ne (by omega)).2 (h j (by omega))
    have h2 := List.length_erase_of_mem (h n (by omega))
    have h3 : 0 < l.length := List.length_pos_of_mem (h n (by omega))
    omega
/-- A small page of which blocks are had has one. -/
theorem Pg.Ok.some_had {g : Pg} {bs : List UInt8} (h : g.Ok bs) (hu : 0 < g.used) : ∃ j, j < pp g.kind ∧ g.Had j := by
  by_cases e : ∃ j, j < pp g.kind ∧ g.Had j
  · exact e
  · exfalso
    have := few_in g.fresh (l := g.R ++ g.D) fun j hj => by
      by_cases hm : j ∈ g.R ++ g.D
      · exact hm
      · have hfr := h.fr
        rw [List.mem_append, not_or] at hm
        exact (e ⟨j, by omega, hj, hm.1, hm.2⟩).elim
    rw [List.length_append] at this
    unfold Pg.used at hu
    omega
theorem Pg.Ok.had_used {g : Pg} {bs : List UInt8} (h : g.Ok bs) {i : Nat} (hi : g.Had i) : 0 < g.used := by
  have := nodup_short g.fresh (i :: (g.R ++ g.D)) (List.nodup_cons.2 ⟨fun e => (List.mem_append.1 e).elim hi.2.1 hi.2.2, h.nd⟩) fun x hx => by
    rcases List.mem_cons.1 hx with rfl | e
    · exact hi.1
    · exact h.lt x e
  rw [List.length_cons, List.length_append] at this
  unfold Pg.used
  omega
/-- No block is had: nothing is held. -/
theorem HpOk.nothing (h : HpOk C M H) (us : Us H.L) (hb : ∀ c s j, ¬ HadB H.L c s j) : H.L = [] ∧ H.T = [] := by
  have hL : H.L = [] := by
    cases e : H.L with
    | nil => rfl
    | cons x r =>
      exfalso
      have hx : x ∈ H.L := by rw [e]; simp
      obtain ⟨c1, c2⟩ := h.at_ x hx
      by_cases h7 : x.kind ≤ 7
      · have hs := h.sm x hx h7
        obtain ⟨j, hj, hh⟩ := hs.ok.some_had (us x hx h7)
        exact hb x.kind x.slot j ⟨x, hx, rfl, rfl, fun _ => hh, by rw [nu_small h7, ← hs.kd]; exact hj⟩
      · exact hb x.kind x.slot 0 ⟨x, hx, rfl, rfl, fun e => (h7 e).elim, by rw [nu_run (by omega) c1]; omega⟩
  refine ⟨hL, ?_⟩
  cases e : H.T with
  | nil => rfl
  | cons y r =>
    exfalso
    obtain ⟨x, hx, _⟩ := h.dom y (by rw [e]; simp)
    rw [hL] at hx
    cases hx
/-- Free takes one block away. -/
theorem hF_had (h : HpOk C M H) (hb : HadB H.L c s j) : (hF M H c s j).2.2 = 0 ∧ ∀ c' s' j', HadB (hF M H c s j).2.1.L c' s' j' ↔ HadB H.L c' s' j' ∧ ¬ (c' = c ∧ s' = s ∧ j' = j) := by
  obtain ⟨x, hx, rfl, rfl, hh, hj⟩ := hb
  obtain ⟨c1, c2⟩ := h.at_ x hx
  have hat := hAt_mem h.nd hx
  have hhad : hHad H.L x.kind x.slot j = some x := by
    unfold hHad
    rw [hat]
    dsimp only
    rw [if_neg]
    rintro ⟨h7, hn⟩
    have hs := h.sm x hx h7
    exact hn ⟨⟨by omega, by rw [hs.kd, ← nu_small h7]; omega⟩, by simpa using hh h7⟩
  have hdel : ∀ c' s' j', HadB (hDel H.L x.kind x.slot) c' s' j' ↔ HadB H.L c' s' j' ∧ ¬ (c' = x.kind ∧ s' = x.slot) := fun c' s' j' => by
    constructor
    · rintro ⟨y, hy, rfl, rfl, y3⟩
      have := mem_hDel.1 hy
      exact ⟨⟨y, this.1, rfl, rfl, y3⟩, this.2⟩
    · rintro ⟨⟨y, hy, rfl, rfl, y3⟩, hn⟩
      exact ⟨y, mem_hDel.2 ⟨hy, hn⟩, rfl, rfl, y3⟩
  unfold hF
  rw [hhad]
  dsimp only
  by_cases h8 : 8 ≤ x.kind
  · rw [if_pos h8]
    refine ⟨rfl, fun c' s' j' => ?_⟩
    rw [hdel]
    refine ⟨fun ⟨a, b⟩ => ⟨a, fun e => b ⟨e.1, e.2.1⟩⟩, fun ⟨a, b⟩ => ⟨a, fun e => b ⟨e.1, e.2, ?_⟩⟩⟩
    obtain ⟨y, _, y1, _, _, y4⟩ := a
    rw [e.1, nu_run h8 c1] at y4
    rw [nu_run h8 c1] at hj
    omega
  · rw [if_neg h8]
    have h7 : x.kind ≤ 7 := by omega
    have hs := h.sm x hx h7
    have hm : x.pg.May j := ⟨⟨by omega, by rw [hs.kd, ← nu_small h7]; omega⟩, by simpa using hh h7⟩
    have hpf : pfS x.pg j = ⟨x.pg.base, x.pg.kind, x.pg.fresh, x.pg.R, j :: x.pg.D⟩ := by unfold pfS; rw [if_pos hm]; simp
    have hhd : ∀ i, (pfS x.pg j).Had i ↔ x.pg.Had i ∧ i ≠ j := fun i => by
      rw [hpf]
      unfold Pg.Had
      simp only [List.mem_cons, not_or]
      exact ⟨fun ⟨a, b, d, e⟩ => ⟨⟨a, b, e⟩, d⟩, fun ⟨⟨a, b, e⟩, d⟩ => ⟨a, b, d, e⟩⟩
    by_cases hu : (pfS x.pg j).used = 0
    · rw [if_pos hu]
      refine ⟨rfl, fun c' s' j' => ?_⟩
      rw [hdel]
      refine ⟨fun ⟨a, b⟩ => ⟨a, fun e => b ⟨e.1, e.2.1⟩⟩, fun ⟨a, b⟩ => ⟨a, fun e => ?_⟩⟩
      obtain ⟨y, hy, rfl, rfl, y3, y4⟩ := a
      obtain rfl := slot_one h.nd hy hx e.1 e.2
      have hi := (hhd j').2 ⟨y3 h7, fun e5 => b ⟨rfl, rfl, e5⟩⟩
      have := (hs.ok.free j).1.had_used hi
      omega
    · rw [if_neg hu]
      refine ⟨rfl, fun c' s' j' => ?_⟩
      constructor
      · rintro ⟨y, hy, rfl, rfl, y3, y4⟩
        rcases (mem_hSet h.nd hx).1 hy with rfl | e
        · have := (hhd j').1 (y3 h7)
          exact ⟨⟨x, hx, rfl, rfl, fun _ => this.1, y4⟩, fun e => this.2 e.2.2⟩
        · exact ⟨⟨y, e.1, rfl, rfl, y3, y4⟩, fun e2 => e.2 ⟨e2.1, e2.2.1⟩⟩
      · rintro ⟨⟨y, hy, rfl, rfl, y3, y4⟩, hn⟩
        by_cases e : y.kind = x.kind ∧ y.slot = x.slot
        · obtain rfl := slot_one h.nd hy hx e.1 e.2
          exact ⟨⟨y.kind, y.slot, pfS y.pg j⟩, (mem_hSet h.nd hx).2 (.inl rfl), rfl, rfl, fun h7 => (hhd j').2 ⟨y3 h7, fun e5 => hn ⟨rfl, rfl, e5⟩⟩, y4⟩
        · exact ⟨y, (mem_hSet h.nd hx).2 (.inr ⟨hy, e⟩), rfl, rfl, y3, y4⟩
theorem had_last {g : Pg} {c' s' j' : Nat} : HadB (L ++ [⟨c, s, g⟩]) c' s' j' ↔ HadB L c' s' j' ∨ (c' = c ∧ s' = s ∧ (c ≤ 7 → g.Had j') ∧ j' < (nuI c).toNat) := by
  constructor
  · rintro ⟨y, hy, rfl, rfl, y3, y4⟩
    rcases List.mem_append.1 hy with e | e
    · exact .inl ⟨y, e, rfl, rfl, y3, y4⟩
    · simp only [List.mem_singleton] at e; subst e; exact .inr ⟨rfl, rfl, y3, y4⟩
  · rintro (⟨y, hy, r⟩ | ⟨rfl, rfl, r3, r4⟩)
    · exact ⟨y, List.mem_append_left _ hy, r⟩
    · exact ⟨⟨c', s', g⟩, List.mem_append_right _ (List.mem_singleton.2 rfl), rfl, rfl, r3, r4⟩
/-- What Malloc gives. -/
structure Gave (C : Nat → Prop) (M : Ms) (H : Hp) (n : Int) (M' : Ms) (H' : Hp) (a : Int) (c s j : Nat) : Prop where
  kd : ofI n = (c : Int)
  at_ : a = adI c s j
  new : ¬ HadB H.L c s j
  had : ∀ c' s' j', HadB H'.L c' s' j' ↔ HadB H.L c' s' j' ∨ (c' = c ∧ s' = s ∧ j' = j)
  zero : ∀ i : Nat, i < (unitI c).toNat → lb H'.T M'.bs (a + i) = 0
theorem lb_zero {T : Tb} {bs : List UInt8} {a : Int} {q : Nat} (hq : tbF T (a / 512) = (q : Int)) (hw : win bs (q * 512) = nz 512) : lb T bs a = 0 := by
  unfold lb phys
  rw [hq, show ((q : Int) * 512 + a % 512).toNat = q * 512 + (a % 512).toNat by omega, ← win_get? bs (q * 512) _ (by omega), hw]
  exact nz_get _ _
theorem hM_had (h : HpOk C M H) (ok : MsOk M) {n : Int} {r : Ms × Hp × Int × Int} (w : MWay C k M H n r) : (r.2.2.2 ≠ 0 ∧ r.1 = M ∧ r.2.1 = H ∧ r.2.2.1 = 0) ∨ (r.2.2.2 = 0 ∧ ∃ c s j, Gave C M H n r.1 r.2.1 r.2.2.1 c s j) := by
  have hnone : ∀ {c s : Nat}, ¬ Held H.L c s → ∀ j, ¬ HadB H.L c s j := fun hn j ⟨y, hy, y1, y2, _⟩ => hn ⟨y, hy, y1, y2⟩
  rcases w with ⟨_, rfl⟩ | ⟨_, rfl, _⟩ | ⟨c, hc, h8, s, m', H', g, f, rfl⟩ | ⟨c, hc, h7, hln, s, m', H', q, f, hm, hq, rfl⟩ | ⟨c, hc, h7, x, hx, rfl, hf, _, rfl⟩
  · exact .inl ⟨by show (2 : Int) ≠ 0; decide, rfl, rfl, rfl⟩
  · exact .inl ⟨by show (13 : Int) ≠ 0; decide, rfl, rfl, rfl⟩
  · refine .inr ⟨rfl, c, s, 0, hc, rfl, hnone f.free 0, fun c' s' j' => ?_, fun i hi => ?_⟩
    · rw [f.eH, had_last, nu_run h8 f.fc]
      constructor
      · rintro (e | ⟨e1, e2, _, e4⟩)
        · exact .inl e
        · exact .inr ⟨e1, e2, by omega⟩
      · rintro (e | ⟨e1, e2, e3⟩)
        · exact .inl e
        · exact .inr ⟨e1, e2, fun e => by omega, by omega⟩
    · obtain ⟨t, ht, e⟩ := blk_at (x := ⟨c, s, g⟩) (j := 0) f.fc f.fs (by rw [nu_run h8 f.fc]; omega) hi
      have hg := f.took.got t ht
      have hm := f.took.ok.tb.f_some hg
      obtain ⟨q, hq⟩ : ∃ q : Nat, tbF H'.T (lo c s + t) = (q : Int) := ⟨(tbF H'.T (lo c s + t)).toNat, by omega⟩
      rw [hq] at hm
      have hql : q < M.has.length := by have := f.took.ok.lt ⟨_, hm⟩; rw [f.took.len] at this; exact this
      have hqf : M.has.getD q true = false := by
        rcases f.took.new _ hm with e5 | e5
        · exfalso
          obtain ⟨z, hz, i', hi', e6⟩ := h.dom _ e5
          obtain ⟨b1, b2⟩ := h.at_ z hz
          have := lo_one b1 b2 f.fc f.fs hi' ht e6.symm
          exact f.free ⟨z, hz, this.1, this.2.1⟩
        · simpa using e5.2
      rw [f.em]
      exact lb_zero (q := q) (by have e : (adI c s ((0 : Nat) : Int) + i) / 512 = lo c s + t := e; rw [show (adI (c : Int) (s : Int) 0 + (i : Int)) = adI c s ((0 : Nat) : Int) + i from rfl, e]; exact hq) (ok.cl q hql hqf)
  · obtain ⟨_, ⟨hp2, _⟩, _⟩ := kind_facts c h7
    have hfresh : ∀ j', Pg.Had ⟨q * 512, c, 1, [], []⟩ j' ↔ j' = 0 := fun j' => by unfold Pg.Had; simp
    refine .inr ⟨rfl, c, s, 0, hc, rfl, hnone f.free 0, fun c' s' j' => ?_, fun i hi => ?_⟩
    · rw [f.eH, had_last, nu_small h7]
      constructor
      · rintro (e | ⟨e1, e2, e3, _⟩)
        · exact .inl e
        · exact .inr ⟨e1, e2, (hfresh j').1 (e3 h7)⟩
      · rintro (e | ⟨e1, e2, e3⟩)
        · exact .inl e
        · exact .inr ⟨e1, e2, fun _ => (hfresh j').2 e3, by omega⟩
    · obtain ⟨t, ht, e⟩ := blk_at (x := ⟨c, s, ⟨0, 0, 0, [], []⟩⟩) (j := 0) f.fc f.fs (by rw [nu_small h7]; omega) hi
      have hp1 : pn c = 1 := ((pn_facts f.fc).2.2.2.2.2 h7).1
      have ht0 : t = 0 := by have ht : t < pn c := ht; omega
      subst ht0
      have hql : q < M.has.length := by have := f.took.ok.lt ⟨_, hm⟩; rw [f.took.len] at this; exact this
      rw [f.em]
      exact lb_zero (q := q) (by have e : (adI c s ((0 : Nat) : Int) + i) / 512 = lo c s + ((0 : Nat) : Int) := e; rw [show (adI (c : Int) (s : Int) 0 + (i : Int)) = adI c s ((0 : Nat) : Int) + i from rfl, e]; simp only [Int.natCast_zero, Int.add_zero]; exact tbF_mem f.took.ok.tb hm) (ok.cl q hql hq)
  · have hs := h.sm x hx h7
    have hg := hs.ok.given hs.cl hf
    have hv : paV x.pg = (paK x.pg : Int) := if_neg hf
    have hkd := hs.kd
    have hz := hg.zero hs.cl hs.ok ⟨rfl, rfl, rfl⟩ hf
    have hlt : paK x.pg < (nuI x.kind).toNat := by rw [nu_small h7, ← hkd]; exact hg.lt
    refine .inr ⟨rfl, x.kind, x.slot, paK x.pg, hc, by show adI _ _ (paV x.pg) = _; rw [hv], fun ⟨y, hy, y1, y2, y3, _⟩ => ?_, fun c' s' j' => ?_, fun i hi => ?_⟩
    · obtain rfl := slot_one h.nd hy hx y1 y2
      exact hg.was (y3 h7)
    · constructor
      · rintro ⟨y, hy, rfl, rfl, y3, y4⟩
        rcases (mem_hSet h.nd hx).1 hy with rfl | e
        · rcases (hg.had j').1 (y3 h7) with e | e
          · exact .inl ⟨x, hx, rfl, rfl, fun _ => e, y4⟩
          · exact .inr ⟨rfl, rfl, e⟩
        · exact .inl ⟨y, e.1, rfl, rfl, y3, y4⟩
      · rintro (⟨y, hy, rfl, rfl, y3, y4⟩ | ⟨rfl, rfl, rfl⟩)
        · by_cases e : y.kind = x.kind ∧ y.slot = x.slot
          · obtain rfl := slot_one h.nd hy hx e.1 e.2
            exact ⟨⟨y.kind, y.slot, paS y.pg⟩, (mem_hSet h.nd hx).2 (.inl rfl), rfl, rfl, fun h7 => (hg.had j').2 (.inl (y3 h7)), y4⟩
          · exact ⟨y, (mem_hSet h.nd hx).2 (.inr ⟨hy, e⟩), rfl, rfl, y3, y4⟩
        · exact ⟨⟨x.kind, x.slot, paS x.pg⟩, (mem_hSet h.nd hx).2 (.inl rfl), rfl, rfl, fun _ => (hg.had _).2 (.inr rfl), hlt⟩
    · show lb H.T (paB x.pg M.bs) (adI x.kind x.slot (paV x.pg) + i) = 0
      have hi : i < pu x.kind := hi
      unfold lb
      rw [hv, small_phys h hx h7 (by rw [← hkd]; exact hg.lt) hi, Int.toNat_natCast, ← blk_get? x.pg (paB x.pg M.bs) (paK x.pg) i (by rw [hkd]; exact hi), hz]
      exact nz_get _ _
end
end Go.Proofs.YtejbdbjccjkfdaaGreatDoor
