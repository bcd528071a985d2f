/-
  Kinds of blocks as the document has them: plain mathematics. Nothing of the program is named here.
  A page of small blocks: plain mathematics off the document. Nothing of the program is named here.
-/
import Derived.Test.YtihaifnenjngpaaGreatDoorChBase
namespace Go.Proofs.YtihaifnenjngpaaGreatDoor

/-- A block's bytes. -/
def unitI (c : Int) : Int :=
  if c < 0 then 0 else if c = 0 then 16 else if c = 1 then 32 else if c = 2 then 48 else if c = 3 then 64 else if c = 4 then 96 else if c = 5 then 128 else if c = 6 then 192 else if c = 7 then 256 else if c ≤ 23 then (c - 7) * 512 else 0
/-- The kind for so many bytes. -/
def ofI (n : Int) : Int :=
  if n < 1 then -1 else if n ≤ 16 then 0 else if n ≤ 32 then 1 else if n ≤ 48 then 2 else if n ≤ 64 then 3 else if n ≤ 96 then 4 else if n ≤ 128 then 5 else if n ≤ 192 then 6 else if n ≤ 256 then 7 else if n ≤ 8192 then 7 + (n + 511) / 512 else -1
def perI (c : Int) : Int :=
  if c < 0 then 0 else if c = 0 then 32 else if c = 1 then 16 else if c = 2 then 10 else if c = 3 then 8 else if c = 4 then 5 else if c = 5 then 4 else if c = 6 then 2 else if c = 7 then 2 else 0
def pagesI (c : Int) : Int := if c < 0 then 0 else if c ≤ 7 then 1 else if c ≤ 23 then c - 7 else 0
def alignI (c : Int) : Int :=
  if c < 0 then 0 else if c = 0 then 16 else if c = 1 then 32 else if c = 2 then 16 else if c = 3 then 64 else if c = 4 then 32 else if c = 5 then 128 else if c = 6 then 64 else if c = 7 then 256 else if c ≤ 23 then 512 else 0
def chargeI (n : Int) : Int := if ofI n < 0 then 0 else unitI (ofI n)

theorem fin24 (c : Int) (h0 : 0 ≤ c) (h1 : c ≤ 23) : ∃ k : Fin 24, c = (k.val : Int) := ⟨⟨c.toNat, by omega⟩, by simp; omega⟩
theorem unitI_run (m : Int) (h0 : 1 ≤ m) (h1 : m ≤ 16) : unitI (7 + m) = m * 512 := by
  have : ∀ k : Fin 16, unitI (7 + ((k.val : Int) + 1)) = ((k.val : Int) + 1) * 512 := by decide +kernel
  have h := this ⟨(m - 1).toNat, by omega⟩
  have e : (((m - 1).toNat : Nat) : Int) + 1 = m := by omega
  simp only at h
  rw [e] at h
  exact h
theorem ofI_run (n : Int) (h1 : 256 < n) (h2 : n ≤ 8192) : ofI n = 7 + (n + 511) / 512 := by
  unfold ofI; repeat' split
  all_goals omega
theorem ofI_none (n : Int) : ofI n = -1 ↔ n < 1 ∨ 8192 < n := by
  unfold ofI; repeat' split
  all_goals omega
theorem ofI_range (n : Int) (h1 : 1 ≤ n) (h2 : n ≤ 8192) : 0 ≤ ofI n ∧ ofI n ≤ 23 := by
  unfold ofI; repeat' split
  all_goals omega
theorem unitI_rises (c d : Int) (h0 : 0 ≤ c) (h : c < d) (h1 : d ≤ 23) : unitI c < unitI d := by
  have : ∀ a b : Fin 24, a.val < b.val → unitI (a.val : Int) < unitI (b.val : Int) := by decide +kernel
  obtain ⟨a, rfl⟩ := fin24 c h0 (by omega)
  obtain ⟨b, rfl⟩ := fin24 d (by omega) h1
  exact this a b (by omega)
theorem unitI_mono (c d : Int) (h0 : 0 ≤ c) (h : c ≤ d) (h1 : d ≤ 23) : unitI c ≤ unitI d := by
  rcases Int.lt_or_eq_of_le h with hl | hl
  · have := unitI_rises c d h0 hl h1; omega
  · rw [hl]; exact Int.le_refl _
/-- What a kind that is no run says of n. -/
theorem ofI_small (n : Int) (h1 : 1 ≤ n) (h2 : n ≤ 256) : 0 ≤ ofI n ∧ ofI n ≤ 7 ∧ n ≤ unitI (ofI n) ∧ (ofI n = 0 ∨ unitI (ofI n - 1) < n) := by
  have u0 : unitI 0 = 16 := rfl
  have u1 : unitI 1 = 32 := rfl
  have u2 : unitI 2 = 48 := rfl
  have u3 : unitI 3 = 64 := rfl
  have u4 : unitI 4 = 96 := rfl
  have u5 : unitI 5 = 128 := rfl
  have u6 : unitI 6 = 192 := rfl
  have u7 : unitI 7 = 256 := rfl
  unfold ofI; repeat' split
  all_goals first
    | omega
    | (simp only [Int.reduceSub, u0, u1, u2, u3, u4, u5, u6, u7]; omega)
theorem ofI_fits (n : Int) (h1 : 1 ≤ n) (h2 : n ≤ 8192) : n ≤ unitI (ofI n) := by
  by_cases h : n ≤ 256
  · exact (ofI_small n h1 h).2.2.1
  · rw [ofI_run n (by omega) h2, unitI_run _ (by omega) (by omega)]; omega
theorem ofI_least (n c : Int) (h0 : 0 ≤ c) (h : c < ofI n) : unitI c < n := by
  have h1 : 1 ≤ n ∧ n ≤ 8192 := by
    have := ofI_none n
    by_cases hn : n < 1 ∨ 8192 < n
    · rw [this.2 hn] at h; omega
    · omega
  obtain ⟨r1, r2⟩ := ofI_range n h1.1 h1.2
  have hm := unitI_mono c (ofI n - 1) h0 (by omega) (by omega)
  by_cases hs : n ≤ 256
  · rcases (ofI_small n h1.1 hs).2.2.2 with e | e
    · omega
    · omega
  · have e := ofI_run n (by omega) h1.2
    rw [e] at hm h
    by_cases hm1 : (n + 511) / 512 = 1
    · rw [hm1] at hm
      have u7 : unitI (7 + 1 - 1) = 256 := rfl
      rw [u7] at hm
      omega
    · rw [show 7 + (n + 511) / 512 - 1 = 7 + ((n + 511) / 512 - 1) by omega, unitI_run _ (by omega) (by omega)] at hm
      omega
/-- It is the only one so. -/
theorem ofI_unique (n c : Int) (h1 : 1 ≤ n) (hc : 0 ≤ c) (hc2 : c ≤ 23) (hu : n ≤ unitI c) (hb : ∀ d, 0 ≤ d → d < c → unitI d < n) : ofI n = c := by
  have hn : n ≤ 8192 := by
    have h3 := unitI_mono c 23 hc hc2 (by omega)
    have h4 : unitI 23 = 8192 := rfl
    omega
  obtain ⟨r1, r2⟩ := ofI_range n h1 hn
  rcases Int.lt_trichotomy (ofI n) c with h | h | h
  · have := hb _ r1 h
    have := ofI_fits n h1 hn
    omega
  · exact h
  · have := ofI_least n c hc h
    omega
theorem chargeI_none (n : Int) (h : n < 1 ∨ 8192 < n) : chargeI n = 0 := by
  unfold chargeI; rw [(ofI_none n).2 h]; rfl
theorem chargeI_some (n : Int) (h1 : 1 ≤ n) (h2 : n ≤ 8192) : chargeI n = unitI (ofI n) := by
  unfold chargeI; rw [if_neg (by have := (ofI_range n h1 h2).1; omega)]
theorem ofI_rises (a b : Int) (h1 : 1 ≤ a) (h : a ≤ b) (h2 : b ≤ 8192) : ofI a ≤ ofI b := by
  rcases Int.lt_or_le (ofI b) (ofI a) with hl | hl
  · have h3 := ofI_least a (ofI b) (ofI_range b (by omega) h2).1 hl
    have h4 := ofI_fits b (by omega) h2
    omega
  · exact hl
theorem chargeI_rises (a b : Int) (h1 : 1 ≤ a) (h : a ≤ b) (h2 : b ≤ 8192) : chargeI a ≤ chargeI b := by
  rw [chargeI_some a h1 (by omega), chargeI_some b (by omega) h2]
  have h3 := ofI_rises a b h1 h h2
  have h4 := ofI_range a h1 (by omega)
  have h5 := ofI_range b (by omega) h2
  rcases Int.lt_or_eq_of_le h3 with hl | hl
  · have := unitI_rises _ _ h4.1 hl h5.2; omega
  · rw [hl]; exact Int.le_refl _
theorem ofI_unit (c : Int) (h0 : 0 ≤ c) (h1 : c ≤ 23) : ofI (unitI c) = c := by
  have : ∀ a : Fin 24, ofI (unitI (a.val : Int)) = (a.val : Int) := by decide +kernel
  obtain ⟨a, rfl⟩ := fin24 c h0 h1
  exact this a
theorem unitI_range (c : Int) (h0 : 0 ≤ c) (h1 : c ≤ 23) : 16 ≤ unitI c ∧ unitI c ≤ 8192 := by
  have : ∀ a : Fin 24, 16 ≤ unitI (a.val : Int) ∧ unitI (a.val : Int) ≤ 8192 := by decide +kernel
  obtain ⟨a, rfl⟩ := fin24 c h0 h1
  exact this a
theorem chargeI_twice (n : Int) (h1 : 1 ≤ n) (h2 : n ≤ 8192) : chargeI (chargeI n) = chargeI n := by
  obtain ⟨r1, r2⟩ := ofI_range n h1 h2
  obtain ⟨u1, u2⟩ := unitI_range _ r1 r2
  rw [chargeI_some n h1 h2, chargeI_some _ (by omega) u2, ofI_unit _ r1 r2]
theorem chargeI_less (n : Int) (h1 : 1 ≤ n) (h2 : n ≤ 8192) : chargeI n < 2 * n ∨ chargeI n = 16 := by
  rw [chargeI_some n h1 h2]
  by_cases hs : n ≤ 256
  · obtain ⟨r1, r2, _, r4⟩ := ofI_small n h1 hs
    have key : ∀ a : Fin 8, unitI (a.val : Int) = 16 ∨ unitI (a.val : Int) ≤ 2 * unitI ((a.val : Int) - 1) := by decide +kernel
    have k := key ⟨(ofI n).toNat, by omega⟩
    have e : (((ofI n).toNat : Nat) : Int) = ofI n := by omega
    simp only [e] at k
    rcases r4 with r4 | r4
    · right; rw [r4]; rfl
    · rcases k with k | k
      · right; exact k
      · left; omega
  · left; rw [ofI_run n (by omega) h2, unitI_run _ (by omega) (by omega)]; omega
theorem alignI_divides (c : Int) (h0 : 0 ≤ c) (h1 : c ≤ 23) : 8 ≤ alignI c ∧ unitI c % alignI c = 0 := by
  have : ∀ a : Fin 24, 8 ≤ alignI (a.val : Int) ∧ unitI (a.val : Int) % alignI (a.val : Int) = 0 := by decide +kernel
  obtain ⟨a, rfl⟩ := fin24 c h0 h1
  exact this a
theorem kind_small (c k : Int) (h0 : 0 ≤ c) (h1 : c ≤ 7) (hk : 0 ≤ k) (hk2 : k < perI c) : (k * unitI c) % alignI c = 0 ∧ k * unitI c + unitI c ≤ 512 ∧ 512 < (perI c + 1) * unitI c ∧ 0 < perI c := by
  have hc : c = 0 ∨ c = 1 ∨ c = 2 ∨ c = 3 ∨ c = 4 ∨ c = 5 ∨ c = 6 ∨ c = 7 := by omega
  rcases hc with rfl | rfl | rfl | rfl | rfl | rfl | rfl | rfl <;> simp [perI, unitI, alignI] at * <;> omega
theorem kind_run (n : Int) (h1 : 256 < n) (h2 : n ≤ 8192) : ofI n = 7 + pagesI (ofI n) ∧ n ≤ pagesI (ofI n) * 512 ∧ (pagesI (ofI n) - 1) * 512 < n ∧ perI (ofI n) = 0 ∧ chargeI n = pagesI (ofI n) * 512 ∧ alignI (ofI n) = 512 := by
  have e := ofI_run n h1 h2
  have hr : 1 ≤ (n + 511) / 512 ∧ (n + 511) / 512 ≤ 16 := by omega
  rw [chargeI_some n (by omega) h2, e]
  generalize hm : (n + 511) / 512 = m at *
  have p : pagesI (7 + m) = m := by
    unfold pagesI; repeat' split
    all_goals omega
  rw [p]
  refine ⟨rfl, by omega, by omega, ?_, ?_, ?_⟩
  · unfold perI; repeat' split
    all_goals omega
  · exact unitI_run m hr.1 hr.2
  · unfold alignI; repeat' split
    all_goals omega
theorem kind_zero (c : Int) (h0 : 0 ≤ c) (h1 : c ≤ 23) : perI c = 0 ↔ 8 ≤ c := by
  unfold perI; repeat' split
  all_goals omega
theorem pages_unit (c : Int) (h0 : 8 ≤ c) (h1 : c ≤ 23) : pagesI c * 512 = unitI c := by
  have : ∀ a : Fin 24, 8 ≤ a.val → pagesI (a.val : Int) * 512 = unitI (a.val : Int) := by decide +kernel
  obtain ⟨a, rfl⟩ := fin24 c (by omega) h1
  exact this a (by omega)
end Go.Proofs.YtihaifnenjngpaaGreatDoor

namespace Go.Proofs.YtihaifnenjngpaaGreatDoor
open Go.RowKit
open An

/-- A small kind's bytes, and how many blocks a page of it has. -/
def pu (k : Nat) : Nat := (unitI k).toNat
def pp (k : Nat) : Nat := (perI k).toNat
theorem kind_facts (k : Nat) (h : k ≤ 7) : (16 ≤ pu k ∧ pu k ≤ 256) ∧ (2 ≤ pp k ∧ pp k ≤ 32) ∧ pu k * pp k ≤ 512 ∧ unitI k = (pu k : Int) ∧ perI k = (pp k : Int) := by
  have : ∀ k : Fin 8, (16 ≤ pu k ∧ pu k ≤ 256) ∧ (2 ≤ pp k ∧ pp k ≤ 32) ∧ pu k * pp k ≤ 512 ∧ unitI k = (pu k : Int) ∧ perI k = (pp k : Int) := by decide
  exact this ⟨k, by omega⟩
/-- A page: where it lies, of which kind, the first block that was never had, the free ones and the deferred ones. -/
structure Pg where
  base : Nat
  kind : Nat
  fresh : Nat
  R : List Nat
  D : List Nat
def Pg.ck (g : Pg) (h : Nat) : Ck := ⟨g.base, pu g.kind, pp g.kind, h⟩
def Pg.pos (g : Pg) (x : Nat) : Nat := g.base + x * pu g.kind
theorem Pg.ck_pos (g : Pg) (h x : Nat) : (g.ck h).pos x = g.pos x := rfl
abbrev Pg.Had (g : Pg) (x : Nat) : Prop := x < g.fresh ∧ x ∉ g.R ∧ x ∉ g.D
def Pg.used (g : Pg) : Nat := g.fresh - g.R.length - g.D.length
structure Pg.Ok (g : Pg) (bs : List UInt8) : Prop where
  kind : g.kind ≤ 7
  mod : g.base % 512 = 0
  fit : g.base + 512 ≤ bs.length
  r : Rep (g.ck 0) bs g.R
  d : Rep (g.ck 0) bs g.D
  nd : (g.R ++ g.D).Nodup
  lt : ∀ x ∈ g.R ++ g.D, x < g.fresh
  fr : g.fresh ≤ pp g.kind
section
variable {g : Pg} {bs : List UInt8}
theorem Pg.Ok.ck (h : g.Ok bs) {v : Nat} (hv : v ≤ pp g.kind) : (g.ck v).Ok bs.length := by
  obtain ⟨⟨h1, h2⟩, ⟨h3, h4⟩, h5, _⟩ := kind_facts g.kind h.kind
  exact ⟨by show 8 ≤ pu g.kind; omega, by show pu g.kind ≤ 512; omega, by show 1 ≤ pp g.kind; omega, by show pp g.kind ≤ 64; omega, hv, by show g.base + pu g.kind * pp g.kind ≤ bs.length; have := h.fit; omega⟩
theorem Pg.Ok.lr (h : g.Ok bs) : ∀ x ∈ g.R, x < pp g.kind := fun x hx => Nat.lt_of_lt_of_le (h.lt x (List.mem_append_left _ hx)) h.fr
theorem Pg.Ok.ld (h : g.Ok bs) : ∀ x ∈ g.D, x < pp g.kind := fun x hx => Nat.lt_of_lt_of_le (h.lt x (List.mem_append_right _ hx)) h.fr
theorem Pg.Ok.count (h : g.Ok bs) : g.R.length + g.D.length ≤ g.fresh := by
  have := nodup_short g.fresh (g.R ++ g.D) h.nd h.lt
  rwa [List.length_append] at this
/-- A block's bytes lie within the page. -/
theorem Pg.Ok.block (h : g.Ok bs) {x : Nat} (hx : x < pp g.kind) : g.base ≤ g.pos x ∧ g.pos x + pu g.kind ≤ g.base + 512 := by
  obtain ⟨_, _, h5, _⟩ := kind_facts g.kind h.kind
  have h3 : (x + 1) * pu g.kind ≤ pp g.kind * pu g.kind := Nat.mul_le_mul_right _ hx
  rw [Nat.add_mul, Nat.one_mul, Nat.mul_comm (pp g.kind)] at h3
  unfold Pg.pos
  omega
theorem Pg.apart {x y : Nat} (hn : x ≠ y) : g.pos x + pu g.kind ≤ g.pos y ∨ g.pos y + pu g.kind ≤ g.pos x := by
  unfold Pg.pos
  rcases Nat.lt_or_gt_of_ne hn with e | e
  · have h3 : (x + 1) * pu g.kind ≤ y * pu g.kind := Nat.mul_le_mul_right _ e
    rw [Nat.add_mul, Nat.one_mul] at h3
    omega
  · have h3 : (y + 1) * pu g.kind ≤ x * pu g.kind := Nat.mul_le_mul_right _ e
    rw [Nat.add_mul, Nat.one_mul] at h3
    omega
end
theorem lnk_lt {m : Nat} : ∀ {L : List Nat}, (∀ x ∈ L, x < m) → lnk L ≤ m
  | [], _ => Nat.zero_le _
  | y :: _, h => h y (List.mem_cons_self ..)
/-- A page that lies in an arena of so many bytes: all that Move asks. -/
structure Pg.Fit (g : Pg) (n : Nat) : Prop where
  kind : g.kind ≤ 7
  mod : g.base % 512 = 0
  fit : g.base + 512 ≤ n
  r : lnk g.R ≤ pp g.kind
  d : lnk g.D ≤ pp g.kind
theorem Pg.Ok.lies {g : Pg} {bs : List UInt8} (h : g.Ok bs) : g.Fit bs.length := ⟨h.kind, h.mod, h.fit, lnk_lt h.lr, lnk_lt h.ld⟩
theorem Pg.Fit.ck {g : Pg} {n : Nat} (h : g.Fit n) {v : Nat} (hv : v ≤ pp g.kind) : (g.ck v).Ok n := by
  obtain ⟨⟨h1, h2⟩, ⟨h3, h4⟩, h5, _⟩ := kind_facts g.kind h.kind
  exact ⟨by show 8 ≤ pu g.kind; omega, by show pu g.kind ≤ 512; omega, by show 1 ≤ pp g.kind; omega, by show pp g.kind ≤ 64; omega, hv, by show g.base + pu g.kind * pp g.kind ≤ n; have := h.fit; omega⟩
theorem wd_far {bs ds : List UInt8} {p q : Nat} (h : p + ds.length ≤ bs.length) (hq : q + 8 ≤ p ∨ p + ds.length ≤ q) : wd (over bs p ds) q = wd bs q := by
  unfold wd
  congr 1
  apply List.ext_getElem?
  intro i
  by_cases hi : i < 8
  · rw [List.getElem?_take_of_lt hi, List.getElem?_take_of_lt hi, List.getElem?_drop, List.getElem?_drop, over_get? bs p _ h]
    by_cases h1 : q + i < p
    · rw [if_pos h1]
    · rw [if_neg h1, if_neg (by omega)]
  · rw [List.getElem?_eq_none (by simp; omega), List.getElem?_eq_none (by simp; omega)]
/-- Bytes of a block that isn't of the chain are laid anew. -/
theorem rep_lay {g : Pg} {bs ds : List UInt8} (h : g.Ok bs) {x : Nat} (hx : x < pp g.kind) (hd : ds.length ≤ pu g.kind) : ∀ {L : List Nat}, Rep (g.ck 0) bs L → x ∉ L → Rep (g.ck 0) (over bs (g.pos x) ds) L
  | [], _, _ => trivial
  | y :: L, ⟨h1, h2⟩, hn => by
    simp only [List.mem_cons, not_or] at hn
    obtain ⟨⟨u1, _⟩, _⟩ := kind_facts g.kind h.kind
    have hb := h.block hx
    have ha := Pg.apart (g := g) hn.1
    refine ⟨?_, rep_lay h hx hd h2 hn.2⟩
    rw [wd_far (by have := h.fit; omega) (by rw [Pg.ck_pos]; omega)]
    exact h1
/-- Somebody lays bytes into a block that is had, or fresh. -/
theorem Pg.Ok.lay {g : Pg} {bs ds : List UInt8} (h : g.Ok bs) {x : Nat} (hx : x < pp g.kind) (hd : ds.length ≤ pu g.kind) (hr : x ∉ g.R) (hD : x ∉ g.D) : g.Ok (over bs (g.pos x) ds) := by
  have hb := h.block hx
  refine ⟨h.kind, h.mod, ?_, rep_lay h hx hd h.r hr, rep_lay h hx hd h.d hD, h.nd, h.lt, h.fr⟩
  rw [over_length _ _ _ (by have := h.fit; omega)]
  exact h.fit
/-- Alloc. -/
abbrev Pg.Full (g : Pg) : Prop := g.used = pp g.kind
def paK (g : Pg) : Nat := match g.R, g.D with
  | x :: _, _ => x
  | [], x :: _ => x
  | [], [] => g.fresh
def paE (g : Pg) : Int := if g.Full then 10 else 0
def paV (g : Pg) : Int := if g.Full then 0 else (paK g : Int)
def paS (g : Pg) : Pg := if g.Full then g else match g.R, g.D with
  | _ :: R, D => ⟨g.base, g.kind, g.fresh, R, D⟩
  | [], _ :: D => ⟨g.base, g.kind, g.fresh, D, []⟩
  | [], [] => ⟨g.base, g.kind, g.fresh + 1, [], []⟩
abbrev Pg.Bare (g : Pg) : Prop := g.R = [] ∧ g.D = []
def paB (g : Pg) (bs : List UInt8) : List UInt8 := if g.Full ∨ g.Bare then bs else over bs (g.pos (paK g)) (leb 0 8)
def paT (g : Pg) (ss : List Sp) : List Sp := if g.Full ∨ g.Bare then ss else ss ++ [((g.pos (paK g) : Int), (8 : Int), false)] ++ [((g.pos (paK g) : Int), (8 : Int), true)]
section
variable {g : Pg} {bs : List UInt8}
theorem Pg.Ok.full (h : g.Ok bs) : g.Full ↔ g.Bare ∧ g.fresh = pp g.kind := by
  have h1 := h.count
  have h2 := h.fr
  obtain ⟨_, ⟨h3, _⟩, _⟩ := kind_facts g.kind h.kind
  unfold Pg.Full Pg.used Pg.Bare
  constructor
  · intro e
    exact ⟨⟨List.eq_nil_of_length_eq_zero (by omega), List.eq_nil_of_length_eq_zero (by omega)⟩, by omega⟩
  · rintro ⟨⟨e1, e2⟩, e3⟩
    rw [e1, e2]
    simp [e3]
theorem Pg.Ok.popR (h : g.Ok bs) {x : Nat} {R : List Nat} (e : g.R = x :: R) : Pg.Ok ⟨g.base, g.kind, g.fresh, R, g.D⟩ (over bs (g.pos x) (leb 0 8)) := by
  have hx : x < pp g.kind := h.lr x (by rw [e]; exact List.mem_cons_self ..)
  obtain ⟨⟨u1, _⟩, _⟩ := kind_facts g.kind h.kind
  have hnd := h.nd
  have hr := h.r
  rw [e] at hnd hr
  rw [List.cons_append, List.nodup_cons] at hnd
  have hb := h.block hx
  have hl : (leb 0 8).length ≤ pu g.kind := by rw [leb_length]; omega
  refine ⟨h.kind, h.mod, by rw [over_length _ _ _ (by have := h.fit; omega)]; exact h.fit, rep_lay h hx hl hr.2 fun m => hnd.1 (List.mem_append_left _ m), rep_lay h hx hl h.d fun m => hnd.1 (List.mem_append_right _ m), hnd.2, fun y hy => h.lt y ?_, h.fr⟩
  rw [e]
  exact List.mem_cons_of_mem _ hy
/-- The deferred ones are the free ones now. -/
theorem Pg.Ok.turn (h : g.Ok bs) (e : g.R = []) : Pg.Ok ⟨g.base, g.kind, g.fresh, g.D, []⟩ bs := by
  have hnd := h.nd
  have hlt := h.lt
  rw [e, List.nil_append] at hnd hlt
  exact ⟨h.kind, h.mod, h.fit, h.d, trivial, by rw [List.append_nil]; exact hnd, by rw [List.append_nil]; exact hlt, h.fr⟩
theorem Pg.Ok.more (h : g.Ok bs) (hf : g.fresh < pp g.kind) : Pg.Ok ⟨g.base, g.kind, g.fresh + 1, g.R, g.D⟩ bs := ⟨h.kind, h.mod, h.fit, h.r, h.d, h.nd, fun x hx => Nat.lt_succ_of_lt (h.lt x hx), hf⟩
/-- The four ways of Alloc. -/
theorem pa_full (hf : g.Full) : paE g = 10 ∧ paV g = 0 ∧ paS g = g ∧ paB g bs = bs := ⟨if_pos hf, if_pos hf, if_pos hf, if_pos (.inl hf)⟩
theorem pa_R {x : Nat} {R : List Nat} (hf : ¬ g.Full) (e : g.R = x :: R) : paE g = 0 ∧ paV g = x ∧ paS g = ⟨g.base, g.kind, g.fresh, R, g.D⟩ ∧ paB g bs = over bs (g.pos x) (leb 0 8) ∧ ∀ ss, paT g ss = ss ++ [((g.pos x : Int), (8 : Int), false)] ++ [((g.pos x : Int), (8 : Int), true)] := by
  obtain ⟨b, kd, fr, R0, D⟩ := g
  simp only at e
  subst e
  have hb : ¬ (Pg.Full ⟨b, kd, fr, x :: R, D⟩ ∨ Pg.Bare ⟨b, kd, fr, x :: R, D⟩) := by rintro (h | h); exact hf h; cases h.1
  refine ⟨if_neg hf, if_neg hf, if_neg hf, if_neg hb, fun ss => if_neg hb⟩
theorem pa_D {x : Nat} {D : List Nat} (hf : ¬ g.Full) (e : g.R = []) (e2 : g.D = x :: D) : paE g = 0 ∧ paV g = x ∧ paS g = ⟨g.base, g.kind, g.fresh, D, []⟩ ∧ paB g bs = over bs (g.pos x) (leb 0 8) ∧ ∀ ss, paT g ss = ss ++ [((g.pos x : Int), (8 : Int), false)] ++ [((g.pos x : Int), (8 : Int), true)] := by
  obtain ⟨b, kd, fr, R0, D0⟩ := g
  simp only at e e2
  subst e e2
  have hb : ¬ (Pg.Full ⟨b, kd, fr, [], x :: D⟩ ∨ Pg.Bare ⟨b, kd, fr, [], x :: D⟩) := by rintro (h | h); exact hf h; cases h.2
  refine ⟨if_neg hf, if_neg hf, if_neg hf, if_neg hb, fun ss => if_neg hb⟩
theorem pa_F (hf : ¬ g.Full) (e : g.R = []) (e2 : g.D = []) : paE g = 0 ∧ paV g = g.fresh ∧ paS g = ⟨g.base, g.kind, g.fresh + 1, [], []⟩ ∧ paB g bs = bs ∧ ∀ ss, paT g ss = ss := by
  obtain ⟨b, kd, fr, R0, D0⟩ := g
  simp only at e e2
  subst e e2
  have hb : Pg.Full ⟨b, kd, fr, [], []⟩ ∨ Pg.Bare ⟨b, kd, fr, [], []⟩ := .inr ⟨rfl, rfl⟩
  refine ⟨if_neg hf, if_neg hf, if_neg hf, if_pos hb, fun ss => if_pos hb⟩
theorem Pg.Ok.room (h : g.Ok bs) (hf : ¬ g.Full) (hb : g.Bare) : g.fresh < pp g.kind := by
  have := h.fr
  have h2 : g.fresh ≠ pp g.kind := fun e => hf (h.full.2 ⟨hb, e⟩)
  omega
theorem Pg.Ok.alloc (h : g.Ok bs) : (paS g).Ok (paB g bs) ∧ (paB g bs).length = bs.length := by
  obtain ⟨⟨u1, _⟩, _⟩ := kind_facts g.kind h.kind
  by_cases hf : g.Full
  · obtain ⟨_, _, e1, e2⟩ := pa_full (bs := bs) hf
    rw [e1, e2]
    exact ⟨h, rfl⟩
  · cases hR : g.R with
    | cons x R =>
      obtain ⟨_, _, e1, e2, _⟩ := pa_R (bs := bs) hf hR
      have hb := h.block (h.lr x (by rw [hR]; exact List.mem_cons_self ..))
      rw [e1, e2]
      exact ⟨h.popR hR, over_length _ _ _ (by rw [leb_length]; have := h.fit; omega)⟩
    | nil =>
      cases hD : g.D with
      | cons x D =>
        obtain ⟨_, _, e1, e2, _⟩ := pa_D (bs := bs) hf hR hD
        have hb := h.block (h.ld x (by rw [hD]; exact List.mem_cons_self ..))
        rw [e1, e2]
        exact ⟨(h.turn hR).popR (x := x) (R := D) hD, over_length _ _ _ (by rw [leb_length]; have := h.fit; omega)⟩
      | nil =>
        obtain ⟨_, _, e1, e2, _⟩ := pa_F (bs := bs) hf hR hD
        rw [e1, e2]
        have := h.more (h.room hf ⟨hR, hD⟩)
        rw [hR, hD] at this
        exact ⟨this, rfl⟩
end
/-- Free. -/
abbrev Pg.Block (g : Pg) (k : Int) : Prop := 0 ≤ k ∧ k < pp g.kind
abbrev Pg.May (g : Pg) (k : Int) : Prop := g.Block k ∧ g.Had k.toNat
def pfE (g : Pg) (k : Int) : Int := if g.Block k then (if g.Had k.toNat then 0 else 13) else 12
def pfS (g : Pg) (k : Int) : Pg := if g.May k then ⟨g.base, g.kind, g.fresh, g.R, k.toNat :: g.D⟩ else g
def nz (n : Nat) : List UInt8 := List.replicate n 0
theorem nz_length (n : Nat) : (nz n).length = n := by simp [nz]
def pfB (g : Pg) (bs : List UInt8) (k : Int) : List UInt8 := if g.May k then over (over bs (g.pos k.toNat) (nz (pu g.kind))) (g.pos k.toNat) (leb (lnk g.D) 8) else bs
def pfT (g : Pg) (ss : List Sp) (k : Int) : List Sp := if g.May k then ss ++ [((g.pos k.toNat : Int), (pu g.kind : Int), true)] ++ [((g.pos k.toNat : Int), (8 : Int), true)] else ss
section
variable {g : Pg} {bs : List UInt8}
theorem Pg.Ok.free (h : g.Ok bs) (k : Int) : (pfS g k).Ok (pfB g bs k) ∧ (pfB g bs k).length = bs.length := by
  unfold pfS pfB
  by_cases hm : g.May k
  · rw [if_pos hm, if_pos hm]
    obtain ⟨⟨h0, h1⟩, h2, h3, h4⟩ := hm
    have hx : k.toNat < pp g.kind := by omega
    have hb := h.block hx
    obtain ⟨⟨u1, _⟩, ⟨_, v2⟩, _⟩ := kind_facts g.kind h.kind
    have hl1 : (nz (pu g.kind)).length ≤ pu g.kind := by rw [nz_length]; omega
    have hl2 : (leb (lnk g.D) 8).length ≤ pu g.kind := by rw [leb_length]; omega
    have k1 := h.lay hx hl1 h3 h4
    have e1 : (over bs (g.pos k.toNat) (nz (pu g.kind))).length = bs.length := over_length _ _ _ (by rw [nz_length]; have := h.fit; omega)
    have k2 := k1.lay (ds := leb (lnk g.D) 8) hx hl2 h3 h4
    have e2 : (over (over bs (g.pos k.toNat) (nz (pu g.kind))) (g.pos k.toNat) (leb (lnk g.D) 8)).length = bs.length := (over_length _ _ _ (by rw [leb_length, e1]; have := h.fit; omega)).trans e1
    have hld : lnk g.D ≤ pp g.kind := by
      cases hD : g.D with
      | nil => exact Nat.zero_le _
      | cons y L => exact h.ld y (by rw [hD]; exact List.mem_cons_self ..)
    refine ⟨⟨h.kind, h.mod, k2.fit, k2.r, ⟨?_, k2.d⟩, ?_, fun y hy => ?_, h.fr⟩, e2⟩
    · show wd _ (g.pos k.toNat) = _
      exact wd_same (by rw [e1]; have := h.fit; omega) (by omega)
    · rw [List.nodup_append]
      have hn := h.nd
      rw [List.nodup_append] at hn
      refine ⟨hn.1, List.nodup_cons.2 ⟨h4, hn.2.1⟩, fun a ha b hb => ?_⟩
      rw [List.mem_cons] at hb
      rcases hb with rfl | hb
      · rintro rfl; exact h3 ha
      · exact hn.2.2 a ha b hb
    · rw [List.mem_append, List.mem_cons] at hy
      rcases hy with hy | rfl | hy
      · exact h.lt y (List.mem_append_left _ hy)
      · exact h2
      · exact h.lt y (List.mem_append_right _ hy)
  · rw [if_neg hm, if_neg hm]
    exact ⟨h, rfl⟩
end
/-- All bytes are 0 but for blocks that are had, and the first words of those that were given back. -/
def Pg.Clean (g : Pg) (bs : List UInt8) : Prop := ∀ i, g.base ≤ i → i < g.base + 512 → bs[i]?.getD 0 ≠ 0 → ∃ x, x < pp g.kind ∧ ((g.Had x ∧ g.pos x ≤ i ∧ i < g.pos x + pu g.kind) ∨ ((x ∈ g.R ∨ x ∈ g.D) ∧ g.pos x ≤ i ∧ i < g.pos x + 8))
section
variable {g : Pg} {bs : List UInt8}
/-- A block that Alloc gives is all 0, and wasn't had. -/
theorem Pg.Clean.block (hc : g.Clean bs) (h : g.Ok bs) {x : Nat} (hx : x < pp g.kind) (hn : ¬ g.Had x) (hr : x ∉ g.R) (hd : x ∉ g.D) : ∀ i, g.pos x ≤ i → i < g.pos x + pu g.kind → bs[i]?.getD 0 = 0 := by
  intro i h1 h2
  have hb := h.block hx
  obtain ⟨⟨u1, _⟩, _⟩ := kind_facts g.kind h.kind
  apply Classical.byContradiction
  intro hne
  obtain ⟨y, hy, h3⟩ := hc i (by omega) (by omega) hne
  have hyx : y = x := Classical.byContradiction fun hne2 => by
    have := Pg.apart (g := g) hne2
    omega
  subst hyx
  rcases h3 with h3 | h3
  · exact hn h3.1
  · rcases h3.1 with m | m
    · exact hr m
    · exact hd m
end
end Go.Proofs.YtihaifnenjngpaaGreatDoor
