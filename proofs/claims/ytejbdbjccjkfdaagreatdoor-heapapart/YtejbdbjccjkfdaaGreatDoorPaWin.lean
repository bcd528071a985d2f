/-
  A page of small blocks: plain mathematics off the document. Nothing of the program is named here.
  A page's bytes seen from its beginning: plain mathematics.
-/
import Derived.Test.YtejbdbjccjkfdaaGreatDoorClBase
namespace Go.Proofs.YtejbdbjccjkfdaaGreatDoor
open Go.RowKit
open An

/-- A small kind's bytes, and how many blocks a page of it has. -/
def pu (k : Nat) : Nat := (unitI k).toNat
def pp (k : Nat) : Nat := (perI k).toNat
theorem kind_facts (k : Nat) (h : k ≤ 7) : (16 ≤ pu k ∧ pu k ≤ 256) ∧ (2 ≤ pp k ∧ pp k ≤ 32) ∧ pu k * pp k ≤ 512 ∧ unitI k = (pu k : Int) ∧ perI k = (pp k : Int) := by
  have : ∀ k : Fin 8, (16 ≤ pu k ∧ pu k ≤ 256) ∧ (2 ≤ pp k ∧ pp k ≤ 32) ∧ pu k * pp k ≤ 512 ∧ unitI k = (pu k : Int) ∧ perI k = (pp k : Int) := by decide
  exact this ⟨k, by omega⟩
/-- A page: where it lies, of which kind, the first block that was never had, the free ones and the deferred ones. -/
structure Pg where
  base : Nat
  kind : Nat
  fresh : Nat
  R : List Nat
  D : List Nat
def Pg.ck (g : Pg) (h : Nat) : Ck := ⟨g.base, pu g.kind, pp g.kind, h⟩
def Pg.pos (g : Pg) (x : Nat) : Nat := g.base + x * pu g.kind
theorem Pg.ck_pos (g : Pg) (h x : Nat) : (g.ck h).pos x = g.pos x := rfl
abbrev Pg.Had (g : Pg) (x : Nat) : Prop := x < g.fresh ∧ x ∉ g.R ∧ x ∉ g.D
def Pg.used (g : Pg) : Nat := g.fresh - g.R.length - g.D.length
structure Pg.Ok (g : Pg) (bs : List UInt8) : Prop where
  kind : g.kind ≤ 7
  mod : g.base % 512 = 0
  fit : g.base + 512 ≤ bs.length
  r : Rep (g.ck 0) bs g.R
  d : Rep (g.ck 0) bs g.D
  nd : (g.R ++ g.D).Nodup
  lt : ∀ x ∈ g.R ++ g.D, x < g.fresh
  fr : g.fresh ≤ pp g.kind
section
variable {g : Pg} {bs : List UInt8}
theorem Pg.Ok.ck (h : g.Ok bs) {v : Nat} (hv : v ≤ pp g.kind) : (g.ck v).Ok bs.length := by
  obtain ⟨⟨h1, h2⟩, ⟨h3, h4⟩, h5, _⟩ := kind_facts g.kind h.kind
  exact ⟨by show 8 ≤ pu g.kind; omega, by show pu g.kind ≤ 512; omega, by show 1 ≤ pp g.kind; omega, by show pp g.kind ≤ 64; omega, hv, by show g.base + pu g.kind * pp g.kind ≤ bs.length; have := h.fit; omega⟩
theorem Pg.Ok.lr (h : g.Ok bs) : ∀ x ∈ g.R, x < pp g.kind := fun x hx => Nat.lt_of_lt_of_le (h.lt x (List.mem_append_left _ hx)) h.fr
theorem Pg.Ok.ld (h : g.Ok bs) : ∀ x ∈ g.D, x < pp g.kind := fun x hx => Nat.lt_of_lt_of_le (h.lt x (List.mem_append_right _ hx)) h.fr
theorem Pg.Ok.count (h : g.Ok bs) : g.R.length + g.D.length ≤ g.fresh := by
  have := nodup_short g.fresh (g.R ++ g.D) h.nd h.lt
  rwa [List.length_append] at this
/-- A block's bytes lie within the page. -/
theorem Pg.Ok.block (h : g.Ok bs) {x : Nat} (hx : x < pp g.kind) : g.base ≤ g.pos x ∧ g.pos x + pu g.kind ≤ g.base + 512 := by
  obtain ⟨_, _, h5, _⟩ := kind_facts g.kind h.kind
  have h3 : (x + 1) * pu g.kind ≤ pp g.kind * pu g.kind := Nat.mul_le_mul_right _ hx
  rw [Nat.add_mul, Nat.one_mul, Nat.mul_comm (pp g.kind)] at h3
  unfold Pg.pos
  omega
theorem Pg.apart {x y : Nat} (hn : x ≠ y) : g.pos x + pu g.kind ≤ g.pos y ∨ g.pos y + pu g.kind ≤ g.pos x := by
  unfold Pg.pos
  rcases Nat.lt_or_gt_of_ne hn with e | e
  · have h3 : (x + 1) * pu g.kind ≤ y * pu g.kind := Nat.mul_le_mul_right _ e
    rw [Nat.add_mul, Nat.one_mul] at h3
    omega
  · have h3 : (y + 1) * pu g.kind ≤ x * pu g.kind := Nat.mul_le_mul_right _ e
    rw [Nat.add_mul, Nat.one_mul] at h3
    omega
end
theorem lnk_lt {m : Nat} : ∀ {L : List Nat}, (∀ x ∈ L, x < m) → lnk L ≤ m
  | [], _ => Nat.zero_le _
  | y :: _, h => h y (List.mem_cons_self ..)
/-- A page that lies in an arena of so many bytes: all that Move asks. -/
structure Pg.Fit (g : Pg) (n : Nat) : Prop where
  kind : g.kind ≤ 7
  mod : g.base % 512 = 0
  fit : g.base + 512 ≤ n
  r : lnk g.R ≤ pp g.kind
  d : lnk g.D ≤ pp g.kind
theorem Pg.Ok.lies {g : Pg} {bs : List UInt8} (h : g.Ok bs) : g.Fit bs.length := ⟨h.kind, h.mod, h.fit, lnk_lt h.lr, lnk_lt h.ld⟩
theorem Pg.Fit.ck {g : Pg} {n : Nat} (h : g.Fit n) {v : Nat} (hv : v ≤ pp g.kind) : (g.ck v).Ok n := by
  obtain ⟨⟨h1, h2⟩, ⟨h3, h4⟩, h5, _⟩ := kind_facts g.kind h.kind
  exact ⟨by show 8 ≤ pu g.kind; omega, by show pu g.kind ≤ 512; omega, by show 1 ≤ pp g.kind; omega, by show pp g.kind ≤ 64; omega, hv, by show g.base + pu g.kind * pp g.kind ≤ n; have := h.fit; omega⟩
theorem wd_far {bs ds : List UInt8} {p q : Nat} (h : p + ds.length ≤ bs.length) (hq : q + 8 ≤ p ∨ p + ds.length ≤ q) : wd (over bs p ds) q = wd bs q := by
  unfold wd
  congr 1
  apply List.ext_getElem?
  intro i
  by_cases hi : i < 8
  · rw [List.getElem?_take_of_lt hi, List.getElem?_take_of_lt hi, List.getElem?_drop, List.getElem?_drop, over_get? bs p _ h]
    by_cases h1 : q + i < p
    · rw [if_pos h1]
    · rw [if_neg h1, if_neg (by omega)]
  · rw [List.getElem?_eq_none (by simp; omega), List.getElem?_eq_none (by simp; omega)]
/-- Bytes of a block that isn't of the chain are laid anew. -/
theorem rep_lay {g : Pg} {bs ds : List UInt8} (h : g.Ok bs) {x : Nat} (hx : x < pp g.kind) (hd : ds.length ≤ pu g.kind) : ∀ {L : List Nat}, Rep (g.ck 0) bs L → x ∉ L → Rep (g.ck 0) (over bs (g.pos x) ds) L
  | [], _, _ => trivial
  | y :: L, ⟨h1, h2⟩, hn => by
    simp only [List.mem_cons, not_or] at hn
    obtain ⟨⟨u1, _⟩, _⟩ := kind_facts g.kind h.kind
    have hb := h.block hx
    have ha := Pg.apart (g := g) hn.1
    refine ⟨?_, rep_lay h hx hd h2 hn.2⟩
    rw [wd_far (by have := h.fit; omega) (by rw [Pg.ck_pos]; omega)]
    exact h1
/-- Somebody lays bytes into a block that is had, or fresh. -/
theorem Pg.Ok.lay {g : Pg} {bs ds : List UInt8} (h : g.Ok bs) {x : Nat} (hx : x < pp g.kind) (hd : ds.length ≤ pu g.kind) (hr : x ∉ g.R) (hD : x ∉ g.D) : g.Ok (over bs (g.pos x) ds) := by
  have hb := h.block hx
  refine ⟨h.kind, h.mod, ?_, rep_lay h hx hd h.r hr, rep_lay h hx hd h.d hD, h.nd, h.lt, h.fr⟩
  rw [over_length _ _ _ (by have := h.fit; omega)]
  exact h.fit
/-- Alloc. -/
abbrev Pg.Full (g : Pg) : Prop := g.used = pp g.kind
def paK (g : Pg) : Nat := match g.R, g.D with
  | x :: _, _ => x
  | [], x :: _ => x
  | [], [] => g.fresh
def paE (g : Pg) : Int := if g.Full then 10 else 0
def paV (g : Pg) : Int := if g.Full then 0 else (paK g : Int)
def paS (g : Pg) : Pg := if g.Full then g else match g.R, g.D with
  | _ :: R, D => ⟨g.base, g.kind, g.fresh, R, D⟩
  | [], _ :: D => ⟨g.base, g.kind, g.fresh, D, []⟩
  | [], [] => ⟨g.base, g.kind, g.fresh + 1, [], []⟩
abbrev Pg.Bare (g : Pg) : Prop := g.R = [] ∧ g.D = []
def paB (g : Pg) (bs : List UInt8) : List UInt8 := if g.Full ∨ g.Bare then bs else over bs (g.pos (paK g)) (leb 0 8)
def paT (g : Pg) (ss : List Sp) : List Sp := if g.Full ∨ g.Bare then ss else ss ++ [((g.pos (paK g) : Int), (8 : Int), false)] ++ [((g.pos (paK g) : Int), (8 : Int), true)]
section
variable {g : Pg} {bs : List UInt8}
theorem Pg.Ok.full (h : g.Ok bs) : g.Full ↔ g.Bare ∧ g.fresh = pp g.kind := by
  have h1 := h.count
  have h2 := h.fr
  obtain ⟨_, ⟨h3, _⟩, _⟩ := kind_facts g.kind h.kind
  unfold Pg.Full Pg.used Pg.Bare
  constructor
  · intro e
    exact ⟨⟨List.eq_nil_of_length_eq_zero (by omega), List.eq_nil_of_length_eq_zero (by omega)⟩, by omega⟩
  · rintro ⟨⟨e1, e2⟩, e3⟩
    rw [e1, e2]
    simp [e3]
theorem Pg.Ok.popR (h : g.Ok bs) {x : Nat} {R : List Nat} (e : g.R = x :: R) : Pg.Ok ⟨g.base, g.kind, g.fresh, R, g.D⟩ (over bs (g.pos x) (leb 0 8)) := by
  have hx : x < pp g.kind := h.lr x (by rw [e]; exact List.mem_cons_self ..)
  obtain ⟨⟨u1, _⟩, _⟩ := kind_facts g.kind h.kind
  have hnd := h.nd
  have hr := h.r
  rw [e] at hnd hr
  rw [List.cons_append, List.nodup_cons] at hnd
  have hb := h.block hx
  have hl : (leb 0 8).length ≤ pu g.kind := by rw [leb_length]; omega
  refine ⟨h.kind, h.mod, by rw [over_length _ _ _ (by have := h.fit; omega)]; exact h.fit, rep_lay h hx hl hr.2 fun m => hnd.1 (List.mem_append_left _ m), rep_lay h hx hl h.d fun m => hnd.1 (List.mem_append_right _ m), hnd.2, fun y hy => h.lt y ?_, h.fr⟩
  rw [e]
  exact List.mem_cons_of_mem _ hy
/-- The deferred ones are the free ones now. -/
theorem Pg.Ok.turn (h : g.Ok bs) (e : g.R = []) : Pg.Ok ⟨g.base, g.kind, g.fresh, g.D, []⟩ bs := by
  have hnd := h.nd
  have hlt := h.lt
  rw [e, List.nil_append] at hnd hlt
  exact ⟨h.kind, h.mod, h.fit, h.d, trivial, by rw [List.append_nil]; exact hnd, by rw [List.append_nil]; exact hlt, h.fr⟩
theorem Pg.Ok.more (h : g.Ok bs) (hf : g.fresh < pp g.kind) : Pg.Ok ⟨g.base, g.kind, g.fresh + 1, g.R, g.D⟩ bs := ⟨h.kind, h.mod, h.fit, h.r, h.d, h.nd, fun x hx => Nat.lt_succ_of_lt (h.lt x hx), hf⟩
/-- The four ways of Alloc. -/
theorem pa_full (hf : g.Full) : paE g = 10 ∧ paV g = 0 ∧ paS g = g ∧ paB g bs = bs := ⟨if_pos hf, if_pos hf, if_pos hf, if_pos (.inl hf)⟩
theorem pa_R {x : Nat} {R : List Nat} (hf : ¬ g.Full) (e : g.R = x :: R) : paE g = 0 ∧ paV g = x ∧ paS g = ⟨g.base, g.kind, g.fresh, R, g.D⟩ ∧ paB g bs = over bs (g.pos x) (leb 0 8) ∧ ∀ ss, paT g ss = ss ++ [((g.pos x : Int), (8 : Int), false)] ++ [((g.pos x : Int), (8 : Int), true)] := by
  obtain ⟨b, kd, fr, R0, D⟩ := g
  simp only at e
  subst e
  have hb : ¬ (Pg.Full ⟨b, kd, fr, x :: R, D⟩ ∨ Pg.Bare ⟨b, kd, fr, x :: R, D⟩) := by rintro (h | h); exact hf h; cases h.1
  refine ⟨if_neg hf, if_neg hf, if_neg hf, if_neg hb, fun ss => if_neg hb⟩
theorem pa_D {x : Nat} {D : List Nat} (hf : ¬ g.Full) (e : g.R = []) (e2 : g.D = x :: D) : paE g = 0 ∧ paV g = x ∧ paS g = ⟨g.base, g.kind, g.fresh, D, []⟩ ∧ paB g bs = over bs (g.pos x) (leb 0 8) ∧ ∀ ss, paT g ss = ss ++ [((g.pos x : Int), (8 : Int), false)] ++ [((g.pos x : Int), (8 : Int), true)] := by
  obtain ⟨b, kd, fr, R0, D0⟩ := g
  simp only at e e2
  subst e e2
  have hb : ¬ (Pg.Full ⟨b, kd, fr, [], x :: D⟩ ∨ Pg.Bare ⟨b, kd, fr, [], x :: D⟩) := by rintro (h | h); exact hf h; cases h.2
  refine ⟨if_neg hf, if_neg hf, if_neg hf, if_neg hb, fun ss => if_neg hb⟩
theorem pa_F (hf : ¬ g.Full) (e : g.R = []) (e2 : g.D = []) : paE g = 0 ∧ paV g = g.fresh ∧ paS g = ⟨g.base, g.kind, g.fresh + 1, [], []⟩ ∧ paB g bs = bs ∧ ∀ ss, paT g ss = ss := by
  obtain ⟨b, kd, fr, R0, D0⟩ := g
  simp only at e e2
  subst e e2
  have hb : Pg.Full ⟨b, kd, fr, [], []⟩ ∨ Pg.Bare ⟨b, kd, fr, [], []⟩ := .inr ⟨rfl, rfl⟩
  refine ⟨if_neg hf, if_neg hf, if_neg hf, if_pos hb, fun ss => if_pos hb⟩
theorem Pg.Ok.room (h : g.Ok bs) (hf : ¬ g.Full) (hb : g.Bare) : g.fresh < pp g.kind := by
  have := h.fr
  have h2 : g.fresh ≠ pp g.kind := fun e => hf (h.full.2 ⟨hb, e⟩)
  omega
theorem Pg.Ok.alloc (h : g.Ok bs) : (paS g).Ok (paB g bs) ∧ (paB g bs).length = bs.length := by
  obtain ⟨⟨u1, _⟩, _⟩ := kind_facts g.kind h.kind
  by_cases hf : g.Full
  · obtain ⟨_, _, e1, e2⟩ := pa_full (bs := bs) hf
    rw [e1, e2]
    exact ⟨h, rfl⟩
  · cases hR : g.R with
    | cons x R =>
      obtain ⟨_, _, e1, e2, _⟩ := pa_R (bs := bs) hf hR
      have hb := h.block (h.lr x (by rw [hR]; exact List.mem_cons_self ..))
      rw [e1, e2]
      exact ⟨h.popR hR, over_length _ _ _ (by rw [leb_length]; have := h.fit; omega)⟩
    | nil =>
      cases hD : g.D with
      | cons x D =>
        obtain ⟨_, _, e1, e2, _⟩ := pa_D (bs := bs) hf hR hD
        have hb := h.block (h.ld x (by rw [hD]; exact List.mem_cons_self ..))
        rw [e1, e2]
        exact ⟨(h.turn hR).popR (x := x) (R := D) hD, over_length _ _ _ (by rw [leb_length]; have := h.fit; omega)⟩
      | nil =>
        obtain ⟨_, _, e1, e2, _⟩ := pa_F (bs := bs) hf hR hD
        rw [e1, e2]
        have := h.more (h.room hf ⟨hR, hD⟩)
        rw [hR, hD] at this
        exact ⟨this, rfl⟩
end
/-- Free. -/
abbrev Pg.Block (g : Pg) (k : Int) : Prop := 0 ≤ k ∧ k < pp g.kind
abbrev Pg.May (g : Pg) (k : Int) : Prop := g.Block k ∧ g.Had k.toNat
def pfE (g : Pg) (k : Int) : Int := if g.Block k then (if g.Had k.toNat then 0 else 13) else 12
def pfS (g : Pg) (k : Int) : Pg := if g.May k then ⟨g.base, g.kind, g.fresh, g.R, k.toNat :: g.D⟩ else g
def nz (n : Nat) : List UInt8 := List.replicate n 0
theorem nz_length (n : Nat) : (nz n).length = n := by simp [nz]
def pfB (g : Pg) (bs : List UInt8) (k : Int) : List UInt8 := if g.May k then over (over bs (g.pos k.toNat) (nz (pu g.kind))) (g.pos k.toNat) (leb (lnk g.D) 8) else bs
def pfT (g : Pg) (ss : List Sp) (k : Int) : List Sp := if g.May k then ss ++ [((g.pos k.toNat : Int), (pu g.kind : Int), true)] ++ [((g.pos k.toNat : Int), (8 : Int), true)] else ss
section
variable {g : Pg} {bs : List UInt8}
theorem Pg.Ok.free (h : g.Ok bs) (k : Int) : (pfS g k).Ok (pfB g bs k) ∧ (pfB g bs k).length = bs.length := by
  unfold pfS pfB
  by_cases hm : g.May k
  · rw [if_pos hm, if_pos hm]
    obtain ⟨⟨h0, h1⟩, h2, h3, h4⟩ := hm
    have hx : k.toNat < pp g.kind := by omega
    have hb := h.block hx
    obtain ⟨⟨u1, _⟩, ⟨_, v2⟩, _⟩ := kind_facts g.kind h.kind
    have hl1 : (nz (pu g.kind)).length ≤ pu g.kind := by rw [nz_length]; omega
    have hl2 : (leb (lnk g.D) 8).length ≤ pu g.kind := by rw [leb_length]; omega
    have k1 := h.lay hx hl1 h3 h4
    have e1 : (over bs (g.pos k.toNat) (nz (pu g.kind))).length = bs.length := over_length _ _ _ (by rw [nz_length]; have := h.fit; omega)
    have k2 := k1.lay (ds := leb (lnk g.D) 8) hx hl2 h3 h4
    have e2 : (over (over bs (g.pos k.toNat) (nz (pu g.kind))) (g.pos k.toNat) (leb (lnk g.D) 8)).length = bs.length := (over_length _ _ _ (by rw [leb_length, e1]; have := h.fit; omega)).trans e1
    have hld : lnk g.D ≤ pp g.kind := by
      cases hD : g.D with
      | nil => exact Nat.zero_le _
      | cons y L => exact h.ld y (by rw [hD]; exact List.mem_cons_self ..)
    refine ⟨⟨h.kind, h.mod, k2.fit, k2.r, ⟨?_, k2.d⟩, ?_, fun y hy => ?_, h.fr⟩, e2⟩
    · show wd _ (g.pos k.toNat) = _
      exact wd_same (by rw [e1]; have := h.fit; omega) (by omega)
    · rw [List.nodup_append]
      have hn := h.nd
      rw [List.nodup_append] at hn
      refine ⟨hn.1, List.nodup_cons.2 ⟨h4, hn.2.1⟩, fun a ha b hb => ?_⟩
      rw [List.mem_cons] at hb
      rcases hb with rfl | hb
      · rintro rfl; exact h3 ha
      · exact hn.2.2 a ha b hb
    · rw [List.mem_append, List.mem_cons] at hy
      rcases hy with hy | rfl | hy
      · exact h.lt y (List.mem_append_left _ hy)
      · exact h2
      · exact h.lt y (List.mem_append_right _ hy)
  · rw [if_neg hm, if_neg hm]
    exact ⟨h, rfl⟩
end
/-- All bytes are 0 but for blocks that are had, and the first words of those that were given back. -/
def Pg.Clean (g : Pg) (bs : List UInt8) : Prop := ∀ i, g.base ≤ i → i < g.base + 512 → bs[i]?.getD 0 ≠ 0 → ∃ x, x < pp g.kind ∧ ((g.Had x ∧ g.pos x ≤ i ∧ i < g.pos x + pu g.kind) ∨ ((x ∈ g.R ∨ x ∈ g.D) ∧ g.pos x ≤ i ∧ i < g.pos x + 8))
section
variable {g : Pg} {bs : List UInt8}
/-- A block that Alloc gives is all 0, and wasn't had. -/
theorem Pg.Clean.block (hc : g.Clean bs) (h : g.Ok bs) {x : Nat} (hx : x < pp g.kind) (hn : ¬ g.Had x) (hr : x ∉ g.R) (hd : x ∉ g.D) : ∀ i, g.pos x ≤ i → i < g.pos x + pu g.kind → bs[i]?.getD 0 = 0 := by
  intro i h1 h2
  have hb := h.block hx
  obtain ⟨⟨u1, _⟩, _⟩ := kind_facts g.kind h.kind
  apply Classical.byContradiction
  intro hne
  obtain ⟨y, hy, h3⟩ := hc i (by omega) (by omega) hne
  have hyx : y = x := Classical.byContradiction fun hne2 => by
    have := Pg.apart (g := g) hne2
    omega
  subst hyx
  rcases h3 with h3 | h3
  · exact hn h3.1
  · rcases h3.1 with m | m
    · exact hr m
    · exact hd m
end
end Go.Proofs.YtejbdbjccjkfdaaGreatDoor

namespace Go.Proofs.YtejbdbjccjkfdaaGreatDoor
open Go.RowKit
open An

/-- 512 bytes from a place on. -/
def win (bs : List UInt8) (b : Nat) : List UInt8 := (bs.drop b).take 512
theorem win_get? (bs : List UInt8) (b i : Nat) (hi : i < 512) : (win bs b)[i]? = bs[b + i]? := by unfold win; rw [List.getElem?_take_of_lt hi, List.getElem?_drop]
theorem win_length {bs : List UInt8} {b : Nat} (h : b + 512 ≤ bs.length) : (win bs b).length = 512 := by unfold win; simp; omega
theorem win_over {bs ds : List UInt8} {b q : Nat} (h : b + 512 ≤ bs.length) (hq : q + ds.length ≤ 512) : win (over bs (b + q) ds) b = over (win bs b) q ds := by
  have hl : (over bs (b + q) ds).length = bs.length := over_length _ _ _ (by omega)
  apply List.ext_getElem?
  intro i
  by_cases hi : i < 512
  · rw [win_get? _ _ _ hi, over_get? _ _ _ (by omega), over_get? _ _ _ (by rw [win_length h]; exact hq), win_get? _ _ _ hi]
    by_cases h1 : i < q
    · rw [if_pos (by omega), if_pos h1]
    · rw [if_neg (by omega), if_neg h1]
      by_cases h2 : i < q + ds.length
      · rw [if_pos (by omega), if_pos h2]
        congr 1
        omega
      · rw [if_neg (by omega), if_neg h2]
  · rw [List.getElem?_eq_none (by rw [win_length (by rw [hl]; exact h)]; omega), List.getElem?_eq_none (by rw [over_length _ _ _ (by rw [win_length h]; exact hq), win_length h]; omega)]
/-- What is laid elsewhere leaves them. -/
theorem win_far {bs ds : List UInt8} {b p : Nat} (hp : p + ds.length ≤ bs.length) (h : p + ds.length ≤ b ∨ b + 512 ≤ p) : win (over bs p ds) b = win bs b := by
  apply List.ext_getElem?
  intro i
  by_cases hi : i < 512
  · rw [win_get? _ _ _ hi, win_get? _ _ _ hi, over_get? _ _ _ hp]
    by_cases h1 : b + i < p
    · rw [if_pos h1]
    · rw [if_neg h1, if_neg (by omega)]
  · unfold win
    rw [List.getElem?_eq_none (by simp; omega), List.getElem?_eq_none (by simp; omega)]
theorem wd_win (bs : List UInt8) (b q : Nat) (hq : q + 8 ≤ 512) : wd (win bs b) q = wd bs (b + q) := by
  unfold wd
  congr 1
  apply List.ext_getElem?
  intro i
  by_cases hi : i < 8
  · rw [List.getElem?_take_of_lt hi, List.getElem?_take_of_lt hi, List.getElem?_drop, List.getElem?_drop, win_get? _ _ _ (by omega), Nat.add_assoc]
  · rw [List.getElem?_eq_none (by simp; omega), List.getElem?_eq_none (by simp; omega)]
/-- Two pages that are alike but for where they lie. -/
structure Like (g g' : Pg) (bs bs' : List UInt8) : Prop where
  kind : g.kind = g'.kind
  fresh : g.fresh = g'.fresh
  r : g.R = g'.R
  d : g.D = g'.D
  same : win bs g.base = win bs' g'.base
  mod : g.base % 512 = 0
  fit : g.base + 512 ≤ bs.length
section
variable {g g' : Pg} {bs bs' : List UInt8}
theorem rep_win {kd b b' : Nat} (hk : kd ≤ 7) (hw : win bs b = win bs' b') : ∀ {L : List Nat}, (∀ x ∈ L, x < pp kd) → (Rep ⟨b', pu kd, pp kd, 0⟩ bs' L → Rep ⟨b, pu kd, pp kd, 0⟩ bs L)
  | [], _, _ => trivial
  | y :: L, hl, ⟨h1, h2⟩ => by
    obtain ⟨⟨u1, _⟩, _, u3, _⟩ := kind_facts kd hk
    have hy := hl y (List.mem_cons_self ..)
    have h3 : (y + 1) * pu kd ≤ pp kd * pu kd := Nat.mul_le_mul_right _ hy
    rw [Nat.add_mul, Nat.one_mul, Nat.mul_comm (pp kd)] at h3
    refine ⟨?_, rep_win hk hw (fun x hx => hl x (List.mem_cons_of_mem _ hx)) h2⟩
    show wd bs (b + y * pu kd) = _
    rw [← wd_win bs b _ (by omega), hw, wd_win bs' b' _ (by omega)]
    exact h1
theorem Like.ok (h : Like g g' bs bs') (ok : g'.Ok bs') : g.Ok bs := by
  obtain ⟨b, kd, fr, R, D⟩ := g
  obtain ⟨b', kd', fr', R', D'⟩ := g'
  obtain ⟨rfl, rfl, rfl, rfl, hw, hm, hf⟩ := h
  exact ⟨ok.kind, hm, hf, rep_win ok.kind hw ok.lr ok.r, rep_win ok.kind hw ok.ld ok.d, ok.nd, ok.lt, ok.fr⟩
theorem Like.alloc (h : Like g g' bs bs') (ok : g'.Ok bs') : Like (paS g) (paS g') (paB g bs) (paB g' bs') ∧ (paS g).base = g.base ∧ ∀ b, (b + 512 ≤ g.base ∨ g.base + 512 ≤ b) → win (paB g bs) b = win bs b := by
  obtain ⟨b, kd, fr, R, D⟩ := g
  obtain ⟨b', kd', fr', R', D'⟩ := g'
  obtain ⟨rfl, rfl, rfl, rfl, hw, hm, hf⟩ := h
  obtain ⟨⟨u1, u2⟩, _, u3, _⟩ := kind_facts kd ok.kind
  have key : ∀ x, x < pp kd → win (over bs (b + x * pu kd) (leb 0 8)) b = win (over bs' (b' + x * pu kd) (leb 0 8)) b' ∧ b + 512 ≤ (over bs (b + x * pu kd) (leb 0 8)).length ∧ ∀ c, (c + 512 ≤ b ∨ b + 512 ≤ c) → win (over bs (b + x * pu kd) (leb 0 8)) c = win bs c := fun x hx => by
    have h3 : (x + 1) * pu kd ≤ pp kd * pu kd := Nat.mul_le_mul_right _ hx
    rw [Nat.add_mul, Nat.one_mul, Nat.mul_comm (pp kd)] at h3
    have hl : x * pu kd + (leb 0 8).length ≤ 512 := by rw [leb_length]; omega
    have hfb : b + 512 ≤ bs.length := hf
    refine ⟨?_, ?_, fun c hc => win_far (by omega) (by omega)⟩
    · rw [win_over hf hl, win_over ok.fit hl]
      exact congrArg (fun z => over z _ _) hw
    · rw [over_length _ _ _ (by omega)]; exact hf
  by_cases hfl : Pg.Full ⟨b, kd, fr, R, D⟩
  · obtain ⟨_, _, e1, e2⟩ := pa_full (bs := bs) hfl
    have hfl' : Pg.Full ⟨b', kd, fr, R, D⟩ := hfl
    obtain ⟨_, _, e3, e4⟩ := pa_full (bs := bs') hfl'
    rw [e1, e2, e3, e4]
    exact ⟨⟨rfl, rfl, rfl, rfl, hw, hm, hf⟩, rfl, fun _ _ => rfl⟩
  · have hfl' : ¬ Pg.Full ⟨b', kd, fr, R, D⟩ := hfl
    cases R with
    | cons x R =>
      obtain ⟨_, _, e1, e2, _⟩ := pa_R (bs := bs) hfl rfl
      obtain ⟨_, _, e3, e4, _⟩ := pa_R (bs := bs') hfl' rfl
      rw [e1, e2, e3, e4]
      obtain ⟨k1, k2, k3⟩ := key x (ok.lr x (List.mem_cons_self ..))
      exact ⟨⟨rfl, rfl, rfl, rfl, k1, hm, k2⟩, rfl, k3⟩
    | nil =>
      cases D with
      | cons x D =>
        obtain ⟨_, _, e1, e2, _⟩ := pa_D (bs := bs) hfl rfl rfl
        obtain ⟨_, _, e3, e4, _⟩ := pa_D (bs := bs') hfl' rfl rfl
        rw [e1, e2, e3, e4]
        obtain ⟨k1, k2, k3⟩ := key x (ok.ld x (List.mem_cons_self ..))
        exact ⟨⟨rfl, rfl, rfl, rfl, k1, hm, k2⟩, rfl, k3⟩
      | nil =>
        obtain ⟨_, _, e1, e2, _⟩ := pa_F (bs := bs) hfl rfl rfl
        obtain ⟨_, _, e3, e4, _⟩ := pa_F (bs := bs') hfl' rfl rfl
        rw [e1, e2, e3, e4]
        exact ⟨⟨rfl, rfl, rfl, rfl, hw, hm, hf⟩, rfl, fun _ _ => rfl⟩
theorem Like.free (h : Like g g' bs bs') (ok : g'.Ok bs') (k : Int) : Like (pfS g k) (pfS g' k) (pfB g bs k) (pfB g' bs' k) ∧ (pfS g k).base = g.base ∧ ∀ b, (b + 512 ≤ g.base ∨ g.base + 512 ≤ b) → win (pfB g bs k) b = win bs b := by
  obtain ⟨b, kd, fr, R, D⟩ := g
  obtain ⟨b', kd', fr', R', D'⟩ := g'
  obtain ⟨rfl, rfl, rfl, rfl, hw, hm, hf⟩ := h
  obtain ⟨⟨u1, u2⟩, _, u3, _⟩ := kind_facts kd ok.kind
  have hfb : b + 512 ≤ bs.length := hf
  have hfb' : b' + 512 ≤ bs'.length := ok.fit
  by_cases hmy : Pg.May ⟨b, kd, fr, R, D⟩ k
  · have hmy' : Pg.May ⟨b', kd, fr, R, D⟩ k := hmy
    have e1 : pfS ⟨b, kd, fr, R, D⟩ k = ⟨b, kd, fr, R, k.toNat :: D⟩ := if_pos hmy
    have e3 : pfS ⟨b', kd, fr, R, D⟩ k = ⟨b', kd, fr, R, k.toNat :: D⟩ := if_pos hmy'
    have e2 : pfB ⟨b, kd, fr, R, D⟩ bs k = over (over bs (b + k.toNat * pu kd) (nz (pu kd))) (b + k.toNat * pu kd) (leb (lnk D) 8) := if_pos hmy
    have e4 : pfB ⟨b', kd, fr, R, D⟩ bs' k = over (over bs' (b' + k.toNat * pu kd) (nz (pu kd))) (b' + k.toNat * pu kd) (leb (lnk D) 8) := if_pos hmy'
    have hx : k.toNat < pp kd := by have h0 : 0 ≤ k ∧ k < (pp kd : Int) := hmy.1; omega
    have h3 : (k.toNat + 1) * pu kd ≤ pp kd * pu kd := Nat.mul_le_mul_right _ hx
    rw [Nat.add_mul, Nat.one_mul, Nat.mul_comm (pp kd)] at h3
    rw [e1, e2, e3, e4]
    generalize k.toNat * pu kd = q at *
    have hl1 : q + (nz (pu kd)).length ≤ 512 := by rw [nz_length]; omega
    have hl2 : q + (leb (lnk D) 8).length ≤ 512 := by rw [leb_length]; omega
    have hn1 : (over bs (b + q) (nz (pu kd))).length = bs.length := over_length _ _ _ (by omega)
    have hn1' : (over bs' (b' + q) (nz (pu kd))).length = bs'.length := over_length _ _ _ (by omega)
    refine ⟨⟨rfl, rfl, rfl, rfl, ?_, hm, ?_⟩, rfl, fun c hc => ?_⟩
    · show win (over (over bs (b + q) (nz (pu kd))) (b + q) (leb (lnk D) 8)) b = win (over (over bs' (b' + q) (nz (pu kd))) (b' + q) (leb (lnk D) 8)) b'
      rw [win_over (by omega) hl2, win_over (by omega) hl2, win_over hfb hl1, win_over hfb' hl1]
      exact congrArg (fun z => over (over z _ _) _ _) hw
    · show b + 512 ≤ _
      rw [over_length _ _ _ (by omega)]; omega
    · simp only at hc
      rw [win_far (by omega) (by omega), win_far (by omega) (by omega)]
  · have hmy' : ¬ Pg.May ⟨b', kd, fr, R, D⟩ k := hmy
    have e1 : pfS ⟨b, kd, fr, R, D⟩ k = ⟨b, kd, fr, R, D⟩ := if_neg hmy
    have e3 : pfS ⟨b', kd, fr, R, D⟩ k = ⟨b', kd, fr, R, D⟩ := if_neg hmy'
    have e2 : pfB ⟨b, kd, fr, R, D⟩ bs k = bs := if_neg hmy
    have e4 : pfB ⟨b', kd, fr, R, D⟩ bs' k = bs' := if_neg hmy'
    rw [e1, e2, e3, e4]
    exact ⟨⟨rfl, rfl, rfl, rfl, hw, hm, hf⟩, rfl, fun _ _ => rfl⟩
end
end Go.Proofs.YtejbdbjccjkfdaaGreatDoor
