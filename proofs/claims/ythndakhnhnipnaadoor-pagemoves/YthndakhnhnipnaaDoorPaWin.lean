/-
  A page's bytes seen from its beginning: plain mathematics.
-/
import Derived.Test.YthndakhnhnipnaaDoorPaAwake
namespace Go.Proofs.YthndakhnhnipnaaDoor
open Go.RowKit
open An

/-- 512 bytes from a place on. -/
def win (bs : List UInt8) (b : Nat) : List UInt8 := (bs.drop b).take 512
theorem win_get? (bs : List UInt8) (b i : Nat) (hi : i < 512) : (win bs b)[i]? = bs[b + i]? := by unfold win; rw [List.getElem?_take_of_lt hi, List.getElem?_drop]
theorem win_length {bs : List UInt8} {b : Nat} (h : b + 512 ≤ bs.length) : (win bs b).length = 512 := by unfold win; simp; omega
theorem win_over {bs ds : List UInt8} {b q : Nat} (h : b + 512 ≤ bs.length) (hq : q + ds.length ≤ 512) : win (over bs (b + q) ds) b = over (win bs b) q ds := by
  have hl : (over bs (b + q) ds).length = bs.length := over_length _ _ _ (by omega)
  apply List.ext_getElem?
  intro i
  by_cases hi : i < 512
  · rw [win_get? _ _ _ hi, over_get? _ _ _ (by omega), over_get? _ _ _ (by rw [win_length h]; exact hq), win_get? _ _ _ hi]
    by_cases h1 : i < q
    · rw [if_pos (by omega), if_pos h1]
    · rw [if_neg (by omega), if_neg h1]
      by_cases h2 : i < q + ds.length
      · rw [if_pos (by omega), if_pos h2]
        congr 1
        omega
      · rw [if_neg (by omega), if_neg h2]
  · rw [List.getElem?_eq_none (by rw [win_length (by rw [hl]; exact h)]; omega), List.getElem?_eq_none (by rw [over_length _ _ _ (by rw [win_length h]; exact hq), win_length h]; omega)]
/-- What is laid elsewhere leaves them. -/
theorem win_far {bs ds : List UInt8} {b p : Nat} (hp : p + ds.length ≤ bs.length) (h : p + ds.length ≤ b ∨ b + 512 ≤ p) : win (over bs p ds) b = win bs b := by
  apply List.ext_getElem?
  intro i
  by_cases hi : i < 512
  · rw [win_get? _ _ _ hi, win_get? _ _ _ hi, over_get? _ _ _ hp]
    by_cases h1 : b + i < p
    · rw [if_pos h1]
    · rw [if_neg h1, if_neg (by omega)]
  · unfold win
    rw [List.getElem?_eq_none (by simp; omega), List.getElem?_eq_none (by simp; omega)]
theorem wd_win (bs : List UInt8) (b q : Nat) (hq : q + 8 ≤ 512) : wd (win bs b) q = wd bs (b + q) := by
  unfold wd
  congr 1
  apply List.ext_getElem?
  intro i
  by_cases hi : i < 8
  · rw [List.getElem?_take_of_lt hi, List.getElem?_take_of_lt hi, List.getElem?_drop, List.getElem?_drop, win_get? _ _ _ (by omega), Nat.add_assoc]
  · rw [List.getElem?_eq_none (by simp; omega), List.getElem?_eq_none (by simp; omega)]
/-- Two pages that are alike but for where they lie. -/
structure Like (g g' : Pg) (bs bs' : List UInt8) : Prop where
  kind : g.kind = g'.kind
  fresh : g.fresh = g'.fresh
  r : g.R = g'.R
  d : g.D = g'.D
  same : win bs g.base = win bs' g'.base
  mod : g.base % 512 = 0
  fit : g.base + 512 ≤ bs.length
section
variable {g g' : Pg} {bs bs' : List UInt8}
theorem rep_win {kd b b' : Nat} (hk : kd ≤ 7) (hw : win bs b = win bs' b') : ∀ {L : List Nat}, (∀ x ∈ L, x < pp kd) → (Rep ⟨b', pu kd, pp kd, 0⟩ bs' L → Rep ⟨b, pu kd, pp kd, 0⟩ bs L)
  | [], _, _ => trivial
  | y :: L, hl, ⟨h1, h2⟩ => by
    obtain ⟨⟨u1, _⟩, _, u3, _⟩ := kind_facts kd hk
    have hy := hl y (List.mem_cons_self ..)
    have h3 : (y + 1) * pu kd ≤ pp kd * pu kd := Nat.mul_le_mul_right _ hy
    rw [Nat.add_mul, Nat.one_mul, Nat.mul_comm (pp kd)] at h3
    refine ⟨?_, rep_win hk hw (fun x hx => hl x (List.mem_cons_of_mem _ hx)) h2⟩
    show wd bs (b + y * pu kd) = _
    rw [← wd_win bs b _ (by omega), hw, wd_win bs' b' _ (by omega)]
    exact h1
theorem Like.ok (h : Like g g' bs bs') (ok : g'.Ok bs') : g.Ok bs := by
  obtain ⟨b, kd, fr, R, D⟩ := g
  obtain ⟨b', kd', fr', R', D'⟩ := g'
  obtain ⟨rfl, rfl, rfl, rfl, hw, hm, hf⟩ := h
  exact ⟨ok.kind, hm, hf, rep_win ok.kind hw ok.lr ok.r, rep_win ok.kind hw ok.ld ok.d, ok.nd, ok.lt, ok.fr⟩
theorem Like.ans (h : Like g g' bs bs') : paV g = paV g' ∧ paE g = paE g' ∧ ∀ k, pfE g k = pfE g' k := by
  obtain ⟨b, kd, fr, R, D⟩ := g
  obtain ⟨b', kd', fr', R', D'⟩ := g'
  obtain ⟨rfl, rfl, rfl, rfl, hw, hm, hf⟩ := h
  exact ⟨rfl, rfl, fun k => rfl⟩
theorem Like.alloc (h : Like g g' bs bs') (ok : g'.Ok bs') : Like (paS g) (paS g') (paB g bs) (paB g' bs') ∧ (paS g).base = g.base ∧ ∀ b, (b + 512 ≤ g.base ∨ g.base + 512 ≤ b) → win (paB g bs) b = win bs b := by
  obtain ⟨b, kd, fr, R, D⟩ := g
  obtain ⟨b', kd', fr', R', D'⟩ := g'
  obtain ⟨rfl, rfl, rfl, rfl, hw, hm, hf⟩ := h
  obtain ⟨⟨u1, u2⟩, _, u3, _⟩ := kind_facts kd ok.kind
  have key : ∀ x, x < pp kd → win (over bs (b + x * pu kd) (leb 0 8)) b = win (over bs' (b' + x * pu kd) (leb 0 8)) b' ∧ b + 512 ≤ (over bs (b + x * pu kd) (leb 0 8)).length ∧ ∀ c, (c + 512 ≤ b ∨ b + 512 ≤ c) → win (over bs (b + x * pu kd) (leb 0 8)) c = win bs c := fun x hx => by
    have h3 : (x + 1) * pu kd ≤ pp kd * pu kd := Nat.mul_le_mul_right _ hx
    rw [Nat.add_mul, Nat.one_mul, Nat.mul_comm (pp kd)] at h3
    have hl : x * pu kd + (leb 0 8).length ≤ 512 := by rw [leb_length]; omega
    have hfb : b + 512 ≤ bs.length := hf
    refine ⟨?_, ?_, fun c hc => win_far (by omega) (by omega)⟩
    · rw [win_over hf hl, win_over ok.fit hl]
      exact congrArg (fun z => over z _ _) hw
    · rw [over_length _ _ _ (by omega)]; exact hf
  by_cases hfl : Pg.Full ⟨b, kd, fr, R, D⟩
  · obtain ⟨_, _, e1, e2⟩ := pa_full (bs := bs) hfl
    have hfl' : Pg.Full ⟨b', kd, fr, R, D⟩ := hfl
    obtain ⟨_, _, e3, e4⟩ := pa_full (bs := bs') hfl'
    rw [e1, e2, e3, e4]
    exact ⟨⟨rfl, rfl, rfl, rfl, hw, hm, hf⟩, rfl, fun _ _ => rfl⟩
  · have hfl' : ¬ Pg.Full ⟨b', kd, fr, R, D⟩ := hfl
    cases R with
    | cons x R =>
      obtain ⟨_, _, e1, e2, _⟩ := pa_R (bs := bs) hfl rfl
      obtain ⟨_, _, e3, e4, _⟩ := pa_R (bs := bs') hfl' rfl
      rw [e1, e2, e3, e4]
      obtain ⟨k1, k2, k3⟩ := key x (ok.lr x (List.mem_cons_self ..))
      exact ⟨⟨rfl, rfl, rfl, rfl, k1, hm, k2⟩, rfl, k3⟩
    | nil =>
      cases D with
      | cons x D =>
        obtain ⟨_, _, e1, e2, _⟩ := pa_D (bs := bs) hfl rfl rfl
        obtain ⟨_, _, e3, e4, _⟩ := pa_D (bs := bs') hfl' rfl rfl
        rw [e1, e2, e3, e4]
        obtain ⟨k1, k2, k3⟩ := key x (ok.ld x (List.mem_cons_self ..))
        exact ⟨⟨rfl, rfl, rfl, rfl, k1, hm, k2⟩, rfl, k3⟩
      | nil =>
        obtain ⟨_, _, e1, e2, _⟩ := pa_F (bs := bs) hfl rfl rfl
        obtain ⟨_, _, e3, e4, _⟩ := pa_F (bs := bs') hfl' rfl rfl
        rw [e1, e2, e3, e4]
        exact ⟨⟨rfl, rfl, rfl, rfl, hw, hm, hf⟩, rfl, fun _ _ => rfl⟩
theorem Like.free (h : Like g g' bs bs') (ok : g'.Ok bs') (k : Int) : Like (pfS g k) (pfS g' k) (pfB g bs k) (pfB g' bs' k) ∧ (pfS g k).base = g.base ∧ ∀ b, (b + 512 ≤ g.base ∨ g.base + 512 ≤ b) → win (pfB g bs k) b = win bs b := by
  obtain ⟨b, kd, fr, R, D⟩ := g
  obtain ⟨b', kd', fr', R', D'⟩ := g'
  obtain ⟨rfl, rfl, rfl, rfl, hw, hm, hf⟩ := h
  obtain ⟨⟨u1, u2⟩, _, u3, _⟩ := kind_facts kd ok.kind
  have hfb : b + 512 ≤ bs.length := hf
  have hfb' : b' + 512 ≤ bs'.length := ok.fit
  by_cases hmy : Pg.May ⟨b, kd, fr, R, D⟩ k
  · have hmy' : Pg.May ⟨b', kd, fr, R, D⟩ k := hmy
    have e1 : pfS ⟨b, kd, fr, R, D⟩ k = ⟨b, kd, fr, R, k.toNat :: D⟩ := if_pos hmy
    have e3 : pfS ⟨b', kd, fr, R, D⟩ k = ⟨b', kd, fr, R, k.toNat :: D⟩ := if_pos hmy'
    have e2 : pfB ⟨b, kd, fr, R, D⟩ bs k = over (over bs (b + k.toNat * pu kd) (nz (pu kd))) (b + k.toNat * pu kd) (leb (lnk D) 8) := if_pos hmy
    have e4 : pfB ⟨b', kd, fr, R, D⟩ bs' k = over (over bs' (b' + k.toNat * pu kd) (nz (pu kd))) (b' + k.toNat * pu kd) (leb (lnk D) 8) := if_pos hmy'
    have hx : k.toNat < pp kd := by have h0 : 0 ≤ k ∧ k < (pp kd : Int) := hmy.1; omega
    have h3 : (k.toNat + 1) * pu kd ≤ pp kd * pu kd := Nat.mul_le_mul_right _ hx
    rw [Nat.add_mul, Nat.one_mul, Nat.mul_comm (pp kd)] at h3
    rw [e1, e2, e3, e4]
    generalize k.toNat * pu kd = q at *
    have hl1 : q + (nz (pu kd)).length ≤ 512 := by rw [nz_length]; omega
    have hl2 : q + (leb (lnk D) 8).length ≤ 512 := by rw [leb_length]; omega
    have hn1 : (over bs (b + q) (nz (pu kd))).length = bs.length := over_length _ _ _ (by omega)
    have hn1' : (over bs' (b' + q) (nz (pu kd))).length = bs'.length := over_length _ _ _ (by omega)
    refine ⟨⟨rfl, rfl, rfl, rfl, ?_, hm, ?_⟩, rfl, fun c hc => ?_⟩
    · show win (over (over bs (b + q) (nz (pu kd))) (b + q) (leb (lnk D) 8)) b = win (over (over bs' (b' + q) (nz (pu kd))) (b' + q) (leb (lnk D) 8)) b'
      rw [win_over (by omega) hl2, win_over (by omega) hl2, win_over hfb hl1, win_over hfb' hl1]
      exact congrArg (fun z => over (over z _ _) _ _) hw
    · show b + 512 ≤ _
      rw [over_length _ _ _ (by omega)]; omega
    · simp only at hc
      rw [win_far (by omega) (by omega), win_far (by omega) (by omega)]
  · have hmy' : ¬ Pg.May ⟨b', kd, fr, R, D⟩ k := hmy
    have e1 : pfS ⟨b, kd, fr, R, D⟩ k = ⟨b, kd, fr, R, D⟩ := if_neg hmy
    have e3 : pfS ⟨b', kd, fr, R, D⟩ k = ⟨b', kd, fr, R, D⟩ := if_neg hmy'
    have e2 : pfB ⟨b, kd, fr, R, D⟩ bs k = bs := if_neg hmy
    have e4 : pfB ⟨b', kd, fr, R, D⟩ bs' k = bs' := if_neg hmy'
    rw [e1, e2, e3, e4]
    exact ⟨⟨rfl, rfl, rfl, rfl, hw, hm, hf⟩, rfl, fun _ _ => rfl⟩
end
end Go.Proofs.YthndakhnhnipnaaDoor
