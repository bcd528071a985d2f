/-
  Where local bytes lie: mathematics. Pieces, byte by byte.
-/
import Derived.Test.YtcajdbklchjkkaaTaBase
namespace Go.Proofs.Ytcajdbklchjkkaa

abbrev Sq : Type := Int × Int × Bool
/-- The last piece is a byte longer. -/
def bump : List Sq → List Sq
  | [] => []
  | [s] => [(s.1, s.2.1 + 1, s.2.2)]
  | s :: t :: r => s :: bump (t :: r)
theorem bump_snoc : ∀ (L : List Sq) (s : Sq), bump (L ++ [s]) = L ++ [(s.1, s.2.1 + 1, s.2.2)]
  | [], s => rfl
  | [x], s => rfl
  | x :: y :: r, s => by
    have := bump_snoc (y :: r) s
    simp only [List.cons_append] at this ⊢
    unfold bump
    rw [this]
/-- The pieces of k bytes from a on. -/
def pcs (T : Tb) (a : Int) : Nat → Option (List Sq)
  | 0 => some []
  | k + 1 => match pcs T a k with
    | none => none
    | some L => if tbF T ((a + k) / 512) < 0 then none else if k = 0 ∨ (a + k) % 512 = 0 then some (L ++ [(tbF T ((a + k) / 512) * 512 + (a + k) % 512, 1, false)]) else some (bump L)
theorem pcs_none {T : Tb} {a : Int} {k m : Nat} (h : pcs T a k = none) (hm : k ≤ m) : pcs T a m = none := by
  induction m with
  | zero => obtain rfl : k = 0 := by omega
            exact h
  | succ m ih =>
    by_cases e : k = m + 1
    · subst e; exact h
    · unfold pcs
      rw [ih (by omega)]
theorem pcs_stop {T : Tb} {a : Int} {k : Nat} (h : tbF T ((a + k) / 512) < 0) {m : Nat} (hm : k < m) : pcs T a m = none := by
  refine pcs_none (k := k + 1) ?_ hm
  unfold pcs
  split
  · rfl
  · rw [if_pos h]
theorem pcs_new {T : Tb} {a : Int} {k : Nat} {L : List Sq} (h : pcs T a k = some L) (hf : ¬ tbF T ((a + k) / 512) < 0) (hk : k = 0 ∨ (a + k) % 512 = 0) : pcs T a (k + 1) = some (L ++ [(tbF T ((a + k) / 512) * 512 + (a + k) % 512, 1, false)]) := by
  unfold pcs
  rw [h]
  simp only
  rw [if_neg hf, if_pos hk]
theorem pcs_more {T : Tb} {a : Int} {k : Nat} {L : List Sq} (h : pcs T a k = some L) (hf : ¬ tbF T ((a + k) / 512) < 0) (hk : ¬ (k = 0 ∨ (a + k) % 512 = 0)) : pcs T a (k + 1) = some (bump L) := by
  unfold pcs
  rw [h]
  simp only
  rw [if_neg hf, if_neg hk]
/-- What Pieces answers. -/
abbrev InWt (a n : Int) : Prop := 0 ≤ n ∧ 131072 ≤ a ∧ a ≤ 3276800 ∧ n ≤ 3276800 - a
def piL (T : Tb) (a n : Int) : List Sq := if InWt a n then (pcs T a n.toNat).getD [] else []
def piE (T : Tb) (a n : Int) : Int := if InWt a n ∧ (pcs T a n.toNat).isSome = true then 0 else 4
theorem piE_zero {T : Tb} {a n : Int} (h : piE T a n = 0) : InWt a n ∧ pcs T a n.toNat = some (piL T a n) := by
  unfold piE at h
  split at h
  case isFalse => omega
  case isTrue e =>
    refine ⟨e.1, ?_⟩
    unfold piL
    rw [if_pos e.1]
    cases hp : pcs T a n.toNat with
    | none => rw [hp] at e; simp at e
    | some L => rfl
theorem piE_not {T : Tb} {a n : Int} (h : piE T a n ≠ 0) : piE T a n = 4 ∧ piL T a n = [] := by
  unfold piE at h ⊢
  unfold piL
  split
  case isTrue e => rw [if_pos e] at h; exact absurd rfl h
  case isFalse e =>
    refine ⟨rfl, ?_⟩
    by_cases hw : InWt a n
    · rw [if_pos hw]
      cases hp : pcs T a n.toNat with
      | none => rfl
      | some L => exact absurd ⟨hw, by rw [hp]; rfl⟩ e
    · rw [if_neg hw]
theorem pi_yes {T : Tb} {a n : Int} {L : List Sq} (h : InWt a n) (hp : pcs T a n.toNat = some L) : piL T a n = L ∧ piE T a n = 0 := by
  unfold piL piE
  rw [if_pos h, if_pos ⟨h, by rw [hp]; rfl⟩, hp]
  exact ⟨rfl, rfl⟩
theorem pi_none {T : Tb} {a n : Int} (hp : pcs T a n.toNat = none) : piL T a n = [] ∧ piE T a n = 4 := by
  unfold piL piE
  rw [hp]
  exact ⟨by split <;> rfl, if_neg fun e => absurd e.2 (by simp)⟩
theorem pi_out {T : Tb} {a n : Int} (h : ¬ InWt a n) : piL T a n = [] ∧ piE T a n = 4 := by
  unfold piL piE
  rw [if_neg h, if_neg fun e => h e.1]
  exact ⟨rfl, rfl⟩
/-- How the pieces stand: one a local page. -/
structure PcOk (T : Tb) (a : Int) (k : Nat) (L : List Sq) : Prop where
  all : ∀ j (h : j < L.length), 0 ≤ L[j].1 ∧ 1 ≤ L[j].2.1 ∧ L[j].1 % 512 + L[j].2.1 ≤ 512 ∧ L[j].1 / 512 = tbF T (a / 512 + j) ∧ 0 ≤ tbF T (a / 512 + j)
  sum : (L.map fun s => s.2.1).sum = k
  last : (k = 0 ∧ L = []) ∨ ∃ L0 s, L = L0 ++ [s] ∧ s.1 % 512 + s.2.1 = a + k - 512 * (a / 512 + L0.length) ∧ 0 < k
theorem PcOk.snoc {T : Tb} {a : Int} {L : List Sq} {s : Sq} (h : ∀ j (h : j < L.length), 0 ≤ L[j].1 ∧ 1 ≤ L[j].2.1 ∧ L[j].1 % 512 + L[j].2.1 ≤ 512 ∧ L[j].1 / 512 = tbF T (a / 512 + j) ∧ 0 ≤ tbF T (a / 512 + j)) (hs : 0 ≤ s.1 ∧ 1 ≤ s.2.1 ∧ s.1 % 512 + s.2.1 ≤ 512 ∧ s.1 / 512 = tbF T (a / 512 + L.length) ∧ 0 ≤ tbF T (a / 512 + L.length)) :
    ∀ j (h : j < (L ++ [s]).length), 0 ≤ (L ++ [s])[j].1 ∧ 1 ≤ (L ++ [s])[j].2.1 ∧ (L ++ [s])[j].1 % 512 + (L ++ [s])[j].2.1 ≤ 512 ∧ (L ++ [s])[j].1 / 512 = tbF T (a / 512 + j) ∧ 0 ≤ tbF T (a / 512 + j) := fun j hj => by
  rw [List.length_append, List.length_singleton] at hj
  by_cases e : j < L.length
  · rw [List.getElem_append_left e]; exact h j e
  · obtain rfl : j = L.length := by omega
    simpa using hs
theorem pcs_ok {T : Tb} {a : Int} (ha : 0 ≤ a) : ∀ (k : Nat) (L : List Sq), pcs T a k = some L → PcOk T a k L
  | 0, L, h => by
    unfold pcs at h
    simp only [Option.some.injEq] at h
    subst h
    exact ⟨fun j h => by simp at h, rfl, .inl ⟨rfl, rfl⟩⟩
  | k + 1, L, h => by
    cases hp : pcs T a k with
    | none => rw [pcs_none hp (by omega)] at h; cases h
    | some M =>
      have ih := pcs_ok ha k M hp
      by_cases hf : tbF T ((a + k) / 512) < 0
      · rw [pcs_stop hf (by omega)] at h; cases h
      by_cases hk : k = 0 ∨ (a + k) % 512 = 0
      · rw [pcs_new hp hf hk] at h
        simp only [Option.some.injEq] at h
        subst h
        have hpage : (a + k) / 512 = a / 512 + M.length ∧ (k = 0 → (a + k) % 512 = a % 512) := by
          rcases ih.last with ⟨rfl, rfl⟩ | ⟨L0, s, rfl, h1, h2⟩
          · simp
          · have h0 : (a + k) % 512 = 0 := by rcases hk with e | e; omega; exact e
            have h3 := (ih.all L0.length (by simp)).2.2.1
            have h4 := (ih.all L0.length (by simp)).2.1
            simp only [List.getElem_concat_length] at h3 h4
            rw [List.length_append, List.length_singleton]
            refine ⟨?_, fun e => by omega⟩
            omega
        rw [hpage.1] at hf ⊢
        refine ⟨PcOk.snoc ih.all ⟨?_, by show (1 : Int) ≤ 1; omega, ?_, ?_, by omega⟩, ?_, .inr ⟨M, _, rfl, ?_, by omega⟩⟩
        · show 0 ≤ tbF T (a / 512 + M.length) * 512 + (a + k) % 512
          generalize tbF T (a / 512 + M.length) = q at *
          omega
        · show (tbF T (a / 512 + M.length) * 512 + (a + k) % 512) % 512 + 1 ≤ 512
          generalize tbF T (a / 512 + M.length) = q at *
          omega
        · show (tbF T (a / 512 + M.length) * 512 + (a + k) % 512) / 512 = _
          generalize tbF T (a / 512 + M.length) = q at *
          omega
        · rw [List.map_append, List.sum_append, ih.sum]; simp
        · show (tbF T (a / 512 + M.length) * 512 + (a + k) % 512) % 512 + 1 = a + ((k + 1 : Nat) : Int) - 512 * (a / 512 + M.length)
          have := hpage.1
          generalize tbF T (a / 512 + M.length) = q at *
          omega
      · rw [pcs_more hp hf hk] at h
        simp only [Option.some.injEq] at h
        subst h
        rcases ih.last with ⟨rfl, _⟩ | ⟨L0, s, rfl, h1, h2⟩
        · exact absurd (.inl rfl) hk
        · rw [bump_snoc]
          have h3 := ih.all L0.length (by simp)
          simp only [List.getElem_concat_length] at h3
          have hd : ∀ j (h : j < L0.length), 0 ≤ L0[j].1 ∧ 1 ≤ L0[j].2.1 ∧ L0[j].1 % 512 + L0[j].2.1 ≤ 512 ∧ L0[j].1 / 512 = tbF T (a / 512 + j) ∧ 0 ≤ tbF T (a / 512 + j) := fun j hj => by
            have := ih.all j (by simp; omega)
            rwa [List.getElem_append_left hj] at this
          refine ⟨PcOk.snoc hd ⟨h3.1, ?_, ?_, h3.2.2.2⟩, ?_, .inr ⟨L0, _, rfl, ?_, by omega⟩⟩
          · show 1 ≤ s.2.1 + 1; omega
          · show s.1 % 512 + (s.2.1 + 1) ≤ 512; omega
          · have := ih.sum
            rw [List.map_append, List.sum_append] at this ⊢
            simp only [List.map_cons, List.map_nil, List.sum_cons, List.sum_nil] at this ⊢
            omega
          · show s.1 % 512 + (s.2.1 + 1) = _; omega
/-- No page is met twice. -/
theorem PcOk.apart {T : Tb} (ok : TbOk T) {a : Int} {k : Nat} {L : List Sq} (h : PcOk T a k L) {i j : Nat} (hi : i < L.length) (hj : j < L.length) (e : L[i].1 / 512 = L[j].1 / 512) : i = j := by
  obtain ⟨_, _, _, a4, a5⟩ := h.all i hi
  obtain ⟨_, _, _, b4, b5⟩ := h.all j hj
  rw [a4, b4] at e
  have m1 := ok.f_some (v := a / 512 + i) (by omega)
  have m2 := ok.f_some (v := a / 512 + j) (by omega)
  have h1 := tbH_mem ok m1
  have h2 := tbH_mem ok m2
  rw [e] at h1
  omega
theorem PcOk.held {T : Tb} (ok : TbOk T) {a : Int} {k : Nat} {L : List Sq} (h : PcOk T a k L) {j : Nat} (hj : j < L.length) : ¬ tbH T (L[j].1 / 512) < 0 := by
  obtain ⟨_, _, _, b4, b5⟩ := h.all j hj
  have m := ok.f_some (v := a / 512 + j) (by omega)
  rw [b4, tbH_mem ok m]
  have := (ok.at_ _ m).1
  simp at this
  omega
end Go.Proofs.Ytcajdbklchjkkaa
