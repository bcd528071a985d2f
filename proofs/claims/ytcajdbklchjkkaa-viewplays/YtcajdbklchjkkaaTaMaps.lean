/-
  A table as two maps: mathematics. And its pieces page by page.
-/
import Derived.Test.YtcajdbklchjkkaaTaPcs
namespace Go.Proofs.Ytcajdbklchjkkaa

/-- Find and Holder as maps say it. -/
def fF (T : Tb) (v : Int) : Option Int := if tbF T v < 0 then none else some (tbF T v)
def fH (T : Tb) (p : Int) : Option Int := if tbH T p < 0 then none else some (tbH T p)
section
variable {T : Tb} {v p z : Int}
theorem fF_iff (ok : TbOk T) : fF T v = some p ↔ (v, p) ∈ T := by
  unfold fF
  constructor
  · intro h
    split at h
    · cases h
    · rename_i hf
      have := ok.f_some hf
      simp only [Option.some.injEq] at h
      rw [h] at this
      exact this
  · intro h
    have e := tbF_mem ok h
    have := (ok.at_ _ h).2
    simp only at this
    rw [e, if_neg (by omega)]
theorem fH_iff (ok : TbOk T) : fH T p = some v ↔ (v, p) ∈ T := by
  unfold fH
  constructor
  · intro h
    split at h
    · cases h
    · rename_i hf
      have := ok.h_some hf
      simp only [Option.some.injEq] at h
      rw [h] at this
      exact this
  · intro h
    have e := tbH_mem ok h
    have := (ok.at_ _ h).1
    simp only at this
    rw [e, if_neg (by omega)]
theorem opt_ext {x y : Option Int} (h : ∀ a, x = some a ↔ y = some a) : x = y := by
  cases x with
  | none =>
    cases y with
    | none => rfl
    | some b => exact absurd ((h b).2 rfl) (by simp)
  | some a => exact ((h a).1 rfl).symm
theorem fF_none (v : Int) : fF [] v = none := rfl
theorem fH_none (v : Int) : fH [] v = none := rfl
theorem fF_neg (v : Int) : fF T v = none ↔ tbF T v < 0 := by unfold fF; split <;> simp_all
theorem fH_neg (p : Int) : fH T p = none ↔ tbH T p < 0 := by unfold fH; split <;> simp_all
/-- Find's answer off the map. -/
theorem fF_get (ok : TbOk T) (v : Int) : tbF T v = (fF T v).getD (-1) := by
  unfold fF
  split
  · rename_i h; rw [(ok.f_none h).1]; rfl
  · rfl
theorem fH_get (ok : TbOk T) (p : Int) : tbH T p = (fH T p).getD (-1) := by
  unfold fH
  split
  · rename_i h; rw [(ok.h_none h).1]; rfl
  · rfl
theorem fF_ins (ok : TbOk T) (ok2 : TbOk (tbI T v p)) (hv : tbF T v < 0) (z : Int) : fF (tbI T v p) z = if z = v then some p else fF T z := opt_ext fun a => by
  rw [fF_iff ok2, mem_tbI]
  by_cases e : z = v
  · subst e
    rw [if_pos rfl]
    constructor
    · rintro (h | h)
      · simp at h; rw [h]
      · exact absurd rfl ((ok.f_none hv).2 _ h)
    · intro h
      simp only [Option.some.injEq] at h
      exact .inl (by rw [h])
  · rw [if_neg e, fF_iff ok]
    constructor
    · rintro (h | h)
      · simp at h; exact absurd h.1 e
      · exact h
    · exact .inr
theorem fH_ins (ok : TbOk T) (ok2 : TbOk (tbI T v p)) (hp : tbH T p < 0) (z : Int) : fH (tbI T v p) z = if z = p then some v else fH T z := opt_ext fun a => by
  rw [fH_iff ok2, mem_tbI]
  by_cases e : z = p
  · subst e
    rw [if_pos rfl]
    constructor
    · rintro (h | h)
      · simp at h; rw [h]
      · exact absurd rfl ((ok.h_none hp).2 _ h)
    · intro h
      simp only [Option.some.injEq] at h
      exact .inl (by rw [h])
  · rw [if_neg e, fH_iff ok]
    constructor
    · rintro (h | h)
      · simp at h; exact absurd h.2 e
      · exact h
    · exact .inr
theorem mem_tbU {x : Int × Int} : x ∈ tbU T v ↔ x ∈ T ∧ x.1 ≠ v := by unfold tbU; simp
theorem fF_rem (ok : TbOk T) (ok2 : TbOk (tbU T v)) (z : Int) : fF (tbU T v) z = if z = v then none else fF T z := opt_ext fun a => by
  rw [fF_iff ok2, mem_tbU]
  by_cases e : z = v
  · subst e; simp
  · rw [if_neg e, fF_iff ok]; simp [e]
theorem fH_rem (ok : TbOk T) (ok2 : TbOk (tbU T v)) (hv : ¬ tbF T v < 0) (z : Int) : fH (tbU T v) z = if z = tbF T v then none else fH T z := opt_ext fun a => by
  rw [fH_iff ok2, mem_tbU]
  have hm := ok.f_some hv
  by_cases e : z = tbF T v
  · rw [if_pos e]
    constructor
    · rintro ⟨h1, h2⟩
      rw [e] at h1
      have q1 := tbH_mem ok h1
      have q2 := tbH_mem ok hm
      simp only at h2
      omega
    · intro h; cases h
  · rw [if_neg e, fH_iff ok]
    constructor
    · exact fun h => h.1
    · intro h
      refine ⟨h, fun h2 => e ?_⟩
      simp only at h2
      rw [h2] at h
      exact (tbF_mem ok h).symm
theorem mem_tbW {x : Int × Int} : x ∈ tbW T v p ↔ ∃ y ∈ T, x = if y.1 = v then (y.1, p) else y := by
  unfold tbW
  rw [List.mem_map]
  constructor
  · rintro ⟨y, h1, h2⟩; exact ⟨y, h1, h2.symm⟩
  · rintro ⟨y, h1, h2⟩; exact ⟨y, h1, h2.symm⟩
theorem fF_swp (ok : TbOk T) (ok2 : TbOk (tbW T v p)) (hv : ¬ tbF T v < 0) (z : Int) : fF (tbW T v p) z = if z = v then some p else fF T z := opt_ext fun a => by
  rw [fF_iff ok2, mem_tbW]
  by_cases e : z = v
  · subst e
    rw [if_pos rfl]
    constructor
    · rintro ⟨y, h1, h2⟩
      split at h2
      · simp at h2; rw [h2.2]
      · rename_i hn; rw [← h2] at hn; exact absurd rfl hn
    · intro h
      simp only [Option.some.injEq] at h
      exact ⟨_, ok.f_some hv, by simp [h]⟩
  · rw [if_neg e, fF_iff ok]
    constructor
    · rintro ⟨y, h1, h2⟩
      split at h2
      · rename_i hn; simp at h2; exact absurd (h2.1.trans hn) e
      · rw [h2]; exact h1
    · intro h
      exact ⟨_, h, by simp [e]⟩
theorem fH_swp (ok : TbOk T) (ok2 : TbOk (tbW T v p)) (hv : ¬ tbF T v < 0) (hp : tbH T p < 0) (z : Int) : fH (tbW T v p) z = if z = p then some v else if z = tbF T v then none else fH T z := opt_ext fun a => by
  rw [fH_iff ok2, mem_tbW]
  have hm := ok.f_some hv
  by_cases e : z = p
  · subst e
    rw [if_pos rfl]
    constructor
    · rintro ⟨y, h1, h2⟩
      split at h2
      · rename_i hn; simp at h2; rw [h2, hn]
      · rw [← h2] at h1
        exact absurd rfl ((ok.h_none hp).2 _ h1)
    · intro h
      simp only [Option.some.injEq] at h
      exact ⟨_, hm, by simp [h]⟩
  · rw [if_neg e]
    by_cases e2 : z = tbF T v
    · rw [if_pos e2]
      constructor
      · rintro ⟨y, h1, h2⟩
        split at h2
        · simp at h2; exact absurd h2.2 e
        · rename_i hn
          rw [← h2, e2] at h1
          rw [← h2] at hn
          have q1 := tbH_mem ok h1
          have q2 := tbH_mem ok hm
          simp only at hn
          omega
      · intro h; cases h
    · rw [if_neg e2, fH_iff ok]
      constructor
      · rintro ⟨y, h1, h2⟩
        split at h2
        · simp at h2; exact absurd h2.2 e
        · rw [h2]; exact h1
      · intro h
        refine ⟨_, h, ?_⟩
        rw [if_neg fun hn => e2 ?_]
        simp only at hn
        rw [hn] at h
        exact (tbF_mem ok h).symm
end
theorem tbU_gone {T : Tb} {v : Int} (ok : TbOk T) (hv : tbF T v < 0) : tbU T v = T := List.filter_eq_self.2 fun x hx => by simpa using (ok.f_none hv).2 x hx
theorem tbU_less : ∀ {T : Tb} {v : Int}, TbOk T → ¬ tbF T v < 0 → (tbU T v).length + 1 = T.length
  | [], v, _, h => absurd (show (-1 : Int) < 0 by decide) h
  | x :: r, v, ok, h => by
    unfold tbU
    by_cases e : x.1 = v
    · have hr : r.filter (fun y => decide (y.1 ≠ v)) = r := List.filter_eq_self.2 fun y hy => by
        have := (List.pairwise_cons.1 ok.up).1 y hy
        simp
        omega
      rw [List.filter_cons_of_neg (by simp [e]), hr]
      simp
    · have h2 : ¬ tbF r v < 0 := by unfold tbF at h; rw [if_neg e] at h; exact h
      have := tbU_less ok.tail h2
      rw [List.filter_cons_of_pos (by simp [e])]
      simp only [List.length_cons]
      unfold tbU at this
      omega
/-- A page's piece at once. -/
theorem pcs_page {T : Tb} {a : Int} {k : Nat} {L : List Sq} (h : pcs T a k = some L) (hk : k = 0 ∨ (a + k) % 512 = 0) (hf : ¬ tbF T ((a + k) / 512) < 0) : ∀ m : Nat, (a + k) % 512 + ((m + 1 : Nat) : Int) ≤ 512 → pcs T a (k + (m + 1)) = some (L ++ [(tbF T ((a + k) / 512) * 512 + (a + k) % 512, ((m + 1 : Nat) : Int), false)])
  | 0, _ => pcs_new h hf hk
  | m + 1, hm => by
    have ih := pcs_page h hk hf m (by omega)
    have e1 : (a + ((k + (m + 1) : Nat) : Int)) / 512 = (a + k) / 512 := by omega
    have e2 : (a + ((k + (m + 1) : Nat) : Int)) % 512 = (a + k) % 512 + (m + 1) := by omega
    have := pcs_more ih (by rw [e1]; exact hf) (by omega)
    rw [bump_snoc] at this
    rw [show k + (m + 1 + 1) = k + (m + 1) + 1 by omega, this]
    simp only [Option.some.injEq, List.append_cancel_left_eq, List.cons.injEq, Prod.mk.injEq, and_true, true_and]
    omega
end Go.Proofs.Ytcajdbklchjkkaa
