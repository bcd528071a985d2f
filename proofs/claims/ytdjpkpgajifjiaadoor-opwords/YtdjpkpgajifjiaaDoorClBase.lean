/-
  Kinds of blocks as the document has them: plain mathematics. Nothing of the program is named here.
-/
namespace Go.Proofs.YtdjpkpgajifjiaaDoor

/-- A block's bytes. -/
def unitI (c : Int) : Int :=
  if c < 0 then 0 else if c = 0 then 16 else if c = 1 then 32 else if c = 2 then 48 else if c = 3 then 64 else if c = 4 then 96 else if c = 5 then 128 else if c = 6 then 192 else if c = 7 then 256 else if c ≤ 23 then (c - 7) * 512 else 0
/-- The kind for so many bytes. -/
def ofI (n : Int) : Int :=
  if n < 1 then -1 else if n ≤ 16 then 0 else if n ≤ 32 then 1 else if n ≤ 48 then 2 else if n ≤ 64 then 3 else if n ≤ 96 then 4 else if n ≤ 128 then 5 else if n ≤ 192 then 6 else if n ≤ 256 then 7 else if n ≤ 8192 then 7 + (n + 511) / 512 else -1
def perI (c : Int) : Int :=
  if c < 0 then 0 else if c = 0 then 32 else if c = 1 then 16 else if c = 2 then 10 else if c = 3 then 8 else if c = 4 then 5 else if c = 5 then 4 else if c = 6 then 2 else if c = 7 then 2 else 0
def pagesI (c : Int) : Int := if c < 0 then 0 else if c ≤ 7 then 1 else if c ≤ 23 then c - 7 else 0
def alignI (c : Int) : Int :=
  if c < 0 then 0 else if c = 0 then 16 else if c = 1 then 32 else if c = 2 then 16 else if c = 3 then 64 else if c = 4 then 32 else if c = 5 then 128 else if c = 6 then 64 else if c = 7 then 256 else if c ≤ 23 then 512 else 0
def chargeI (n : Int) : Int := if ofI n < 0 then 0 else unitI (ofI n)

theorem fin24 (c : Int) (h0 : 0 ≤ c) (h1 : c ≤ 23) : ∃ k : Fin 24, c = (k.val : Int) := ⟨⟨c.toNat, by omega⟩, by simp; omega⟩
theorem unitI_run (m : Int) (h0 : 1 ≤ m) (h1 : m ≤ 16) : unitI (7 + m) = m * 512 := by
  have : ∀ k : Fin 16, unitI (7 + ((k.val : Int) + 1)) = ((k.val : Int) + 1) * 512 := by decide +kernel
  have h := this ⟨(m - 1).toNat, by omega⟩
  have e : (((m - 1).toNat : Nat) : Int) + 1 = m := by omega
  simp only at h
  rw [e] at h
  exact h
theorem ofI_run (n : Int) (h1 : 256 < n) (h2 : n ≤ 8192) : ofI n = 7 + (n + 511) / 512 := by
  unfold ofI; repeat' split
  all_goals omega
theorem ofI_none (n : Int) : ofI n = -1 ↔ n < 1 ∨ 8192 < n := by
  unfold ofI; repeat' split
  all_goals omega
theorem ofI_range (n : Int) (h1 : 1 ≤ n) (h2 : n ≤ 8192) : 0 ≤ ofI n ∧ ofI n ≤ 23 := by
  unfold ofI; repeat' split
  all_goals omega
theorem unitI_rises (c d : Int) (h0 : 0 ≤ c) (h : c < d) (h1 : d ≤ 23) : unitI c < unitI d := by
  have : ∀ a b : Fin 24, a.val < b.val → unitI (a.val : Int) < unitI (b.val : Int) := by decide +kernel
  obtain ⟨a, rfl⟩ := fin24 c h0 (by omega)
  obtain ⟨b, rfl⟩ := fin24 d (by omega) h1
  exact this a b (by omega)
theorem unitI_mono (c d : Int) (h0 : 0 ≤ c) (h : c ≤ d) (h1 : d ≤ 23) : unitI c ≤ unitI d := by
  rcases Int.lt_or_eq_of_le h with hl | hl
  · have := unitI_rises c d h0 hl h1; omega
  · rw [hl]; exact Int.le_refl _
/-- What a kind that is no run says of n. -/
theorem ofI_small (n : Int) (h1 : 1 ≤ n) (h2 : n ≤ 256) : 0 ≤ ofI n ∧ ofI n ≤ 7 ∧ n ≤ unitI (ofI n) ∧ (ofI n = 0 ∨ unitI (ofI n - 1) < n) := by
  have u0 : unitI 0 = 16 := rfl
  have u1 : unitI 1 = 32 := rfl
  have u2 : unitI 2 = 48 := rfl
  have u3 : unitI 3 = 64 := rfl
  have u4 : unitI 4 = 96 := rfl
  have u5 : unitI 5 = 128 := rfl
  have u6 : unitI 6 = 192 := rfl
  have u7 : unitI 7 = 256 := rfl
  unfold ofI; repeat' split
  all_goals first
    | omega
    | (simp only [Int.reduceSub, u0, u1, u2, u3, u4, u5, u6, u7]; omega)
theorem ofI_fits (n : Int) (h1 : 1 ≤ n) (h2 : n ≤ 8192) : n ≤ unitI (ofI n) := by
  by_cases h : n ≤ 256
  · exact (ofI_small n h1 h).2.2.1
  · rw [ofI_run n (by omega) h2, unitI_run _ (by omega) (by omega)]; omega
theorem ofI_least (n c : Int) (h0 : 0 ≤ c) (h : c < ofI n) : unitI c < n := by
  have h1 : 1 ≤ n ∧ n ≤ 8192 := by
    have := ofI_none n
    by_cases hn : n < 1 ∨ 8192 < n
    · rw [this.2 hn] at h; omega
    · omega
  obtain ⟨r1, r2⟩ := ofI_range n h1.1 h1.2
  have hm := unitI_mono c (ofI n - 1) h0 (by omega) (by omega)
  by_cases hs : n ≤ 256
  · rcases (ofI_small n h1.1 hs).2.2.2 with e | e
    · omega
    · omega
  · have e := ofI_run n (by omega) h1.2
    rw [e] at hm h
    by_cases hm1 : (n + 511) / 512 = 1
    · rw [hm1] at hm
      have u7 : unitI (7 + 1 - 1) = 256 := rfl
      rw [u7] at hm
      omega
    · rw [show 7 + (n + 511) / 512 - 1 = 7 + ((n + 511) / 512 - 1) by omega, unitI_run _ (by omega) (by omega)] at hm
      omega
/-- It is the only one so. -/
theorem ofI_unique (n c : Int) (h1 : 1 ≤ n) (hc : 0 ≤ c) (hc2 : c ≤ 23) (hu : n ≤ unitI c) (hb : ∀ d, 0 ≤ d → d < c → unitI d < n) : ofI n = c := by
  have hn : n ≤ 8192 := by
    have h3 := unitI_mono c 23 hc hc2 (by omega)
    have h4 : unitI 23 = 8192 := rfl
    omega
  obtain ⟨r1, r2⟩ := ofI_range n h1 hn
  rcases Int.lt_trichotomy (ofI n) c with h | h | h
  · have := hb _ r1 h
    have := ofI_fits n h1 hn
    omega
  · exact h
  · have := ofI_least n c hc h
    omega
theorem chargeI_none (n : Int) (h : n < 1 ∨ 8192 < n) : chargeI n = 0 := by
  unfold chargeI; rw [(ofI_none n).2 h]; rfl
theorem chargeI_some (n : Int) (h1 : 1 ≤ n) (h2 : n ≤ 8192) : chargeI n = unitI (ofI n) := by
  unfold chargeI; rw [if_neg (by have := (ofI_range n h1 h2).1; omega)]
theorem ofI_rises (a b : Int) (h1 : 1 ≤ a) (h : a ≤ b) (h2 : b ≤ 8192) : ofI a ≤ ofI b := by
  rcases Int.lt_or_le (ofI b) (ofI a) with hl | hl
  · have h3 := ofI_least a (ofI b) (ofI_range b (by omega) h2).1 hl
    have h4 := ofI_fits b (by omega) h2
    omega
  · exact hl
theorem chargeI_rises (a b : Int) (h1 : 1 ≤ a) (h : a ≤ b) (h2 : b ≤ 8192) : chargeI a ≤ chargeI b := by
  rw [chargeI_some a h1 (by omega), chargeI_some b (by omega) h2]
  have h3 := ofI_rises a b h1 h h2
  have h4 := ofI_range a h1 (by omega)
  have h5 := ofI_range b (by omega) h2
  rcases Int.lt_or_eq_of_le h3 with hl | hl
  · have := unitI_rises _ _ h4.1 hl h5.2; omega
  · rw [hl]; exact Int.le_refl _
theorem ofI_unit (c : Int) (h0 : 0 ≤ c) (h1 : c ≤ 23) : ofI (unitI c) = c := by
  have : ∀ a : Fin 24, ofI (unitI (a.val : Int)) = (a.val : Int) := by decide +kernel
  obtain ⟨a, rfl⟩ := fin24 c h0 h1
  exact this a
theorem unitI_range (c : Int) (h0 : 0 ≤ c) (h1 : c ≤ 23) : 16 ≤ unitI c ∧ unitI c ≤ 8192 := by
  have : ∀ a : Fin 24, 16 ≤ unitI (a.val : Int) ∧ unitI (a.val : Int) ≤ 8192 := by decide +kernel
  obtain ⟨a, rfl⟩ := fin24 c h0 h1
  exact this a
theorem chargeI_twice (n : Int) (h1 : 1 ≤ n) (h2 : n ≤ 8192) : chargeI (chargeI n) = chargeI n := by
  obtain ⟨r1, r2⟩ := ofI_range n h1 h2
  obtain ⟨u1, u2⟩ := unitI_range _ r1 r2
  rw [chargeI_some n h1 h2, chargeI_some _ (by omega) u2, ofI_unit _ r1 r2]
theorem chargeI_less (n : Int) (h1 : 1 ≤ n) (h2 : n ≤ 8192) : chargeI n < 2 * n ∨ chargeI n = 16 := by
  rw [chargeI_some n h1 h2]
  by_cases hs : n ≤ 256
  · obtain ⟨r1, r2, _, r4⟩ := ofI_small n h1 hs
    have key : ∀ a : Fin 8, unitI (a.val : Int) = 16 ∨ unitI (a.val : Int) ≤ 2 * unitI ((a.val : Int) - 1) := by decide +kernel
    have k := key ⟨(ofI n).toNat, by omega⟩
    have e : (((ofI n).toNat : Nat) : Int) = ofI n := by omega
    simp only [e] at k
    rcases r4 with r4 | r4
    · right; rw [r4]; rfl
    · rcases k with k | k
      · right; exact k
      · left; omega
  · left; rw [ofI_run n (by omega) h2, unitI_run _ (by omega) (by omega)]; omega
theorem alignI_divides (c : Int) (h0 : 0 ≤ c) (h1 : c ≤ 23) : 8 ≤ alignI c ∧ unitI c % alignI c = 0 := by
  have : ∀ a : Fin 24, 8 ≤ alignI (a.val : Int) ∧ unitI (a.val : Int) % alignI (a.val : Int) = 0 := by decide +kernel
  obtain ⟨a, rfl⟩ := fin24 c h0 h1
  exact this a
theorem kind_small (c k : Int) (h0 : 0 ≤ c) (h1 : c ≤ 7) (hk : 0 ≤ k) (hk2 : k < perI c) : (k * unitI c) % alignI c = 0 ∧ k * unitI c + unitI c ≤ 512 ∧ 512 < (perI c + 1) * unitI c ∧ 0 < perI c := by
  have hc : c = 0 ∨ c = 1 ∨ c = 2 ∨ c = 3 ∨ c = 4 ∨ c = 5 ∨ c = 6 ∨ c = 7 := by omega
  rcases hc with rfl | rfl | rfl | rfl | rfl | rfl | rfl | rfl <;> simp [perI, unitI, alignI] at * <;> omega
theorem kind_run (n : Int) (h1 : 256 < n) (h2 : n ≤ 8192) : ofI n = 7 + pagesI (ofI n) ∧ n ≤ pagesI (ofI n) * 512 ∧ (pagesI (ofI n) - 1) * 512 < n ∧ perI (ofI n) = 0 ∧ chargeI n = pagesI (ofI n) * 512 ∧ alignI (ofI n) = 512 := by
  have e := ofI_run n h1 h2
  have hr : 1 ≤ (n + 511) / 512 ∧ (n + 511) / 512 ≤ 16 := by omega
  rw [chargeI_some n (by omega) h2, e]
  generalize hm : (n + 511) / 512 = m at *
  have p : pagesI (7 + m) = m := by
    unfold pagesI; repeat' split
    all_goals omega
  rw [p]
  refine ⟨rfl, by omega, by omega, ?_, ?_, ?_⟩
  · unfold perI; repeat' split
    all_goals omega
  · exact unitI_run m hr.1 hr.2
  · unfold alignI; repeat' split
    all_goals omega
theorem kind_zero (c : Int) (h0 : 0 ≤ c) (h1 : c ≤ 23) : perI c = 0 ↔ 8 ≤ c := by
  unfold perI; repeat' split
  all_goals omega
theorem pages_unit (c : Int) (h0 : 8 ≤ c) (h1 : c ≤ 23) : pagesI c * 512 = unitI c := by
  have : ∀ a : Fin 24, 8 ≤ a.val → pagesI (a.val : Int) * 512 = unitI (a.val : Int) := by decide +kernel
  obtain ⟨a, rfl⟩ := fin24 c (by omega) h1
  exact this a (by omega)
end Go.Proofs.YtdjpkpgajifjiaaDoor
