/-
  Shelves as lists of Booleans (true: taken): plain mathematics. Nothing of the program is named here.
-/
namespace Go.Proofs.YthndakhnhnipnaaDoor.Sf

/-- The lowest free number; the length, where there is none. -/
def low : List Bool → Nat
  | [] => 0
  | true :: r => low r + 1
  | false :: _ => 0
theorem low_le : ∀ l : List Bool, low l ≤ l.length
  | [] => Nat.le_refl _
  | true :: r => by have := low_le r; simp only [low, List.length_cons]; omega
  | false :: r => by simp only [low, List.length_cons]; omega
theorem low_below : ∀ (l : List Bool) (i : Nat) (_h : i < low l) (hi : i < l.length), l[i] = true
  | true :: r, 0, _, _ => rfl
  | true :: r, i + 1, h, hi => by
    have := low_below r i (by simp only [low] at h; omega) (by simpa using hi)
    simpa using this
  | false :: r, i, h, _ => by simp [low] at h
theorem low_at : ∀ (l : List Bool) (h : low l < l.length), l[low l] = false
  | [], h => by simp at h
  | true :: r, h => by
    have := low_at r (by simpa [low] using h)
    simpa [low] using this
  | false :: r, _ => by simp [low]
/-- It is the only one so. -/
theorem low_unique (l : List Bool) (k : Nat) (hk : k < l.length) (h0 : l[k] = false) (hb : ∀ i (hi : i < k), l[i] = true) : low l = k := by
  rcases Nat.lt_trichotomy (low l) k with h | h | h
  · have h1 := low_at l (by omega)
    have h2 := hb (low l) h
    rw [h1] at h2; cases h2
  · exact h
  · have := low_below l k h hk
    rw [h0] at this; cases this
theorem low_full (l : List Bool) (h : ∀ i (hi : i < l.length), l[i] = true) : low l = l.length := by
  rcases Nat.lt_or_ge (low l) l.length with h1 | h1
  · have h2 := low_at l h1
    rw [h _ h1] at h2; cases h2
  · have := low_le l; omega

/-- How many are free. -/
def frees : List Bool → Nat
  | [] => 0
  | true :: r => frees r
  | false :: r => frees r + 1
theorem frees_le : ∀ l : List Bool, frees l ≤ l.length
  | [] => Nat.le_refl _
  | true :: r => by have := frees_le r; simp only [frees, List.length_cons]; omega
  | false :: r => by have := frees_le r; simp only [frees, List.length_cons]; omega
theorem frees_take : ∀ (l : List Bool) (k : Nat) (hk : k < l.length), l[k] = false → frees (l.set k true) + 1 = frees l
  | false :: r, 0, _, _ => by simp [frees]
  | true :: r, 0, _, h => by simp at h
  | true :: r, k + 1, hk, h => by
    have := frees_take r k (by simpa using hk) (by simpa using h)
    simpa [frees] using this
  | false :: r, k + 1, hk, h => by
    have := frees_take r k (by simpa using hk) (by simpa using h)
    simp only [List.set_cons_succ, frees]; omega
theorem frees_give : ∀ (l : List Bool) (k : Nat) (hk : k < l.length), l[k] = true → frees (l.set k false) = frees l + 1
  | true :: r, 0, _, _ => by simp [frees]
  | false :: r, 0, _, h => by simp at h
  | true :: r, k + 1, hk, h => by
    have := frees_give r k (by simpa using hk) (by simpa using h)
    simpa [frees] using this
  | false :: r, k + 1, hk, h => by
    have := frees_give r k (by simpa using hk) (by simpa using h)
    simp only [List.set_cons_succ, frees]; omega
theorem frees_append : ∀ l m : List Bool, frees (l ++ m) = frees l + frees m
  | [], m => by simp [frees]
  | true :: r, m => by simp [frees, frees_append r m]
  | false :: r, m => by simp [frees, frees_append r m]; omega
theorem frees_take_succ (l : List Bool) (k : Nat) (hk : k < l.length) : frees (l.take (k + 1)) = frees (l.take k) + if l[k] then 0 else 1 := by
  rw [List.take_add_one, List.getElem?_eq_getElem hk, frees_append]
  cases l[k] <;> simp [frees]
theorem frees_zero_low : ∀ l : List Bool, frees l = 0 ↔ low l = l.length
  | [] => by simp [frees, low]
  | true :: r => by simp [frees, low, frees_zero_low r]
  | false :: r => by simp [frees, low]

/-- What the calls answer, and leave. -/
def lowI (l : List Bool) : Int := if low l < l.length then (low l : Int) else -1
def takV (l : List Bool) : Int := if low l < l.length then (low l : Int) else 0
def takE (l : List Bool) : Int := if low l < l.length then 0 else 13
def takS (l : List Bool) : List Bool := if low l < l.length then l.set (low l) true else l
def hasN (l : List Bool) (k : Int) : Bool := decide (0 ≤ k ∧ k < l.length)
def isT (l : List Bool) (k : Int) : Bool := hasN l k && l.getD k.toNat false
def taE (l : List Bool) (k : Int) : Int := if hasN l k then (if isT l k then 7 else 0) else 12
def taS (l : List Bool) (k : Int) : List Bool := if hasN l k then l.set k.toNat true else l
def giE (l : List Bool) (k : Int) : Int := if hasN l k then (if isT l k then 0 else 13) else 12
def giS (l : List Bool) (k : Int) : List Bool := if hasN l k then l.set k.toNat false else l
theorem takS_length (l : List Bool) : (takS l).length = l.length := by unfold takS; split <;> simp
theorem taS_length (l : List Bool) (k : Int) : (taS l k).length = l.length := by unfold taS; split <;> simp
theorem giS_length (l : List Bool) (k : Int) : (giS l k).length = l.length := by unfold giS; split <;> simp
/-- A number that is taken: to take it again leaves the list as it was. -/
theorem taS_taken (l : List Bool) (k : Int) (h : isT l k = true) : taS l k = l := by
  unfold taS
  split
  · rename_i hn
    simp only [isT, hn, Bool.true_and] at h
    simp only [hasN, decide_eq_true_eq] at hn
    apply List.ext_getElem (by simp)
    intro i h1 h2
    rw [List.getElem_set]
    split
    · rename_i e; subst e
      rw [List.getD_eq_getElem?_getD, List.getElem?_eq_getElem h2] at h
      simpa using h.symm
    · rfl
  · rfl
theorem giS_free (l : List Bool) (k : Int) (h : isT l k = false) : giS l k = l := by
  unfold giS
  split
  · rename_i hn
    simp only [isT, hn, Bool.true_and] at h
    simp only [hasN, decide_eq_true_eq] at hn
    apply List.ext_getElem (by simp)
    intro i h1 h2
    rw [List.getElem_set]
    split
    · rename_i e; subst e
      rw [List.getD_eq_getElem?_getD, List.getElem?_eq_getElem h2] at h
      simpa using h.symm
    · rfl
  · rfl

/-- Numbers taken one by one, as many as can be: what is noted, and what is left. -/
def takeAll : List Bool → List Int → List Int × List Bool
  | l, [] => ([], l)
  | l, k :: r => if taE l k = 0 then ((k :: (takeAll (taS l k) r).1), (takeAll (taS l k) r).2) else takeAll l r
theorem takeAll_snoc : ∀ (l : List Bool) (ks : List Int) (k : Int), takeAll l (ks ++ [k]) = if taE (takeAll l ks).2 k = 0 then ((takeAll l ks).1 ++ [k], taS (takeAll l ks).2 k) else takeAll l ks
  | l, [], k => by
    simp only [List.nil_append, takeAll]
    rfl
  | l, j :: r, k => by
    simp only [List.cons_append, takeAll]
    split
    · rw [takeAll_snoc (taS l j) r k]
      split <;> simp
    · exact takeAll_snoc l r k
/-- Given again one by one. -/
def giveAll : List Bool → List Int → List Bool
  | l, [] => l
  | l, k :: r => giveAll (giS l k) r
theorem giveAll_length : ∀ (ks : List Int) (l : List Bool), (giveAll l ks).length = l.length
  | [], _ => rfl
  | k :: r, l => by rw [giveAll, giveAll_length r, giS_length]
theorem giveAll_snoc : ∀ (ks : List Int) (l : List Bool) (k : Int), giveAll l (ks ++ [k]) = giS (giveAll l ks) k
  | [], _, _ => rfl
  | j :: r, l, k => by simp only [List.cons_append, giveAll]; exact giveAll_snoc r _ k
theorem hasN_iff {l : List Bool} {k : Int} : hasN l k = true ↔ 0 ≤ k ∧ k < l.length := by simp [hasN]
theorem isT_set (l : List Bool) (k j : Int) (b : Bool) (hk : hasN l k = true) : isT (l.set k.toNat b) j = if j = k then b else isT l j := by
  rw [hasN_iff] at hk
  have hl : hasN (l.set k.toNat b) j = hasN l j := by simp [hasN]
  unfold isT
  rw [hl]
  by_cases e : j = k
  · subst e
    have h1 : hasN l j = true := hasN_iff.2 hk
    rw [if_pos rfl, h1, Bool.true_and, List.getD_eq_getElem?_getD, List.getElem?_set_self (by omega)]
    rfl
  · rw [if_neg e]
    cases hj : hasN l j with
    | false => rfl
    | true =>
      rw [hasN_iff] at hj
      rw [Bool.true_and, Bool.true_and, List.getD_eq_getElem?_getD, List.getD_eq_getElem?_getD, List.getElem?_set_ne (by omega)]
theorem ext_isT {l m : List Bool} (hl : l.length = m.length) (h : ∀ k : Int, isT l k = isT m k) : l = m := by
  apply List.ext_getElem hl
  intro i h1 h2
  have := h i
  simp only [isT, hasN, Int.toNat_natCast, List.getD_eq_getElem?_getD, List.getElem?_eq_getElem h1, List.getElem?_eq_getElem h2, Option.getD_some] at this
  simpa [h1, h2] using this
theorem taE_zero {l : List Bool} {k : Int} : taE l k = 0 ↔ hasN l k = true ∧ isT l k = false := by
  unfold taE
  cases hasN l k <;> cases isT l k <;> simp
theorem giE_zero {l : List Bool} {k : Int} : giE l k = 0 ↔ hasN l k = true ∧ isT l k = true := by
  unfold giE
  cases hasN l k <;> cases isT l k <;> simp
/-- What is taken so: numbers that were free, each once; all else is as it was. -/
theorem takeAll_spec : ∀ (more : List Int) (l : List Bool), (takeAll l more).2.length = l.length ∧ (∀ k ∈ (takeAll l more).1, hasN l k = true ∧ isT l k = false) ∧ (takeAll l more).1.Nodup ∧ ∀ j : Int, isT (takeAll l more).2 j = (isT l j || decide (j ∈ (takeAll l more).1))
  | [], l => by simp [takeAll]
  | k :: r, l => by
    simp only [takeAll]
    split
    · rename_i h
      rw [taE_zero] at h
      obtain ⟨h1, h2⟩ := h
      have hs : taS l k = l.set k.toNat true := by unfold taS; rw [h1]; rfl
      obtain ⟨g1, g2, g3, g4⟩ := takeAll_spec r (taS l k)
      have hn : ∀ j, hasN (taS l k) j = hasN l j := fun j => by rw [hs]; simp [hasN]
      have ht : ∀ j, isT (taS l k) j = if j = k then true else isT l j := fun j => by rw [hs]; exact isT_set l k j true h1
      refine ⟨g1.trans (taS_length l k), ?_, ?_, ?_⟩
      · intro j hj
        rcases List.mem_cons.1 hj with rfl | hj
        · exact ⟨h1, h2⟩
        · have := g2 j hj
          rw [hn, ht] at this
          refine ⟨this.1, ?_⟩
          by_cases e : j = k
          · rw [if_pos e] at this; cases this.2
          · rw [if_neg e] at this; exact this.2
      · rw [List.nodup_cons]
        refine ⟨fun hk => ?_, g3⟩
        have := (g2 k hk).2
        rw [ht, if_pos rfl] at this
        cases this
      · intro j
        rw [g4, ht]
        by_cases e : j = k
        · subst e; simp
        · simp [e]
    · exact takeAll_spec r l
/-- What is given so again. -/
theorem giveAll_spec : ∀ (ks : List Int) (l : List Bool), (∀ k ∈ ks, hasN l k = true ∧ isT l k = true) → ks.Nodup → ∀ j : Int, isT (giveAll l ks) j = (isT l j && !decide (j ∈ ks))
  | [], l, _, _ => by simp [giveAll]
  | k :: r, l, h, hn => by
    obtain ⟨h1, _⟩ := h k (List.mem_cons_self ..)
    rw [List.nodup_cons] at hn
    have hs : giS l k = l.set k.toNat false := by unfold giS; rw [h1]; rfl
    have ht : ∀ j, isT (giS l k) j = if j = k then false else isT l j := fun j => by rw [hs]; exact isT_set l k j false h1
    intro j
    rw [giveAll, giveAll_spec r (giS l k) (fun j hj => ?_) hn.2, ht]
    · by_cases e : j = k
      · subst e; simp
      · simp [e]
    · have g := h j (List.mem_cons_of_mem _ hj)
      refine ⟨by rw [hs]; simpa [hasN] using g.1, ?_⟩
      rw [ht, if_neg (fun e : j = k => hn.1 (by rw [← e]; exact hj))]
      exact g.2
/-- THE LAW ShelfBack RESTS ON: what is taken and given again leaves the list as it was, and each is given. -/
theorem back_again (l : List Bool) (more : List Int) : giveAll (takeAll l more).2 (takeAll l more).1 = l ∧ ∀ j (hj : j < (takeAll l more).1.length), giE (giveAll (takeAll l more).2 ((takeAll l more).1.take j)) (takeAll l more).1[j] = 0 := by
  obtain ⟨g1, g2, g3, g4⟩ := takeAll_spec more l
  have hall : ∀ k ∈ (takeAll l more).1, hasN (takeAll l more).2 k = true ∧ isT (takeAll l more).2 k = true := fun k hk => by
    refine ⟨?_, by rw [g4]; simp [hk]⟩
    have := (g2 k hk).1
    simpa [hasN, g1] using this
  refine ⟨ext_isT ((giveAll_length _ _).trans g1) (fun k => ?_), fun j hj => ?_⟩
  · rw [giveAll_spec _ _ hall g3, g4]
    by_cases hk : k ∈ (takeAll l more).1
    · rw [(g2 k hk).2]; simp [hk]
    · simp [hk]
  · generalize (takeAll l more).1 = ks at *
    generalize (takeAll l more).2 = l' at *
    rw [giE_zero]
    have hm : ks[j] ∈ ks := List.getElem_mem hj
    have hsub : ∀ k ∈ ks.take j, hasN l' k = true ∧ isT l' k = true := fun k hk => hall k (List.mem_of_mem_take hk)
    have hnd : (ks.take j).Nodup := g3.sublist (List.take_sublist j ks)
    refine ⟨?_, ?_⟩
    · have := (hall _ hm).1
      simpa [hasN, giveAll_length] using this
    · rw [giveAll_spec _ _ hsub hnd, (hall _ hm).2]
      have hni : ks[j] ∉ ks.take j := by
        intro hc
        obtain ⟨i, hi, e⟩ := List.getElem_of_mem hc
        have hi' : i < j := by simp at hi; omega
        rw [List.getElem_take] at e
        exact List.pairwise_iff_getElem.1 g3 i j (by omega) hj hi' e
      simp [hni]
/-- A fresh shelf from which k were taken. -/
def fresh (k m : Nat) : List Bool := List.replicate k true ++ List.replicate m false
theorem fresh_length (k m : Nat) : (fresh k m).length = k + m := by simp [fresh]
theorem low_ones : ∀ (k : Nat) (r : List Bool), low (List.replicate k true ++ r) = k + low r
  | 0, r => by simp
  | k + 1, r => by rw [List.replicate_succ, List.cons_append, low, low_ones k r]; omega
theorem fresh_low (k m : Nat) : low (fresh k (m + 1)) = k := by
  rw [fresh, low_ones, List.replicate_succ]; simp [low]
theorem fresh_take (k m : Nat) : takS (fresh k (m + 1)) = fresh (k + 1) m ∧ takV (fresh k (m + 1)) = k ∧ takE (fresh k (m + 1)) = 0 := by
  have hl : low (fresh k (m + 1)) < (fresh k (m + 1)).length := by rw [fresh_low, fresh_length]; omega
  refine ⟨?_, by unfold takV; rw [if_pos hl, fresh_low], by unfold takE; rw [if_pos hl]⟩
  unfold takS
  rw [if_pos hl, fresh_low]
  unfold fresh
  rw [List.set_append_right _ _ (by simp), List.replicate_succ, List.length_replicate, Nat.sub_self, List.set_cons_zero, List.replicate_succ', List.append_assoc]
  rfl
theorem fresh_end (k : Nat) : takE (fresh k 0) = 13 ∧ frees (fresh k 0) = 0 ∧ takS (fresh k 0) = fresh k 0 := by
  have hl : low (fresh k 0) = (fresh k 0).length := by rw [fresh, low_ones]; simp [low]
  refine ⟨by unfold takE; rw [if_neg (by omega)], (frees_zero_low _).2 hl, by unfold takS; rw [if_neg (by omega)]⟩
end Go.Proofs.YthndakhnhnipnaaDoor.Sf
