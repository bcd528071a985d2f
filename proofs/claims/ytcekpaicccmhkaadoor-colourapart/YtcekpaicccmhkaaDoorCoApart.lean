/-
  Windows without a common colour are nothing to each other: plain mathematics. Nothing of the program is named here.
-/
import Derived.Test.YtcekpaicccmhkaaDoorCoMath
namespace Go.Proofs.YtcekpaicccmhkaaDoor

/-- The same pages of the window's colours are taken. -/
structure Agree (k : Nat) (mine : List Int) (h1 h2 : List Bool) : Prop where
  len : h1.length = h2.length
  at_ : ∀ p, inW k mine p = true → h1.getD p true = h2.getD p true
section
variable {k : Nat} {mine ys : List Int} {h1 h2 : List Bool}
theorem Agree.refl (k : Nat) (mine : List Int) (h : List Bool) : Agree k mine h h := ⟨rfl, fun _ _ => rfl⟩
theorem Agree.meant (h : Agree k mine h1 h2) : meant k h1 mine = meant k h2 mine := by
  funext p
  unfold Go.Proofs.YtcekpaicccmhkaaDoor.meant
  cases hi : inW k mine p
  · simp
  · rw [h.at_ p hi]
theorem Agree.free (h : Agree k mine h1 h2) : frI k h1 mine = frI k h2 mine := by unfold frI; rw [h.meant, h.len]
theorem Agree.takP (h : Agree k mine h1 h2) : takP k h1 mine = takP k h2 mine := by unfold Go.Proofs.YtcekpaicccmhkaaDoor.takP; rw [h.meant, h.len]
theorem Agree.takV (h : Agree k mine h1 h2) : takV k h1 mine = takV k h2 mine := by unfold Go.Proofs.YtcekpaicccmhkaaDoor.takV; rw [h.takP, h.len]
theorem Agree.takE (h : Agree k mine h1 h2) : takE k h1 mine = takE k h2 mine := by unfold Go.Proofs.YtcekpaicccmhkaaDoor.takE; rw [h.takP, h.len]
theorem getD_set (l : List Bool) (i p : Nat) (v : Bool) : (l.set i v).getD p true = if i = p ∧ p < l.length then v else l.getD p true := by
  simp only [List.getD, List.getElem?_set]
  by_cases e : i = p
  · subst e
    by_cases hl : i < l.length
    · simp [hl]
    · simp [hl]
  · simp [e]
theorem Agree.set (h : Agree k mine h1 h2) (i : Nat) (v : Bool) : Agree k mine (h1.set i v) (h2.set i v) :=
  ⟨by simpa using h.len, fun p hp => by rw [getD_set, getD_set, h.len, h.at_ p hp]⟩
/-- What is turned is of another colour. -/
theorem Agree.other (h : Agree k mine h1 h2) (i : Nat) (v : Bool) (hi : inW k mine i = false) : Agree k mine (h1.set i v) h2 :=
  ⟨by simpa using h.len, fun p hp => by
    rw [getD_set, if_neg (fun e => by rw [e.1, hp] at hi; cases hi)]
    exact h.at_ p hp⟩
theorem Agree.both (h : Agree k mine h1 h2) : Agree k mine (takS k h1 mine) (takS k h2 mine) := by
  unfold takS; rw [h.takP]; exact h.set _ _
theorem inW_iff {p : Nat} {l : List Int} : inW k l p = true ↔ ((p % k : Nat) : Int) ∈ l := by
  unfold inW; rw [List.any_eq_true]
  exact ⟨fun ⟨x, hx, e⟩ => by rw [beq_iff_eq] at e; rw [← e]; exact hx, fun h => ⟨_, h, by simp⟩⟩
theorem Agree.take (h : Agree k mine h1 h2) (hy : ∀ y ∈ ys, y ∉ mine) : Agree k mine (takS k h1 ys) h2 := by
  unfold takS
  rcases low_cases (Go.Proofs.YtcekpaicccmhkaaDoor.meant k h1 ys) h1.length with ⟨g1, g2, _⟩ | ⟨g1, _⟩
  · refine h.other _ _ ?_
    cases hi : inW k mine (Go.Proofs.YtcekpaicccmhkaaDoor.takP k h1 ys)
    · rfl
    · exfalso
      have g3 : inW k ys (Go.Proofs.YtcekpaicccmhkaaDoor.takP k h1 ys) = true := by
        have g2' : Go.Proofs.YtcekpaicccmhkaaDoor.meant k h1 ys (Go.Proofs.YtcekpaicccmhkaaDoor.takP k h1 ys) = true := g2
        unfold Go.Proofs.YtcekpaicccmhkaaDoor.meant at g2'
        rw [Bool.and_eq_true] at g2'
        exact g2'.2
      exact hy _ (inW_iff.1 g3) (inW_iff.1 hi)
  · have e : Go.Proofs.YtcekpaicccmhkaaDoor.takP k h1 ys = h1.length := g1
    rw [e, List.set_eq_of_length_le (Nat.le_refl _)]
    exact h
theorem Agree.give (h : Agree k mine h1 h2) (p : Int) (hc : colI h1.length k p ∉ mine) : Agree k mine (giS h1 p) h2 := by
  unfold giS
  split
  · rename_i hp
    refine h.other _ _ ?_
    cases hi : inW k mine p.toNat
    · rfl
    · exfalso
      refine hc ?_
      unfold colI
      rw [if_pos hp]
      exact inW_iff.1 hi
  · exact h
/-- What is taken is of the window's colours. -/
theorem take_own (he : Go.Proofs.YtcekpaicccmhkaaDoor.takE k h1 mine = 0) : colI h1.length k (Go.Proofs.YtcekpaicccmhkaaDoor.takV k h1 mine) ∈ mine := by
  have hlt : Go.Proofs.YtcekpaicccmhkaaDoor.takP k h1 mine < h1.length := by
    unfold Go.Proofs.YtcekpaicccmhkaaDoor.takE at he
    split at he
    · assumption
    · cases he
  rcases low_cases (Go.Proofs.YtcekpaicccmhkaaDoor.meant k h1 mine) h1.length with ⟨g1, g2, _⟩ | ⟨g1, _⟩
  · have g2' : Go.Proofs.YtcekpaicccmhkaaDoor.meant k h1 mine (Go.Proofs.YtcekpaicccmhkaaDoor.takP k h1 mine) = true := g2
    unfold Go.Proofs.YtcekpaicccmhkaaDoor.meant at g2'
    rw [Bool.and_eq_true] at g2'
    have := inW_iff.1 g2'.2
    unfold Go.Proofs.YtcekpaicccmhkaaDoor.takV colI
    rw [if_pos hlt, if_pos (by omega)]
    simpa using this
  · have e : Go.Proofs.YtcekpaicccmhkaaDoor.takP k h1 mine = h1.length := g1
    omega
end
end Go.Proofs.YtcekpaicccmhkaaDoor
