/-
  A family of things side by side, of which one turns; things taken together and apart. Nothing of the program is named here.
-/
import Derived.Test.YtihaifnenjngpaaGreatDoorViIn
namespace Go.Proofs.YtihaifnenjngpaaGreatDoor
open Go.RowKit

/-- Nothing at all. -/
def Non (w : World) (Z : Nat → Prop) : Prop := ∀ i, Z i → i < w.heap.size
theorem Non.good : Good Non := ⟨fun h f _ i hi => Nat.lt_of_lt_of_le (h i hi) f.size, fun _ _ h => h⟩
/-- One of a family is another one. -/
def fset {α : Type} (P : Nat → α) (j : Nat) (x : α) : Nat → α := fun i => if i = j then x else P i
theorem fset_same {α : Type} (P : Nat → α) (j : Nat) (x : α) : fset P j x j = x := if_pos rfl
theorem fset_ne {α : Type} (P : Nat → α) {j i : Nat} (x : α) (h : i ≠ j) : fset P j x i = P i := if_neg h
theorem fset_id {α : Type} (P : Nat → α) (j : Nat) : fset P j (P j) = P := by
  funext i
  unfold fset
  split
  · rename_i e; rw [e]
  · rfl
theorem fset_fset {α : Type} (P : Nat → α) (j : Nat) (x y : α) : fset (fset P j x) j y = fset P j y := by
  funext i
  unfold fset
  split <;> rfl
/-- A family of things, side by side. -/
def Fam (n : Nat) (P : Nat → World → (Nat → Prop) → Prop) (w : World) (U : Nat → Prop) : Prop :=
  ∃ o : Nat → Nat, (∀ i, i < n → P i w (fun b => o b = i + 1 ∧ U b)) ∧ ∀ b, U b → b < w.heap.size
section
variable {n : Nat} {P P' : Nat → World → (Nat → Prop) → Prop} {Q : World → (Nat → Prop) → Prop} {w w' : World} {U : Nat → Prop}
theorem Fam.good (hP : ∀ i, Good (P i)) : Good (Fam n P) := by
  classical
  refine ⟨fun {w w' Z S} h f hs => ?_, fun {w Z Z'} h k1 k2 => ?_⟩
  · obtain ⟨o, h1, h2⟩ := h
    exact ⟨o, fun i hi => (hP i).carry (h1 i hi) f fun b hb => hs b hb.2, fun b hb => Nat.lt_of_lt_of_le (h2 b hb) f.size⟩
  · obtain ⟨o, h1, h2⟩ := h
    refine ⟨fun b => if Z b then o b else 0, fun i hi => (hP i).mono (h1 i hi) (fun b hb => ⟨?_, k1 b hb.2⟩) fun b hb => k2 b hb.2, k2⟩
    show (if Z b then o b else 0) = i + 1
    rw [if_pos hb.2]; exact hb.1
theorem Fam.lt (h : Fam n P w U) : ∀ b, U b → b < w.heap.size := by obtain ⟨o, _, h2⟩ := h; exact h2
theorem Fam.congr (h : Fam n P w U) (e : ∀ i, i < n → P i = P' i) : Fam n P' w U := by
  obtain ⟨o, h1, h2⟩ := h
  exact ⟨o, fun i hi => by rw [← e i hi]; exact h1 i hi, h2⟩
/-- One of them by itself, and the others. -/
theorem Fam.split (h : Fam n P w U) (hP : ∀ i, Good (P i)) {j : Nat} (hj : j < n) : Both (P j) (Fam n (fset P j Non)) w U := by
  classical
  obtain ⟨o, h1, h2⟩ := h
  refine ⟨fun b => o b = j + 1 ∧ U b, fun b => U b ∧ ¬ o b = j + 1, h1 j hj, ⟨o, fun i hi => ?_, fun b hb => h2 b hb.1⟩, fun b hb hn => hn.2 hb.1, fun b hb => hb.2, fun b hb => hb.1, h2⟩
  by_cases e : i = j
  · subst e; rw [fset_same]; exact fun b hb => h2 b hb.2.1
  · rw [fset_ne P Non e]
    exact (hP i).mono (h1 i hi) (fun b hb => ⟨hb.1, hb.2, by have := hb.1; omega⟩) fun b hb => h2 b hb.2.1
theorem Fam.join {j : Nat} (h : Both Q (Fam n (fset P j Non)) w U) (hQ : Good Q) (hP : ∀ i, Good (P i)) : Fam n (fset P j Q) w U := by
  classical
  obtain ⟨Z, Y, h1, ⟨o, h2, h3⟩, h4, h5, h6, h7⟩ := h
  refine ⟨fun b => if Z b then j + 1 else if Y b ∧ o b ≠ j + 1 then o b else 0, fun i hi => ?_, h7⟩
  by_cases e : i = j
  · subst e
    rw [fset_same]
    refine hQ.mono h1 (fun b hb => ⟨if_pos hb, h5 b hb⟩) fun b hb => h7 b hb.2
  · rw [fset_ne P Q e]
    have hi2 := h2 i hi
    rw [fset_ne P Non e] at hi2
    refine (hP i).mono hi2 (fun b hb => ⟨?_, h6 b hb.2⟩) fun b hb => h7 b hb.2
    show (if Z b then j + 1 else if Y b ∧ o b ≠ j + 1 then o b else 0) = i + 1
    rw [if_neg fun hz => h4 b hz hb.2, if_pos ⟨hb.2, by have := hb.1; omega⟩]
    exact hb.1
theorem Fam.start (w : World) (n : Nat) : Fam n (fun _ => Non) w (fun _ => False) := ⟨fun _ => 0, fun _ _ _ hb => hb.2.elim, fun _ hb => hb.elim⟩
end
section
variable {W w : World} {ts : List (World → (Nat → Prop) → Prop)} {P Q : World → (Nat → Prop) → Prop} {n i j : Nat} {F : Nat → World → (Nat → Prop) → Prop}
theorem Things.goods (h : Things W w ts) (hj : ts[j]? = some P) : Good P := by
  obtain ⟨o, _, _, h3, _⟩ := h
  exact h3 P (List.mem_of_getElem? hj)
/-- Two of them as one. -/
theorem Things.merge (h : Things W w ts) (i j : Nat) (hi : ts[i]? = some P) (hj : ts[j]? = some Q) (_hne : i ≠ j) : Things W w ((ts.set i (Both P Q)).set j Non) := by
  classical
  have gP := h.goods hi
  have gQ := h.goods hj
  obtain ⟨o, h1, h2, h3, h4⟩ := h
  have hil := (List.getElem?_eq_some_iff.1 hi).1
  have hjl := (List.getElem?_eq_some_iff.1 hj).1
  refine ⟨fun b => if o b = j + 1 then i + 1 else o b, ⟨h1.nw, fun b hb => ?_⟩, fun b => ?_, fun R hR => ?_, fun m R hm => ?_⟩
  · apply h1.dom
    intro e
    simp [e] at hb
  · simp only [List.length_set]
    have := h2 b
    show (if o b = j + 1 then i + 1 else o b) ≤ _
    split <;> omega
  · rcases List.mem_or_eq_of_mem_set hR with e | rfl
    · rcases List.mem_or_eq_of_mem_set e with e | rfl
      · exact h3 R e
      · exact Both.good gP gQ
    · exact Non.good
  · have hlt : ∀ b, (if o b = j + 1 then i + 1 else o b) = m + 1 → b < w.heap.size := fun b hb => by
      apply (h1.dom b _).2
      intro e
      simp [e] at hb
    rw [List.getElem?_set] at hm
    split at hm
    · rename_i e
      subst e
      simp only [List.length_set, hjl, if_true, Option.some.injEq] at hm
      subst hm
      exact hlt
    · rename_i e
      rw [List.getElem?_set] at hm
      split at hm
      · rename_i e2
        subst e2
        simp only [Option.some.injEq] at hm
        subst hm
        refine ⟨lab o (i + 1), lab o (j + 1), h4 i P hi, h4 j Q hj, fun b a c => ?_, fun b a => ?_, fun b a => ?_, hlt⟩
        · have a : o b = i + 1 := a
          have c : o b = j + 1 := c
          omega
        · have a : o b = i + 1 := a
          show (if o b = j + 1 then i + 1 else o b) = i + 1
          split
          · rfl
          · exact a
        · have a : o b = j + 1 := a
          show (if o b = j + 1 then i + 1 else o b) = i + 1
          rw [if_pos a]
      · rename_i e2
        refine (h3 R (List.mem_of_getElem? hm)).mono (h4 m R hm) (fun b a => ?_) hlt
        have a : o b = m + 1 := a
        show (if o b = j + 1 then i + 1 else o b) = m + 1
        rw [if_neg (by omega)]; exact a
/-- .. and apart again. -/
theorem Things.apart (h : Things W w ts) (i j : Nat) (hi : ts[i]? = some (Both P Q)) (hj : ts[j]? = some Non) (_hne : i ≠ j) (gP : Good P) (gQ : Good Q) : Things W w ((ts.set i P).set j Q) := by
  classical
  obtain ⟨o, h1, h2, h3, h4⟩ := h
  have hil := (List.getElem?_eq_some_iff.1 hi).1
  have hjl := (List.getElem?_eq_some_iff.1 hj).1
  obtain ⟨Z, Y, k1, k2, k3, k4, k5, k6⟩ := h4 i _ hi
  refine ⟨fun b => if Z b then i + 1 else if Y b then j + 1 else if o b = i + 1 ∨ o b = j + 1 then 0 else o b, ⟨h1.nw, fun b hb => ?_⟩, fun b => ?_, fun R hR => ?_, fun m R hm => ?_⟩
  · apply h1.dom
    intro e
    have z : ¬ Z b := fun hz => by have : o b = i + 1 := k4 b hz; omega
    have y : ¬ Y b := fun hz => by have : o b = i + 1 := k5 b hz; omega
    simp [e, z, y] at hb
  · simp only [List.length_set]
    have := h2 b
    show (if Z b then i + 1 else if Y b then j + 1 else if o b = i + 1 ∨ o b = j + 1 then 0 else o b) ≤ _
    split
    · omega
    · split
      · omega
      · split <;> omega
  · rcases List.mem_or_eq_of_mem_set hR with e | rfl
    · rcases List.mem_or_eq_of_mem_set e with e | rfl
      · exact h3 R e
      · exact gP
    · exact gQ
  · have hlt : ∀ b, (if Z b then i + 1 else if Y b then j + 1 else if o b = i + 1 ∨ o b = j + 1 then 0 else o b) = m + 1 → b < w.heap.size := fun b hb => by
      apply (h1.dom b _).2
      intro e
      have z : ¬ Z b := fun hz => by have : o b = i + 1 := k4 b hz; omega
      have y : ¬ Y b := fun hz => by have : o b = i + 1 := k5 b hz; omega
      simp [e, z, y] at hb
    rw [List.getElem?_set] at hm
    split at hm
    · rename_i e
      subst e
      simp only [List.length_set, hjl, if_true, Option.some.injEq] at hm
      subst hm
      refine gQ.mono k2 (fun b hb => ?_) hlt
      show (if Z b then i + 1 else if Y b then j + 1 else if o b = i + 1 ∨ o b = j + 1 then 0 else o b) = j + 1
      rw [if_neg fun hz => k3 b hz hb, if_pos hb]
    · rename_i e
      rw [List.getElem?_set] at hm
      split at hm
      · rename_i e2
        subst e2
        simp only [Option.some.injEq] at hm
        subst hm
        exact gP.mono k1 (fun b hb => if_pos hb) hlt
      · rename_i e2
        refine (h3 R (List.mem_of_getElem? hm)).mono (h4 m R hm) (fun b a => ?_) hlt
        have a : o b = m + 1 := a
        show (if Z b then i + 1 else if Y b then j + 1 else if o b = i + 1 ∨ o b = j + 1 then 0 else o b) = m + 1
        rw [if_neg fun hz => by have : o b = i + 1 := k4 b hz; omega, if_neg fun hz => by have : o b = i + 1 := k5 b hz; omega, if_neg (by omega)]
        exact a
/-- One that is two things: the second one is put last. -/
theorem Things.open2 (h : Things W w ts) (i : Nat) (hi : ts[i]? = some (Both P Q)) (gP : Good P) (gQ : Good Q) : Things W w (ts.set i P ++ [Q]) := by
  have h0 : Things W w (ts ++ [Non]) := h.more Non.good (Z := fun _ => False) (fun _ e => e.elim) (Fr.refl _ _) fun _ e => e.elim
  have hil := (List.getElem?_eq_some_iff.1 hi).1
  have h1 := h0.apart i ts.length (P := P) (Q := Q) (by rw [List.getElem?_append_left hil]; exact hi) (by simp) (by omega) gP gQ
  rw [List.set_append_left _ _ hil, List.set_append_right _ _ (by simp)] at h1
  simpa using h1
/-- A call of one of a family. -/
theorem Things.mem (h : Things W w ts) (j : Nat) (hj : ts[j]? = some (Fam n F)) (hF : ∀ c, Good (F c)) (hi : i < n) (hQ : Good Q) {Pg : Program} {G : Nat} {args : Array Value} {R : Ending → Prop}
    (base : ∀ U, F i w U → Calls Pg G args w fun e w' => R e ∧ ∃ U', Q w' U' ∧ Gw w w' U U') : Calls Pg G args w fun e w' => R e ∧ Things W w' (ts.set j (Fam n (fset F i Q))) := by
  refine h.lift j hj (Fam.good fun c => ?_) fun U hU => ?_
  · unfold fset; split
    · exact hQ
    · exact hF c
  · obtain ⟨Z, z1, _, z3⟩ := (hU.split hF hi).left (Fam.good fun c => by unfold fset; split; exact Non.good; exact hF c)
    refine (base Z z1).mono ?_
    rintro e w' ⟨he, Z', k1, k2⟩
    obtain ⟨U', u1, u2⟩ := z3 k1 k2
    exact ⟨he, U', Fam.join u1 hQ hF, u2⟩
theorem Things.askMem (h : Things W w ts) (j : Nat) (hj : ts[j]? = some (Fam n F)) (hi : i < n) {Pg : Program} {G : Nat} {args : Array Value} {R : Ending → Prop}
    (base : ∀ U, F i w U → Calls Pg G args w fun e w' => R e ∧ Fr (fun _ => False) w w') : Calls Pg G args w fun e w' => R e ∧ Fr (fun _ => False) w w' := by
  obtain ⟨U, ⟨o, h1, _⟩, _⟩ := h.get j hj
  exact base _ (h1 i hi)
/-- A call of one thing and of one of a family, as one. -/
theorem Things.pair (h : Things W w ts) (i j : Nat) (hi : ts[i]? = some P) (hj : ts[j]? = some (Fam n F)) (hne : i ≠ j) (hF : ∀ c, Good (F c)) {c : Nat} (hc : c < n) {P' : World → (Nat → Prop) → Prop} (hP' : Good P') (hQ : Good Q) {Pg : Program} {G : Nat} {args : Array Value} {R : Ending → Prop}
    (base : ∀ U, Both P (F c) w U → Calls Pg G args w fun e w' => R e ∧ ∃ U', Both P' Q w' U' ∧ Gw w w' U U') : Calls Pg G args w fun e w' => R e ∧ Things W w' ((ts.set i P').set j (Fam n (fset F c Q))) := by
  have gF := h.goods hj
  have hil := (List.getElem?_eq_some_iff.1 hi).1
  have hjl := (List.getElem?_eq_some_iff.1 hj).1
  have gQ : Good (Fam n (fset F c Q)) := Fam.good fun d => by unfold fset; split; exact hQ; exact hF d
  have h1 := h.merge i j hi hj hne
  have hg : ((ts.set i (Both P (Fam n F))).set j Non)[i]? = some (Both P (Fam n F)) := by rw [List.getElem?_set_ne (fun e => hne e.symm), List.getElem?_set_self hil]
  refine (h1.lift i hg (Both.good hP' gQ) (R := R) fun U hU => ?_).mono ?_
  · have hs : Both P (Both (F c) (Fam n (fset F c Non))) w U := hU.imp fun Y y => y.split hF hc
    obtain ⟨V, v1, _, v3⟩ := hs.rest (Fam.good fun d => by unfold fset; split; exact Non.good; exact hF d)
    refine (base V v1).mono ?_
    rintro e w' ⟨he, V', k1, k2⟩
    obtain ⟨U', u1, u2⟩ := v3 k1 k2
    exact ⟨he, U', u1.imp fun Y y => Fam.join y hQ hF, u2⟩
  · rintro e w' ⟨he, h2⟩
    refine ⟨he, ?_⟩
    have h3 := h2.apart i j (P := P') (Q := Fam n (fset F c Q)) (by rw [List.getElem?_set_self (by simp; exact hil)]) (by rw [List.getElem?_set_ne hne, List.getElem?_set_self (by simp; exact hjl)]) hne hP' gQ
    have e2 : (((((ts.set i (Both P (Fam n F))).set j Non).set i (Both P' (Fam n (fset F c Q)))).set i P').set j (Fam n (fset F c Q))) = (ts.set i P').set j (Fam n (fset F c Q)) := by
      rw [List.set_set, List.set_comm _ _ (fun e => hne e.symm), List.set_set, List.set_set]
    rw [e2] at h3
    exact h3
/-- A thing is seen in another way. -/
theorem Things.view {P P' : World → (Nat → Prop) → Prop} (q : Things W w ts) (j : Nat) (hj : ts[j]? = some P) (hg : Good P') (hp : ∀ U, P w U → P' w U) : Things W w (ts.set j P') := by
  obtain ⟨U, h1, h2, h3⟩ := q.turn j hj
  exact h3 P' w U hg (hp U h1) (Gw.same (fun i hi => (h2 i hi).2) (Fr.refl _ _))
/-- The last thing joins another one. -/
theorem Things.join {P Q : World → (Nat → Prop) → Prop} (q : Things W w (ts ++ [Q])) (j : Nat) (hj : ts[j]? = some P) : Things W w (ts.set j (Both P Q)) := by
  obtain ⟨o, h1, h2, h3, h4⟩ := q
  have hjl := (List.getElem?_eq_some_iff.1 hj).1
  have hP := h3 P (List.mem_append_left _ (List.mem_of_getElem? hj))
  have hQ := h3 Q (by simp)
  have p1 := h4 j P (by rw [List.getElem?_append_left hjl]; exact hj)
  have p2 := h4 ts.length Q (by simp)
  rw [List.length_append, List.length_singleton] at h2
  refine ⟨fun i => if o i = ts.length + 1 then j + 1 else o i, ⟨h1.nw, fun i hi => ?_⟩, fun i => ?_, fun R hR => ?_, fun n R hn => ?_⟩
  · apply h1.dom
    intro e
    simp [e] at hi
  · rw [List.length_set]
    have := h2 i
    show (if o i = ts.length + 1 then j + 1 else o i) ≤ _
    split <;> omega
  · rcases List.mem_or_eq_of_mem_set hR with e | rfl
    · exact h3 R (List.mem_append_left _ e)
    · exact Both.good hP hQ
  · have hlt : ∀ i, (if o i = ts.length + 1 then j + 1 else o i) = n + 1 → i < w.heap.size := fun i hi => by
      apply (h1.dom i _).2
      intro e
      simp [e] at hi
    by_cases e : n = j
    · subst e
      rw [List.getElem?_set_self hjl] at hn
      cases hn
      refine ⟨lab o (n + 1), lab o (ts.length + 1), p1, p2, fun i a b => ?_, fun i a => ?_, fun i a => ?_, fun i a => hlt i a⟩
      · have a : o i = n + 1 := a
        have b : o i = ts.length + 1 := b
        omega
      · have a : o i = n + 1 := a
        show (if o i = ts.length + 1 then n + 1 else o i) = n + 1
        split
        · rfl
        · exact a
      · have a : o i = ts.length + 1 := a
        show (if o i = ts.length + 1 then n + 1 else o i) = n + 1
        rw [if_pos a]
    · rw [List.getElem?_set_ne (fun e2 => e e2.symm)] at hn
      have hnl := (List.getElem?_eq_some_iff.1 hn).1
      have p := h4 n R (by rw [List.getElem?_append_left hnl]; exact hn)
      refine (h3 R (List.mem_append_left _ (List.mem_of_getElem? hn))).mono p (fun i a => ?_) fun i a => hlt i a
      have a : o i = n + 1 := a
      show (if o i = ts.length + 1 then j + 1 else o i) = n + 1
      rw [if_neg (by omega)]; exact a
/-- The last thing becomes one of a family. -/
theorem Things.put (h : Things W w (ts ++ [Q])) (j : Nat) (hj : ts[j]? = some (Fam n F)) (hF : ∀ c, Good (F c)) (he : F i = Non) : Things W w (ts.set j (Fam n (fset F i Q))) := by
  have hQ : Good Q := h.goods (j := ts.length) (by simp)
  have h1 := h.join j hj
  have hjl := (List.getElem?_eq_some_iff.1 hj).1
  have h2 := h1.view j (List.getElem?_set_self hjl) (P' := Fam n (fset F i Q)) (Fam.good fun c => by unfold fset; split; exact hQ; exact hF c) fun U hU => by
    refine Fam.join (P := F) ?_ hQ hF
    have e : fset F i Non = F := by rw [← he]; exact fset_id F i
    rw [e]
    exact hU.swap
  rw [List.set_set] at h2
  exact h2
/-- One of a family is forgotten. -/
theorem Things.forget (h : Things W w ts) (j : Nat) (hj : ts[j]? = some (Fam n F)) (hF : ∀ c, Good (F c)) (hi : i < n) : Things W w (ts.set j (Fam n (fset F i Non))) := by
  have hG : Good (Fam n (fset F i Non)) := Fam.good fun c => by unfold fset; split; exact Non.good; exact hF c
  refine h.view j hj hG fun U hU => ?_
  obtain ⟨Z, Y, _, h2, _, _, h5, h6⟩ := hU.split hF hi
  exact hG.mono h2 h5 h6
end
end Go.Proofs.YtihaifnenjngpaaGreatDoor
