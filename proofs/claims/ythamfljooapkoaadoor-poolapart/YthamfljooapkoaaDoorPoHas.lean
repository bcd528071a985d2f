/-
  A pool's colours as a shelf of those that somebody has, and as windows: plain mathematics. Nothing of the program is named here.
-/
import Derived.Test.YthamfljooapkoaaDoorPoMath
import Derived.Test.YthamfljooapkoaaDoorPoMem
import Derived.Test.YthamfljooapkoaaDoorSfBase
namespace Go.Proofs.YthamfljooapkoaaDoor

/-- Which colours are somebody's. -/
def hs (own : List Int) : List Bool := own.map fun x => decide (x ≠ -1)
theorem hs_length (own : List Int) : (hs own).length = own.length := by simp [hs]
theorem hs_set (own : List Int) (i : Nat) (x : Int) : hs (own.set i x) = (hs own).set i (decide (x ≠ -1)) := by simp [hs, List.map_set]
theorem hs_get {own : List Int} {i : Nat} (h : i < own.length) (h' : i < (hs own).length) : (hs own)[i] = decide (own[i] ≠ -1) := by simp [hs]
theorem hs_rep (n : Nat) : hs (List.replicate n (-1)) = List.replicate n false := by simp [hs]
theorem getD_at {own : List Int} {i : Nat} (h : i < own.length) (d : Int) : own.getD i d = own[i] := by simp [List.getD, List.getElem?_eq_getElem h]
theorem frees_hs : ∀ own : List Int, Sf.frees (hs own) = own.count (-1)
  | [] => rfl
  | x :: r => by
    have ih := frees_hs r
    unfold hs at ih ⊢
    by_cases h : x = -1
    · subst h; rw [List.map_cons, decide_eq_false (fun e => e rfl), Sf.frees, ih]; simp
    · rw [List.map_cons, decide_eq_true h, Sf.frees, ih, List.count_cons_of_ne h]
theorem free_all (own : List Int) : Sf.frees (hs own) = (wN own (-1)).length := by rw [wN_count, frees_hs]
/-- Two rising lists of the same numbers are one. -/
theorem rise_ext : ∀ {l m : List Nat}, l.Pairwise (· < ·) → m.Pairwise (· < ·) → (∀ x, x ∈ l ↔ x ∈ m) → l = m
  | [], [], _, _, _ => rfl
  | [], b :: m, _, _, h => by have := (h b).2 (List.mem_cons_self ..); simp at this
  | a :: l, [], _, _, h => by have := (h a).1 (List.mem_cons_self ..); simp at this
  | a :: l, b :: m, h1, h2, h => by
    obtain ⟨p1, q1⟩ := List.pairwise_cons.1 h1
    obtain ⟨p2, q2⟩ := List.pairwise_cons.1 h2
    have e : a = b := by
      rcases List.mem_cons.1 ((h a).1 (List.mem_cons_self ..)) with e | e
      · exact e
      · rcases List.mem_cons.1 ((h b).2 (List.mem_cons_self ..)) with e2 | e2
        · exact e2.symm
        · have := p1 b e2; have := p2 a e; omega
    subst e
    congr 1
    refine rise_ext q1 q2 fun x => ⟨fun hx => ?_, fun hx => ?_⟩
    · rcases List.mem_cons.1 ((h x).1 (List.mem_cons_of_mem _ hx)) with e | e
      · subst e; have := p1 x hx; omega
      · exact e
    · rcases List.mem_cons.1 ((h x).2 (List.mem_cons_of_mem _ hx)) with e | e
      · subst e; have := p2 x hx; omega
      · exact e
/-- The lowest that is nobody's. -/
theorem low_hs {own : List Int} {c : Nat} {r : List Nat} (h : wN own (-1) = c :: r) : c < own.length ∧ Sf.low (hs own) = c := by
  have hc : c ∈ wN own (-1) := by rw [h]; exact List.mem_cons_self ..
  obtain ⟨h1, h2⟩ := wN_mem.1 hc
  rw [getD_at h1] at h2
  have h1' : c < (hs own).length := by rw [hs_length]; exact h1
  refine ⟨h1, Sf.low_unique _ _ h1' ?_ ?_⟩
  · rw [hs_get h1, h2]; rfl
  · intro i hi
    have hi' : i < own.length := by omega
    rw [hs_get hi']
    rw [decide_eq_true_iff]
    intro e
    have hm : i ∈ wN own (-1) := wN_mem.2 ⟨hi', by rw [getD_at hi']; exact e⟩
    have hp := wN_rises own (-1)
    rw [h] at hm hp
    rcases List.mem_cons.1 hm with e | e
    · omega
    · have := (List.pairwise_cons.1 hp).1 i e; omega
theorem mem_parts {l : List Nat} (k : Nat) (x : Nat) : x ∈ l ↔ x ∈ l.take k ∨ x ∈ l.drop k := by
  conv => lhs; rw [← List.take_append_drop k l]
  rw [List.mem_append]
theorem wN_setAll {own : List Int} {l : List Nat} {o o' : Int} {x : Nat} : x ∈ wN (setAll own l o) o' ↔ x < own.length ∧ (if x ∈ l then o else own.getD x 99) = o' := by
  rw [wN_mem, setAll_length]
  constructor
  · rintro ⟨h1, h2⟩; rw [setAll_get _ _ _ _ _ h1] at h2; exact ⟨h1, h2⟩
  · rintro ⟨h1, h2⟩; exact ⟨h1, by rw [setAll_get _ _ _ _ _ h1]; exact h2⟩
/-- The lowest ones are an owner's: the others are nobody's still. -/
theorem rest_free {own : List Int} {o : Int} (ho : 0 ≤ o) (j : Nat) : wN (setAll own ((wN own (-1)).take j) o) (-1) = (wN own (-1)).drop j := by
  refine rise_ext (wN_rises _ _) ((wN_rises own (-1)).sublist (List.drop_sublist _ _)) fun x => ?_
  rw [wN_setAll]
  constructor
  · rintro ⟨h1, h2⟩
    split at h2
    · omega
    · rename_i h3
      rcases (mem_parts (l := wN own (-1)) j x).1 (wN_mem.2 ⟨h1, h2⟩) with h | h
      · exact (h3 h).elim
      · exact h
  · intro h
    have h4 := wN_mem.1 ((mem_parts j x).2 (.inr h))
    refine ⟨h4.1, ?_⟩
    rw [if_neg (fun h3 => take_drop_apart (wN_rises own (-1)) j x h3 h)]
    exact h4.2
/-- One more is taken. -/
theorem take_step {own : List Int} {o : Int} (ho : 0 ≤ o) {j : Nat} (hj : j < (wN own (-1)).length) :
    Sf.takV (hs (setAll own ((wN own (-1)).take j) o)) = ((wN own (-1))[j] : Nat) ∧ Sf.takS (hs (setAll own ((wN own (-1)).take j) o)) = hs (setAll own ((wN own (-1)).take (j + 1)) o) := by
  have h0 := rest_free (own := own) ho j
  rw [List.drop_eq_getElem_cons hj] at h0
  obtain ⟨h1, h2⟩ := low_hs h0
  have h3 : (wN own (-1))[j] < (hs (setAll own ((wN own (-1)).take j) o)).length := by rw [hs_length]; exact h1
  refine ⟨by unfold Sf.takV; rw [h2, if_pos h3], ?_⟩
  unfold Sf.takS
  rw [h2, if_pos h3, List.take_add_one, List.getElem?_eq_getElem hj, Option.toList_some, setAll_snoc, hs_set, decide_eq_true (show o ≠ -1 by omega)]
/-- One is given back. -/
theorem give_step {own : List Int} {l : List Nat} {j : Nat} (hj : j < l.length) (hl : l[j] < own.length) : Sf.giS (hs (setAll own (l.take j) (-1))) ((l[j] : Nat) : Int) = hs (setAll own (l.take (j + 1)) (-1)) := by
  unfold Sf.giS
  rw [if_pos (by rw [Sf.hasN_iff, hs_length, setAll_length]; omega), Int.toNat_natCast, List.take_add_one, List.getElem?_eq_getElem hj, Option.toList_some, setAll_snoc, hs_set]
  rfl
/-- A grant is nothing to the windows of others. -/
theorem gr_other {own : List Int} {o o' : Int} (k : Nat) (h0 : 0 ≤ o') (hne : o' ≠ o) : wN (setAll own ((wN own (-1)).take k) o) o' = wN own o' := by
  refine rise_ext (wN_rises _ _) (wN_rises _ _) fun x => ?_
  rw [wN_setAll, wN_mem]
  refine and_congr_right fun h1 => ?_
  by_cases h : x ∈ (wN own (-1)).take k
  · rw [if_pos h]
    have := (wN_mem.1 ((mem_parts k x).2 (.inl h))).2
    constructor
    · intro e; exact (hne e.symm).elim
    · intro e; omega
  · rw [if_neg h]
theorem sh_other {own : List Int} {o o' : Int} (k : Nat) (h0 : 0 ≤ o') (hne : o' ≠ o) : wN (setAll own ((wN own o).drop k) (-1)) o' = wN own o' := by
  refine rise_ext (wN_rises _ _) (wN_rises _ _) fun x => ?_
  rw [wN_setAll, wN_mem]
  refine and_congr_right fun h1 => ?_
  by_cases h : x ∈ (wN own o).drop k
  · rw [if_pos h]
    have := (wN_mem.1 ((mem_parts k x).2 (.inr h))).2
    constructor
    · intro e; omega
    · intro e; exact (hne (e.symm.trans this)).elim
  · rw [if_neg h]
theorem nI_mem {l : List Nat} {x : Nat} : ((x : Nat) : Int) ∈ nI l ↔ x ∈ l := by
  unfold nI; rw [List.mem_map]
  constructor
  · rintro ⟨y, h1, h2⟩; have : y = x := by omega
    subst this; exact h1
  · intro h; exact ⟨x, h, rfl⟩
theorem nI_rises {l : List Nat} (h : l.Pairwise (· < ·)) : (nI l).Pairwise (fun a b => decide (a ≤ b) = true) := by
  unfold nI
  rw [List.pairwise_map]
  exact h.imp fun hab => by rw [decide_eq_true_iff]; omega
theorem nI_append (l m : List Nat) : nI (l ++ m) = nI l ++ nI m := by simp [nI]
theorem rises_nodup {l : List Nat} (h : l.Pairwise (· < ·)) : l.Nodup := h.imp fun hab => by omega
/-- The window of who is granted, sorted. -/
theorem gr_sorted {own : List Int} {o : Int} (ho : 0 ≤ o) (k : Nat) : ((nI (wN own o ++ (wN own (-1)).take k)).mergeSort fun x y => decide (x ≤ y)) = nI (wN (setAll own ((wN own (-1)).take k) o) o) := by
  have hperm : (wN own o ++ (wN own (-1)).take k).Perm (wN (setAll own ((wN own (-1)).take k) o) o) := by
    rw [List.perm_ext_iff_of_nodup]
    · intro x
      rw [List.mem_append, wN_setAll]
      by_cases h : x ∈ (wN own (-1)).take k
      · rw [if_pos h]
        have := wN_mem.1 ((mem_parts k x).2 (.inl h))
        exact ⟨fun _ => ⟨this.1, rfl⟩, fun _ => .inr h⟩
      · rw [if_neg h, wN_mem]
        exact ⟨fun h2 => h2.elim id fun h3 => (h h3).elim, .inl⟩
    · refine List.nodup_append.2 ⟨rises_nodup (wN_rises _ _), rises_nodup ((wN_rises own (-1)).sublist (List.take_sublist _ _)), ?_⟩
      rintro x hx y hy rfl
      have h1 := (wN_mem.1 hx).2
      have h2 := (wN_mem.1 ((mem_parts k x).2 (.inl hy))).2
      omega
    · exact rises_nodup (wN_rises _ _)
  have h1 : ((nI (wN own o ++ (wN own (-1)).take k)).mergeSort fun x y => decide (x ≤ y)).Perm (nI (wN (setAll own ((wN own (-1)).take k) o) o)) := (List.mergeSort_perm _ _).trans (hperm.map _)
  refine List.Perm.eq_of_pairwise (le := fun a b : Int => decide (a ≤ b) = true) ?_ ?_ (nI_rises (wN_rises _ _)) h1
  · intro a b _ _ h2 h3
    rw [decide_eq_true_iff] at h2 h3
    omega
  · exact List.pairwise_mergeSort (le := fun x y : Int => decide (x ≤ y)) (by intro a b c h2 h3; rw [decide_eq_true_iff] at *; omega) (by intro a b; rw [Bool.or_eq_true, decide_eq_true_iff, decide_eq_true_iff]; omega) _
/-- Whose a colour is, by the windows. -/
theorem ow_hit {own : List Int} {c : Int} {o : Nat} (h : c ∈ nI (wN own o)) : owI own c = o := by
  unfold nI at h
  obtain ⟨x, h1, rfl⟩ := List.mem_map.1 h
  exact wN_at h1
theorem ow_miss {own : List Int} (ho : Own own) {c : Int} (h : ∀ o : Nat, o < 8 → c ∉ nI (wN own o)) : owI own c = -1 := by
  unfold owI
  split
  · rename_i hc
    have hcl : c.toNat < own.length := by omega
    have hx := ho.rng (own.getD c.toNat 0) (by rw [getD_at hcl]; exact List.getElem_mem hcl)
    by_cases e : own.getD c.toNat 0 = -1
    · exact e
    · exfalso
      refine h (own.getD c.toNat 0).toNat (by omega) ?_
      have : ((c.toNat : Nat) : Int) ∈ nI (wN own ((own.getD c.toNat 0).toNat : Nat)) := nI_mem.2 (wN_mem.2 ⟨hcl, by rw [getD_at hcl] at hx e ⊢; rw [getD_at hcl]; omega⟩)
      rwa [show ((c.toNat : Nat) : Int) = c by omega] at this
  · rfl
theorem wN_rep (n : Nat) (o : Nat) : wN (List.replicate n (-1)) o = [] := by
  rw [List.eq_nil_iff_forall_not_mem]
  intro x hx
  obtain ⟨h1, h2⟩ := wN_mem.1 hx
  rw [getD_at h1, List.getElem_replicate] at h2
  omega
end Go.Proofs.YthamfljooapkoaaDoor
