/-
  A table of handles as numbered slots and two shelves: plain mathematics. Nothing of the program is named here.
-/
import Derived.Test.YtcleheapfgapaaaDoorCaBase
import Derived.Test.YtcleheapfgapaaaDoorSfBase
namespace Go.Proofs.YtcleheapfgapaaaDoor

/-- The slot of a number, if it isn't free; its address, rights, serial: 0 where it is. -/
def sAt (L : List Sl) (k : Int) : Option Sl := L.find? fun x => x.s == k
def hA (L : List Sl) (k : Int) : Int := ((sAt L k).map Sl.a).getD 0
def hR (L : List Sl) (k : Int) : Int := ((sAt L k).map Sl.r).getD 0
def hN (L : List Sl) (k : Int) : Int := ((sAt L k).map Sl.n).getD 0
/-- Which of n slots from lo on are taken: a shelf. -/
def tkn (L : List Sl) (lo : Int) (n : Nat) : List Bool := (List.range n).map fun i : Nat => (sAt L (lo + i)).isSome
section
variable {L L' : List Sl} {k lo : Int} {x y : Sl} {n : Nat}
theorem sAt_some (h : sAt L k = some x) : x ∈ L ∧ x.s = k := by
  unfold sAt at h
  refine ⟨List.mem_of_find?_eq_some h, ?_⟩
  have := List.find?_some h
  simpa using this
theorem sAt_none (h : sAt L k = none) : ∀ x ∈ L, x.s ≠ k := by
  unfold sAt at h
  rw [List.find?_eq_none] at h
  intro x hx e
  exact h x hx (by simpa using e)
theorem srt_one (hp : L.Pairwise fun x y => x.s < y.s) (hx : x ∈ L) (hy : y ∈ L) (e : x.s = y.s) : x = y := by
  obtain ⟨i, hi, rfl⟩ := List.getElem_of_mem hx
  obtain ⟨j, hj, rfl⟩ := List.getElem_of_mem hy
  rcases Nat.lt_trichotomy i j with h | h | h
  · have := List.pairwise_iff_getElem.1 hp i j hi hj h; omega
  · subst h; rfl
  · have := List.pairwise_iff_getElem.1 hp j i hj hi h; omega
theorem sAt_mem (hp : L.Pairwise fun x y => x.s < y.s) (hx : x ∈ L) : sAt L x.s = some x := by
  cases hl : sAt L x.s with
  | none => exact (sAt_none hl x hx rfl).elim
  | some y => obtain ⟨hy, e⟩ := sAt_some hl; rw [srt_one hp hy hx e]
theorem sAt_free (h : ∀ x ∈ L, x.s ≠ k) : sAt L k = none := by
  cases hl : sAt L k with
  | none => rfl
  | some y => obtain ⟨hy, e⟩ := sAt_some hl; exact (h y hy e).elim
theorem sAt_put (hp' : L'.Pairwise fun x y => x.s < y.s) (hm : ∀ x, x ∈ L' ↔ x ∈ L ∨ x = y) (k : Int) : sAt L' k = if k = y.s then some y else sAt L k := by
  split
  · rename_i e; subst e; exact sAt_mem hp' ((hm y).2 (.inr rfl))
  · rename_i e
    cases hl : sAt L k with
    | none =>
      refine sAt_free fun x hx => ?_
      rcases (hm x).1 hx with h | h
      · exact sAt_none hl x h
      · subst h; exact fun h2 => e h2.symm
    | some z => obtain ⟨hz, e2⟩ := sAt_some hl; subst e2; exact sAt_mem hp' ((hm z).2 (.inl hz))
/-- Without one slot. -/
def del (L : List Sl) (k : Int) : List Sl := L.filter fun x => decide (x.s ≠ k)
theorem del_srt (hp : L.Pairwise fun x y => x.s < y.s) : (del L k).Pairwise fun x y => x.s < y.s := hp.filter _
theorem mem_del : x ∈ del L k ↔ x ∈ L ∧ x.s ≠ k := by simp [del]
theorem sAt_del (hp : L.Pairwise fun x y => x.s < y.s) (q : Int) : sAt (del L k) q = if q = k then none else sAt L q := by
  split
  · rename_i e; subst e; exact sAt_free fun x hx => (mem_del.1 hx).2
  · rename_i e
    cases hl : sAt L q with
    | none => exact sAt_free fun x hx => sAt_none hl x (mem_del.1 hx).1
    | some z => obtain ⟨hz, e2⟩ := sAt_some hl; subst e2; exact sAt_mem (del_srt hp) (mem_del.2 ⟨hz, e⟩)
theorem tkn_length (L : List Sl) (lo : Int) (n : Nat) : (tkn L lo n).length = n := by simp [tkn]
theorem tkn_at (i : Nat) (h : i < (tkn L lo n).length) : (tkn L lo n)[i] = (sAt L (lo + i)).isSome := by simp [tkn]
theorem tkn_ext (h : ∀ i : Nat, i < n → (sAt L' (lo + i)).isSome = (sAt L (lo + i)).isSome) : tkn L' lo n = tkn L lo n := by
  apply List.ext_getElem (by rw [tkn_length, tkn_length])
  intro i h1 h2
  rw [tkn_at, tkn_at]
  exact h i (by rwa [tkn_length] at h1)
theorem tkn_set (j : Nat) (b : Bool) (h : ∀ i : Nat, i < n → (sAt L' (lo + i)).isSome = if i = j then b else (sAt L (lo + i)).isSome) : tkn L' lo n = (tkn L lo n).set j b := by
  apply List.ext_getElem (by rw [List.length_set, tkn_length, tkn_length])
  intro i h1 h2
  rw [tkn_at, List.getElem_set]
  rw [tkn_length] at h1
  rw [h i h1]
  by_cases e : i = j
  · rw [if_pos e, if_pos e.symm]
  · rw [if_neg e, if_neg (fun h => e h.symm), tkn_at]
/-- The lowest free slot is the shelf's lowest free number. -/
theorem low_scan (hp : L.Pairwise fun x y => x.s < y.s) (lo : Int) (n : Nat) : (Sf.low (tkn L lo n) < n ↔ (scan L lo).2 < lo + n) ∧ (Sf.low (tkn L lo n) < n → (scan L lo).2 = lo + Sf.low (tkn L lo n)) := by
  obtain ⟨_, g2, g3, _, g5, _⟩ := scan_spec L lo hp (fun _ _ => trivial)
  have key : (scan L lo).2 < lo + n → Sf.low (tkn L lo n) = ((scan L lo).2 - lo).toNat := fun h => by
    refine Sf.low_unique _ _ (by rw [tkn_length]; omega) ?_ fun i hi => ?_
    · rw [tkn_at, show lo + (((scan L lo).2 - lo).toNat : Int) = (scan L lo).2 by omega, sAt_free g3]; rfl
    · rw [tkn_at]
      obtain ⟨x, hx, e⟩ := g5 (lo + i) (by omega) (by omega)
      rw [← e, sAt_mem hp hx]; rfl
  have key2 : ¬ (scan L lo).2 < lo + n → Sf.low (tkn L lo n) = n := fun h => by
    have := Sf.low_full (tkn L lo n) fun i hi => by
      rw [tkn_length] at hi
      rw [tkn_at]
      obtain ⟨x, hx, e⟩ := g5 (lo + i) (by omega) (by omega)
      rw [← e, sAt_mem hp hx]; rfl
    rwa [tkn_length] at this
  by_cases h : (scan L lo).2 < lo + n
  · have := key h; exact ⟨⟨fun _ => h, fun _ => by omega⟩, fun _ => by omega⟩
  · have := key2 h; exact ⟨⟨fun h2 => by omega, fun h2 => (h h2).elim⟩, fun h2 => by omega⟩
theorem frees_all (n : Nat) : Sf.frees (List.replicate n false) = n := by
  induction n with
  | zero => rfl
  | succ n ih => rw [List.replicate_succ, Sf.frees, ih]
theorem tkn_nil (lo : Int) (n : Nat) : tkn [] lo n = List.replicate n false := by
  apply List.ext_getElem (by rw [tkn_length, List.length_replicate])
  intro i h1 h2
  rw [tkn_at, List.getElem_replicate]; rfl
theorem sAt_cons (k : Int) : sAt (x :: L) k = if k = x.s then some x else sAt L k := by
  unfold sAt
  rw [List.find?_cons]
  by_cases e : k = x.s
  · rw [if_pos e]; subst e; simp
  · rw [if_neg e, show (x.s == k) = false by simpa using fun h : x.s = k => e h.symm]
/-- How many slots there are: those that aren't free in either shelf. -/
theorem frees_len : ∀ L : List Sl, (L.Pairwise fun x y => x.s < y.s) → (∀ x ∈ L, 0 ≤ x.s ∧ x.s < 4160) → Sf.frees (tkn L 0 4096) + Sf.frees (tkn L 4096 64) + L.length = 4160
  | [], _, _ => by rw [tkn_nil, tkn_nil, frees_all, frees_all]; rfl
  | x :: L, hp, hb => by
    rw [List.pairwise_cons] at hp
    have ih := frees_len L hp.2 (fun y hy => hb y (List.mem_cons_of_mem _ hy))
    have hx := hb x (List.mem_cons_self ..)
    have hf : sAt L x.s = none := sAt_free fun y hy => by have := hp.1 y hy; omega
    rw [List.length_cons]
    by_cases h : x.s < 4096
    · have e1 : tkn (x :: L) 0 4096 = (tkn L 0 4096).set x.s.toNat true := tkn_set _ _ fun i hi => by
        rw [sAt_cons]
        by_cases e : i = x.s.toNat
        · rw [if_pos e, if_pos (by omega)]; rfl
        · rw [if_neg e, if_neg (by omega)]
      have e2 : tkn (x :: L) 4096 64 = tkn L 4096 64 := tkn_ext fun i hi => by rw [sAt_cons, if_neg (by omega)]
      have e3 := Sf.frees_take (tkn L 0 4096) x.s.toNat (by rw [tkn_length]; omega) (by rw [tkn_at, show (0 : Int) + (x.s.toNat : Int) = x.s by omega, hf]; rfl)
      rw [e1, e2]; omega
    · have e1 : tkn (x :: L) 4096 64 = (tkn L 4096 64).set (x.s.toNat - 4096) true := tkn_set _ _ fun i hi => by
        rw [sAt_cons]
        by_cases e : i = x.s.toNat - 4096
        · rw [if_pos e, if_pos (by omega)]; rfl
        · rw [if_neg e, if_neg (by omega)]
      have e2 : tkn (x :: L) 0 4096 = tkn L 0 4096 := tkn_ext fun i hi => by rw [sAt_cons, if_neg (by omega)]
      have e3 := Sf.frees_take (tkn L 4096 64) (x.s.toNat - 4096) (by rw [tkn_length]; omega) (by rw [tkn_at, show (4096 : Int) + ((x.s.toNat - 4096 : Nat) : Int) = x.s by omega, hf]; rfl)
      rw [e1, e2]; omega
/-- Has this slot that address? -/
abbrev Is (L : List Sl) (a k : Int) : Prop := ∃ x, sAt L k = some x ∧ x.a = a
/-- Without the slots of an address below one. -/
def cut (L : List Sl) (a k : Int) : List Sl := L.filter fun x => decide (¬ (x.a = a ∧ x.s < k))
theorem mem_cut {a : Int} : x ∈ cut L a k ↔ x ∈ L ∧ ¬ (x.a = a ∧ x.s < k) := by unfold cut; rw [List.mem_filter, decide_eq_true_eq]
theorem cut_srt {a : Int} (hp : L.Pairwise fun x y => x.s < y.s) : (cut L a k).Pairwise fun x y => x.s < y.s := hp.filter _
theorem cut_none {a : Int} (h : ∀ x ∈ L, k ≤ x.s) : cut L a k = L := by
  unfold cut
  rw [List.filter_eq_self]
  intro x hx
  have := h x hx
  simp; omega
theorem cut_all {a : Int} (h : ∀ x ∈ L, x.s < k) : cut L a k = L.filter fun x => decide (x.a ≠ a) := by
  unfold cut
  apply List.filter_congr
  intro x hx
  have := h x hx
  simp [this]
theorem cut_skip {a q : Int} (hp : L.Pairwise fun x y => x.s < y.s) (hq : k ≤ q) (h : ∀ i, k ≤ i → i < q → ¬ Is (cut L a k) a i) : cut L a q = cut L a k := by
  unfold cut
  apply List.filter_congr
  intro x hx
  rw [decide_eq_decide]
  have hn : ¬ (x.a = a ∧ k ≤ x.s ∧ x.s < q) := fun ⟨h1, h2, h3⟩ => h x.s h2 h3 ⟨x, sAt_mem (cut_srt hp) (mem_cut.2 ⟨hx, fun h => by omega⟩), h1⟩
  constructor
  · intro h1 h2; exact h1 ⟨h2.1, by omega⟩
  · intro h1 h2; exact h1 ⟨h2.1, by
      by_cases h3 : x.s < k
      · exact h3
      · exact (hn ⟨h2.1, by omega, h2.2⟩).elim⟩
theorem cut_step {a : Int} (hp : L.Pairwise fun x y => x.s < y.s) (h : Is (cut L a k) a k) : cut L a (k + 1) = del (cut L a k) k := by
  obtain ⟨z, hz, ea⟩ := h
  obtain ⟨hz1, hz2⟩ := sAt_some hz
  unfold del cut
  rw [List.filter_filter]
  apply List.filter_congr
  intro x hx
  rw [← Bool.decide_and, decide_eq_decide]
  constructor
  · intro h1
    refine ⟨fun e => h1 ⟨?_, by omega⟩, fun h2 => h1 ⟨h2.1, by omega⟩⟩
    rw [srt_one hp hx (mem_cut.1 hz1).1 (by omega)]; exact ea
  · rintro ⟨h1, h2⟩ h3
    exact h2 ⟨h3.1, by omega⟩
theorem del_len (hp : L.Pairwise fun x y => x.s < y.s) (h : sAt L k ≠ none) : (del L k).length + 1 = L.length := by
  induction L with
  | nil => exact (h rfl).elim
  | cons y l ih =>
    rw [List.pairwise_cons] at hp
    by_cases e : y.s = k
    · have e2 : del (y :: l) k = l := by
        unfold del
        rw [List.filter_cons_of_neg (by simpa using e), List.filter_eq_self]
        intro z hz
        have := hp.1 z hz
        simp; omega
      rw [e2]; rfl
    · have e2 : del (y :: l) k = y :: del l k := by
        unfold del
        rw [List.filter_cons_of_pos (by simpa using e)]
      rw [sAt_cons, if_neg (fun h => e h.symm)] at h
      rw [e2, List.length_cons, List.length_cons, ih hp.2 h]
theorem cut_len_le {a : Int} : (cut L a k).length ≤ L.length := List.length_filter_le ..
/-- Whose bits these are: the slot that they name, if it has their rights and their serial. -/
theorem look_slot {c : Ct} (hc : c.Ok) {h : Int} (hb : HB h) : look c h = if c.T = unT h ∧ hR c.L (unS h) = unR h ∧ hN c.L (unS h) = unN h then sAt c.L (unS h) else none := by
  obtain ⟨u1, u2, u3, u4, _⟩ := un_yes hb
  have hk : KR (unT h) (unS h) (unR h) (unN h) := by rw [u1, u2, u3, u4]; exact hb
  have hpk : pkB (unT h) (unS h) (unR h) (unN h) = h := by rw [u1, u2, u3, u4]; exact one hb
  split
  · rename_i e
    obtain ⟨e1, e2, e3⟩ := e
    cases hs : sAt c.L (unS h) with
    | none => unfold hN at e3; rw [hs] at e3; simp at e3; unfold KR at hk; omega
    | some x =>
      obtain ⟨hx, hxs⟩ := sAt_some hs
      unfold hR at e2; unfold hN at e3
      rw [hs] at e2 e3
      simp at e2 e3
      rw [← look_at hc hx]
      congr 1
      unfold Sl.bits
      rw [e1, hxs, e2, e3, hpk]
  · rename_i e
    cases hl : look c h with
    | none => rfl
    | some x =>
      obtain ⟨hx, hxb⟩ := look_mem hl
      have hkx := (hc.kr x hx).1
      unfold Sl.bits at hxb
      rw [← hpk] at hxb
      obtain ⟨q1, q2, q3, q4⟩ := (alike hkx hk).1 hxb
      refine (e ⟨q1, ?_, ?_⟩).elim
      · unfold hR; rw [← q2, sAt_mem hc.srt hx]; exact q3
      · unfold hN; rw [← q2, sAt_mem hc.srt hx]; exact q4
theorem look_bad {c : Ct} (hc : c.Ok) {h : Int} (hb : ¬ HB h) : look c h = none := by
  cases hl : look c h with
  | none => rfl
  | some x =>
    obtain ⟨hx, hxb⟩ := look_mem hl
    have hkx := (hc.kr x hx).1
    unfold Sl.bits at hxb
    rw [← hxb] at hb
    exact (hb (back hkx).1).elim
end
end Go.Proofs.YtcleheapfgapaaaDoor
