/-
  Numbers that stand in a row, each once: mathematics. What each call of a line answers, and what it leaves.
-/
import Derived.Test.YtecckdedijhacaaBase
namespace Go.Proofs.Ytecckdedijhacaa

/-- Push: what is left, and the error. -/
def liP (L : List Int) (k : Int) : List Int := if k < 0 ∨ k ∈ L then L else L ++ [k]
def liPE (L : List Int) (k : Int) : Int := if k < 0 then 12 else if k ∈ L then 7 else 0
/-- Remove. -/
def liR (L : List Int) (k : Int) : List Int := L.filter fun x => decide (x ≠ k)
def liRE (L : List Int) (k : Int) : Int := if k ∈ L then 0 else 13
/-- Front. -/
def liF : List Int → Int
  | [] => -1
  | x :: _ => x
/-- A right line. -/
structure LiOk (L : List Int) : Prop where
  nd : L.Nodup
  at_ : ∀ x ∈ L, 0 ≤ x ∧ x ≤ 9223372036854775807
section
variable {L : List Int} {k : Int}
theorem LiOk.none : LiOk [] := ⟨List.nodup_nil, fun x h => by simp at h⟩
theorem LiOk.push (h : LiOk L) (hk : I64 k) : LiOk (liP L k) := by
  unfold liP
  split
  · exact h
  case isFalse e =>
    have e1 : ¬ k < 0 := fun x => e (.inl x)
    have e2 : k ∉ L := fun x => e (.inr x)
    refine ⟨?_, fun x hx => ?_⟩
    · rw [List.nodup_append]
      exact ⟨h.nd, by simp, fun a ha b hb => by simp at hb; subst hb; exact fun e => e2 (e ▸ ha)⟩
    · rw [List.mem_append, List.mem_singleton] at hx
      rcases hx with hx | rfl
      · exact h.at_ x hx
      · exact ⟨by omega, hk.2⟩
theorem LiOk.remove (h : LiOk L) (k : Int) : LiOk (liR L k) := ⟨h.nd.filter _, fun x hx => h.at_ x (List.mem_filter.1 hx).1⟩
theorem liP_len (L : List Int) (k : Int) : (liP L k).length ≤ L.length + 1 := by unfold liP; split <;> simp
theorem liR_len (L : List Int) (k : Int) : (liR L k).length ≤ L.length := List.length_filter_le _ _
theorem liPE_zero : liPE L k = 0 ↔ ¬ (k < 0 ∨ k ∈ L) := by
  unfold liPE
  by_cases h1 : k < 0
  · simp [h1]
  · by_cases h2 : k ∈ L <;> simp [h1, h2]
theorem liP_yes (h : liPE L k = 0) : liP L k = L ++ [k] := if_neg (liPE_zero.1 h)
theorem liP_no (h : liPE L k ≠ 0) : liP L k = L := if_pos (Classical.not_not.1 fun e => h (liPE_zero.2 e))
theorem liRE_zero : liRE L k = 0 ↔ k ∈ L := by unfold liRE; split <;> simp [*]
theorem mem_liR (x : Int) : x ∈ liR L k ↔ x ∈ L ∧ x ≠ k := by simp [liR]
theorem liR_not (L : List Int) (k : Int) : k ∉ liR L k := fun h => ((mem_liR k).1 h).2 rfl
theorem liR_head (h : (k :: L).Nodup) : liR (k :: L) k = L := by
  have h1 : k ∉ L := (List.nodup_cons.1 h).1
  unfold liR
  rw [List.filter_cons_of_neg (by simp)]
  exact List.filter_eq_self.2 fun x hx => by simp; exact fun e => h1 (e ▸ hx)
theorem liF_head (x : Int) (L : List Int) : liF (x :: L) = x := rfl
theorem liR_snoc (L : List Int) (x k : Int) : liR (L ++ [x]) k = if x = k then liR L k else liR L k ++ [x] := by
  unfold liR
  rw [List.filter_append]
  by_cases e : x = k
  · simp [e]
  · simp [e]
theorem liR_none (h : k ∉ L) : liR L k = L := List.filter_eq_self.2 fun x hx => by simp; exact fun e => h (e ▸ hx)
theorem LiOk.front (h : LiOk L) : I64 (liF L) := by
  cases L with
  | nil => exact ⟨by decide, by decide⟩
  | cons x L => have := h.at_ x (by simp); exact ⟨by show _ ≤ x; omega, this.2⟩
end
end Go.Proofs.Ytecckdedijhacaa
