/-
  Local pages and the pages that they are: mathematics. What each call of a table answers, and what it leaves.
-/
namespace Go.Proofs.Ytcajdbklchjkkaa

/-- Pairs of a local page and its page, rising. -/
abbrev Tb : Type := List (Int × Int)
abbrev VOk (v : Int) : Prop := 256 ≤ v ∧ v ≤ 6399
abbrev POk (p : Int) : Prop := 0 ≤ p ∧ p ≤ 1048576
/-- Find; Holder. -/
def tbF : Tb → Int → Int
  | [], _ => -1
  | x :: r, v => if x.1 = v then x.2 else tbF r v
def tbH : Tb → Int → Int
  | [], _ => -1
  | x :: r, p => if x.2 = p then x.1 else tbH r p
/-- A pair comes in. -/
def tbI : Tb → Int → Int → Tb
  | [], v, p => [(v, p)]
  | x :: r, v, p => if x.1 < v then x :: tbI r v p else (v, p) :: x :: r
/-- Map. -/
def tbM (T : Tb) (v p : Int) : Tb := if (VOk v ∧ POk p) ∧ tbF T v < 0 ∧ tbH T p < 0 then tbI T v p else T
def tbME (T : Tb) (v p : Int) : Int := if VOk v ∧ POk p then (if tbF T v < 0 ∧ tbH T p < 0 then 0 else 7) else 12
/-- Unmap. -/
def tbU (T : Tb) (v : Int) : Tb := T.filter fun x => decide (x.1 ≠ v)
def tbUV (T : Tb) (v : Int) : Int := if tbF T v < 0 then 0 else tbF T v
def tbUE (T : Tb) (v : Int) : Int := if tbF T v < 0 then 13 else 0
/-- Swap. -/
def tbW (T : Tb) (v p : Int) : Tb := T.map fun x => if x.1 = v then (x.1, p) else x
abbrev SwOk (T : Tb) (v p : Int) : Prop := POk p ∧ ¬ tbF T v < 0 ∧ tbH T p < 0
def tbS (T : Tb) (v p : Int) : Tb := if SwOk T v p then tbW T v p else T
def tbSV (T : Tb) (v p : Int) : Int := if SwOk T v p then tbF T v else 0
def tbSE (T : Tb) (v p : Int) : Int := if ¬ POk p then 12 else if tbF T v < 0 then 13 else if tbH T p < 0 then 0 else 7
/-- A right table. -/
structure TbOk (T : Tb) : Prop where
  up : T.Pairwise fun x y => x.1 < y.1
  inj : T.Pairwise fun x y => x.2 ≠ y.2
  at_ : ∀ x ∈ T, VOk x.1 ∧ POk x.2
section
variable {T : Tb} {v p : Int}
theorem TbOk.none : TbOk [] := ⟨.nil, .nil, fun x h => by simp at h⟩
theorem TbOk.tail {x : Int × Int} (h : TbOk (x :: T)) : TbOk T := ⟨(List.pairwise_cons.1 h.up).2, (List.pairwise_cons.1 h.inj).2, fun y hy => h.at_ y (List.mem_cons_of_mem _ hy)⟩
theorem tbF_mem : ∀ {T : Tb}, TbOk T → (v, p) ∈ T → tbF T v = p
  | x :: r, h, hm => by
    unfold tbF
    rcases List.mem_cons.1 hm with e | e
    · rw [← e, if_pos rfl]
    · have := (List.pairwise_cons.1 h.up).1 _ e
      rw [if_neg (by simp at this ⊢; omega)]
      exact tbF_mem h.tail e
theorem tbH_mem : ∀ {T : Tb}, TbOk T → (v, p) ∈ T → tbH T p = v
  | x :: r, h, hm => by
    unfold tbH
    rcases List.mem_cons.1 hm with e | e
    · rw [← e, if_pos rfl]
    · have := (List.pairwise_cons.1 h.inj).1 _ e
      rw [if_neg (by simpa using this)]
      exact tbH_mem h.tail e
theorem tbF_or : ∀ T : Tb, (tbF T v = -1 ∧ ∀ x ∈ T, x.1 ≠ v) ∨ (v, tbF T v) ∈ T
  | [] => .inl ⟨rfl, fun x h => by simp at h⟩
  | x :: r => by
    unfold tbF
    by_cases e : x.1 = v
    · rw [if_pos e]; exact .inr (by rw [← e]; simp)
    · rw [if_neg e]
      rcases tbF_or r with ⟨h1, h2⟩ | h
      · exact .inl ⟨h1, fun y hy => by rcases List.mem_cons.1 hy with rfl | hy; exact e; exact h2 y hy⟩
      · exact .inr (List.mem_cons_of_mem _ h)
theorem tbH_or : ∀ T : Tb, (tbH T p = -1 ∧ ∀ x ∈ T, x.2 ≠ p) ∨ (tbH T p, p) ∈ T
  | [] => .inl ⟨rfl, fun x h => by simp at h⟩
  | x :: r => by
    unfold tbH
    by_cases e : x.2 = p
    · rw [if_pos e]; exact .inr (by rw [← e]; simp)
    · rw [if_neg e]
      rcases tbH_or r with ⟨h1, h2⟩ | h
      · exact .inl ⟨h1, fun y hy => by rcases List.mem_cons.1 hy with rfl | hy; exact e; exact h2 y hy⟩
      · exact .inr (List.mem_cons_of_mem _ h)
theorem TbOk.f_none (h : TbOk T) (hf : tbF T v < 0) : tbF T v = -1 ∧ ∀ x ∈ T, x.1 ≠ v := by
  rcases tbF_or (v := v) T with e | e
  · exact e
  · have := (h.at_ _ e).2; simp at this; omega
theorem TbOk.h_none (h : TbOk T) (hf : tbH T p < 0) : tbH T p = -1 ∧ ∀ x ∈ T, x.2 ≠ p := by
  rcases tbH_or (p := p) T with e | e
  · exact e
  · have := (h.at_ _ e).1; simp at this; omega
theorem TbOk.f_some (_ : TbOk T) (hf : ¬ tbF T v < 0) : (v, tbF T v) ∈ T := by
  rcases tbF_or (v := v) T with e | e
  · omega
  · exact e
theorem TbOk.h_some (_ : TbOk T) (hf : ¬ tbH T p < 0) : (tbH T p, p) ∈ T := by
  rcases tbH_or (p := p) T with e | e
  · omega
  · exact e
theorem TbOk.f_range (h : TbOk T) (v : Int) : -1 ≤ tbF T v ∧ tbF T v ≤ 1048576 := by
  rcases tbF_or (v := v) T with e | e
  · omega
  · have := (h.at_ _ e).2; simp at this; omega
theorem TbOk.h_range (h : TbOk T) (p : Int) : -1 ≤ tbH T p ∧ tbH T p ≤ 6399 := by
  rcases tbH_or (p := p) T with e | e
  · omega
  · have := (h.at_ _ e).1; simp at this; omega
theorem mem_tbI : ∀ {T : Tb} {x : Int × Int}, x ∈ tbI T v p ↔ x = (v, p) ∨ x ∈ T
  | [], x => by simp [tbI]
  | y :: r, x => by
    unfold tbI
    split
    · rw [List.mem_cons, mem_tbI (T := r), List.mem_cons]
      constructor
      · rintro (h | h | h) <;> simp [h]
      · rintro (h | h | h) <;> simp [h]
    · simp
theorem tbI_len : ∀ T : Tb, (tbI T v p).length = T.length + 1
  | [] => rfl
  | y :: r => by unfold tbI; split <;> simp [tbI_len r]
theorem tbI_up : ∀ {T : Tb}, (T.Pairwise fun x y => x.1 < y.1) → (∀ x ∈ T, x.1 ≠ v) → (tbI T v p).Pairwise fun x y => x.1 < y.1
  | [], _, _ => by simp [tbI]
  | y :: r, h, hn => by
    obtain ⟨h1, h2⟩ := List.pairwise_cons.1 h
    unfold tbI
    split
    case isTrue e =>
      refine List.pairwise_cons.2 ⟨fun x hx => ?_, tbI_up h2 fun x hx => hn x (List.mem_cons_of_mem _ hx)⟩
      rcases mem_tbI.1 hx with rfl | hx
      · exact e
      · exact h1 x hx
    case isFalse e =>
      have e2 : v < y.1 := by have := hn y (by simp); omega
      refine List.pairwise_cons.2 ⟨fun x hx => ?_, h⟩
      rcases List.mem_cons.1 hx with rfl | hx
      · exact e2
      · have := h1 x hx; show v < x.1; omega
theorem tbI_inj : ∀ {T : Tb}, (T.Pairwise fun x y => x.2 ≠ y.2) → (∀ x ∈ T, x.2 ≠ p) → (tbI T v p).Pairwise fun x y => x.2 ≠ y.2
  | [], _, _ => by simp [tbI]
  | y :: r, h, hn => by
    obtain ⟨h1, h2⟩ := List.pairwise_cons.1 h
    unfold tbI
    split
    · refine List.pairwise_cons.2 ⟨fun x hx => ?_, tbI_inj h2 fun x hx => hn x (List.mem_cons_of_mem _ hx)⟩
      rcases mem_tbI.1 hx with rfl | hx
      · exact hn y (by simp)
      · exact h1 x hx
    · refine List.pairwise_cons.2 ⟨fun x hx => fun e => hn x hx e.symm, h⟩
theorem TbOk.ins (h : TbOk T) (hv : VOk v) (hp : POk p) (h1 : tbF T v < 0) (h2 : tbH T p < 0) : TbOk (tbI T v p) :=
  ⟨tbI_up h.up (h.f_none h1).2, tbI_inj h.inj (h.h_none h2).2, fun x hx => by
    rcases mem_tbI.1 hx with rfl | hx
    · exact ⟨hv, hp⟩
    · exact h.at_ x hx⟩
theorem TbOk.map (h : TbOk T) (v p : Int) : TbOk (tbM T v p) := by
  unfold tbM
  split
  case isTrue e => exact h.ins e.1.1 e.1.2 e.2.1 e.2.2
  case isFalse => exact h
theorem TbOk.unmap (h : TbOk T) (v : Int) : TbOk (tbU T v) := ⟨h.up.filter _, h.inj.filter _, fun x hx => h.at_ x (List.mem_filter.1 hx).1⟩
theorem TbOk.swap (h : TbOk T) (v p : Int) : TbOk (tbS T v p) := by
  unfold tbS
  split
  case isFalse => exact h
  case isTrue e =>
    have hn := (h.h_none e.2.2).2
    have f1 : ∀ x : Int × Int, (if x.1 = v then (x.1, p) else x).1 = x.1 := fun x => by split <;> rfl
    refine ⟨?_, ?_, fun y hy => ?_⟩
    · unfold tbW
      rw [List.pairwise_map]
      exact h.up.imp fun {a b} hab => by rw [f1, f1]; exact hab
    · unfold tbW
      rw [List.pairwise_map]
      refine (h.up.and h.inj).imp_of_mem fun {a b} ha hb hab => ?_
      by_cases ea : a.1 = v
      · rw [if_pos ea, if_neg (by have := hab.1; omega)]
        exact fun e => hn b hb e.symm
      · rw [if_neg ea]
        by_cases eb : b.1 = v
        · rw [if_pos eb]; exact fun e => hn a ha e
        · rw [if_neg eb]; exact hab.2
    · unfold tbW at hy
      obtain ⟨x, hx, rfl⟩ := List.mem_map.1 hy
      have := h.at_ x hx
      split
      · exact ⟨this.1, e.1⟩
      · exact this
theorem tbM_len (T : Tb) (v p : Int) : (tbM T v p).length ≤ T.length + 1 := by unfold tbM; split <;> simp [tbI_len]
theorem tbU_len (T : Tb) (v : Int) : (tbU T v).length ≤ T.length := List.length_filter_le _ _
theorem tbS_len (T : Tb) (v p : Int) : (tbS T v p).length = T.length := by unfold tbS tbW; split <;> simp
theorem tbME_zero : tbME T v p = 0 ↔ ((VOk v ∧ POk p) ∧ tbF T v < 0 ∧ tbH T p < 0) := by
  unfold tbME
  by_cases h1 : VOk v ∧ POk p
  · rw [if_pos h1]
    by_cases h2 : tbF T v < 0 ∧ tbH T p < 0
    · rw [if_pos h2]; exact ⟨fun _ => ⟨h1, h2⟩, fun _ => rfl⟩
    · rw [if_neg h2]; exact ⟨fun e => by omega, fun e => absurd e.2 h2⟩
  · rw [if_neg h1]; exact ⟨fun e => by omega, fun e => absurd e.1 h1⟩
theorem tbM_yes (h : tbME T v p = 0) : tbM T v p = tbI T v p := if_pos (tbME_zero.1 h)
theorem tbM_no (h : tbME T v p ≠ 0) : tbM T v p = T := if_neg fun e => h (tbME_zero.2 e)
/-- What was laid in is taken out again. -/
theorem tbU_tbI : ∀ {T : Tb}, (∀ x ∈ T, x.1 ≠ v) → tbU (tbI T v p) v = T
  | [], _ => by simp [tbI, tbU]
  | y :: r, hn => by
    have hr := tbU_tbI (T := r) fun x hx => hn x (List.mem_cons_of_mem _ hx)
    have hy := hn y (by simp)
    unfold tbI
    split
    · unfold tbU at hr ⊢
      rw [List.filter_cons_of_pos (by simpa using hy), hr]
    · unfold tbU
      rw [List.filter_cons_of_neg (by simp)]
      exact List.filter_eq_self.2 fun x hx => by simpa using hn x hx
end
end Go.Proofs.Ytcajdbklchjkkaa
