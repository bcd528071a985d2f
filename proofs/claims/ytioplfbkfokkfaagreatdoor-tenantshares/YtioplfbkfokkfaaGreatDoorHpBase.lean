/-
  Places of blocks as the document has them: plain mathematics. Nothing of the program is named here.
  Local pages and the pages that they are: mathematics. What each call of a table answers, and what it leaves.
  Numbers that stand in a row, each once: mathematics. What each call of a line answers, and what it leaves.
  Pages by their colours: which are taken, what each call answers and leaves: plain mathematics off the document. Nothing of the program is named here.
  What taking does to a window: counts, the lowest page; windows without a common colour. Nothing of the program is named here.
  A tenant's blocks: mathematics off the document. What a heap holds, what each call answers and leaves; how pages are taken and let go of.
-/
import Derived.Test.YtioplfbkfokkfaaGreatDoorDmCalls
import Derived.Test.YtioplfbkfokkfaaGreatDoorSeen
import Derived.Test.YtioplfbkfokkfaaGreatDoorPaClean
namespace Go.Proofs.YtioplfbkfokkfaaGreatDoor

/-- How many slots a kind has; how many numbers a slot has; how many bytes. -/
def slI (c : Int) : Int := if 0 ≤ c ∧ c ≤ 23 then 256 / pagesI c else 0
def nuI (c : Int) : Int := if perI c < 1 then 1 else perI c
def sbI (c : Int) : Int := pagesI c * 512
/-- Is there such a block? -/
abbrev PlT (c s k : Int) : Prop := 0 ≤ s ∧ s < slI c ∧ 0 ≤ k ∧ k < nuI c
/-- Where it begins. -/
def adI (c s k : Int) : Int := (c + 1) * 131072 + s * sbI c + k * unitI c
def ofA (c s k : Int) : Int := if PlT c s k then adI c s k else 0
def ofE (c s k : Int) : Int := if PlT c s k then 0 else 12
/-- What Find says of an address. -/
def FindR (a c s k E : Int) : Prop := (E = 0 ∧ PlT c s k ∧ adI c s k = a) ∨ (E = 4 ∧ (c = 0 ∧ s = 0 ∧ k = 0) ∧ ∀ x y z, PlT x y z → adI x y z ≠ a)
/-- The window. -/
abbrev Win (a : Int) : Prop := 131072 ≤ a ∧ a < 3276800
abbrev InW (a n : Int) : Prop := 0 ≤ n ∧ 131072 ≤ a ∧ a ≤ 3276800 ∧ n ≤ 3276800 - a

theorem kinds {P : Int → Prop} (h : ∀ a : Fin 24, P (a.val : Int)) {c : Int} (h0 : 0 ≤ c) (h1 : c ≤ 23) : P c := by
  obtain ⟨a, rfl⟩ := fin24 c h0 h1
  exact h a
/-- Of a kind: its slots' bytes, its slots, its numbers, its unit, its alignment. -/
theorem pl_facts {c : Int} (h0 : 0 ≤ c) (h1 : c ≤ 23) : (512 ≤ sbI c ∧ sbI c ≤ 8192) ∧ (1 ≤ slI c ∧ slI c ≤ 256 ∧ slI c * sbI c ≤ 131072) ∧ (1 ≤ nuI c ∧ nuI c ≤ 32) ∧ (16 ≤ unitI c ∧ unitI c ≤ 8192 ∧ nuI c * unitI c ≤ sbI c) ∧ (8 ≤ alignI c ∧ alignI c ≤ 512 ∧ sbI c % alignI c = 0 ∧ unitI c % alignI c = 0 ∧ (131072 : Int) % alignI c = 0) ∧ (1 ≤ pagesI c ∧ pagesI c ≤ 16) :=
  kinds (P := fun c => (512 ≤ sbI c ∧ sbI c ≤ 8192) ∧ (1 ≤ slI c ∧ slI c ≤ 256 ∧ slI c * sbI c ≤ 131072) ∧ (1 ≤ nuI c ∧ nuI c ≤ 32) ∧ (16 ≤ unitI c ∧ unitI c ≤ 8192 ∧ nuI c * unitI c ≤ sbI c) ∧ (8 ≤ alignI c ∧ alignI c ≤ 512 ∧ sbI c % alignI c = 0 ∧ unitI c % alignI c = 0 ∧ (131072 : Int) % alignI c = 0) ∧ (1 ≤ pagesI c ∧ pagesI c ≤ 16)) (by decide +kernel) h0 h1
theorem slI_none {c : Int} (h : c < 0 ∨ 23 < c) : slI c = 0 := if_neg (by omega)
theorem PlT.kind {c s k : Int} (h : PlT c s k) : 0 ≤ c ∧ c ≤ 23 := by
  by_cases hc : c < 0 ∨ 23 < c
  · have := slI_none hc
    obtain ⟨h1, h2, _⟩ := h
    omega
  · omega
/-- A number of things, each so long, one behind the other. -/
theorem lies {n m u : Int} (h0 : 0 ≤ n) (h1 : n < m) (hu : 0 ≤ u) : 0 ≤ n * u ∧ n * u + u ≤ m * u := by
  refine ⟨Int.mul_nonneg h0 hu, ?_⟩
  have h := Int.mul_le_mul_of_nonneg_right (show n + 1 ≤ m by omega) hu
  rw [Int.add_mul, Int.one_mul] at h
  exact h
/-- Where a block lies in its region, and in its slot. -/
theorem PlT.lies {c s k : Int} (h : PlT c s k) : (0 ≤ s * sbI c ∧ s * sbI c + sbI c ≤ 131072) ∧ (0 ≤ k * unitI c ∧ k * unitI c + unitI c ≤ sbI c) := by
  obtain ⟨c0, c1⟩ := h.kind
  obtain ⟨f1, f2, f3, f4, _⟩ := pl_facts c0 c1
  obtain ⟨h1, h2, h3, h4⟩ := h
  have l1 := Proofs.YtioplfbkfokkfaaGreatDoor.lies h1 h2 (u := sbI c) (by omega)
  have l2 := Proofs.YtioplfbkfokkfaaGreatDoor.lies h3 h4 (u := unitI c) (by omega)
  omega
theorem PlT.inside {c s k : Int} (h : PlT c s k) : (c + 1) * 131072 ≤ adI c s k ∧ adI c s k + unitI c ≤ (c + 2) * 131072 ∧ 131072 ≤ adI c s k ∧ adI c s k + unitI c ≤ 3276800 := by
  obtain ⟨c0, c1⟩ := h.kind
  have := h.lies
  unfold adI
  omega
theorem PlT.region {c s k : Int} (h : PlT c s k) : adI c s k / 131072 = c + 1 ∧ (adI c s k + unitI c - 1) / 131072 = c + 1 := by
  obtain ⟨c0, c1⟩ := h.kind
  have hi := h.inside
  have := (pl_facts c0 c1).2.2.2.1
  omega
/-- Blocks of one kind rise by slots and numbers. -/
theorem PlT.rises {c s k s' k' : Int} (h : PlT c s k) (h' : PlT c s' k') (hl : s < s' ∨ s = s' ∧ k < k') : adI c s k + unitI c ≤ adI c s' k' := by
  obtain ⟨c0, c1⟩ := h.kind
  obtain ⟨f1, _, _, f4, _⟩ := pl_facts c0 c1
  have l1 := h.lies
  have l2 := h'.lies
  unfold adI
  rcases hl with hl | ⟨rfl, hl⟩
  · have := Proofs.YtioplfbkfokkfaaGreatDoor.lies h.1 hl (u := sbI c) (by omega)
    omega
  · have := Proofs.YtioplfbkfokkfaaGreatDoor.lies h.2.2.1 hl (u := unitI c) (by omega)
    omega
/-- Blocks that aren't the same lie apart. -/
theorem PlT.apart {c s k c' s' k' : Int} (h : PlT c s k) (h' : PlT c' s' k') (hne : ¬ (c = c' ∧ s = s' ∧ k = k')) : adI c s k + unitI c ≤ adI c' s' k' ∨ adI c' s' k' + unitI c' ≤ adI c s k := by
  have i1 := h.inside
  have i2 := h'.inside
  by_cases e : c = c'
  · subst e
    by_cases hl : s < s' ∨ s = s' ∧ k < k'
    · exact .inl (h.rises h' hl)
    · exact .inr (h'.rises h (by omega))
  · omega
theorem PlT.same {c s k c' s' k' : Int} (h : PlT c s k) (h' : PlT c' s' k') (e : adI c s k = adI c' s' k') : c = c' ∧ s = s' ∧ k = k' := by
  by_cases hh : c = c' ∧ s = s' ∧ k = k'
  · exact hh
  · have a := h.apart h' hh
    have u1 := (pl_facts h.kind.1 h.kind.2).2.2.2.1
    have u2 := (pl_facts h'.kind.1 h'.kind.2).2.2.2.1
    omega
/-- Find has one answer alone. -/
theorem FindR.one {a c s k E c' s' k' E' : Int} (h : FindR a c s k E) (h' : FindR a c' s' k' E') : c = c' ∧ s = s' ∧ k = k' ∧ E = E' := by
  rcases h with ⟨h1, h2, h3⟩ | ⟨h1, ⟨h2, h3, h4⟩, h5⟩
  · rcases h' with ⟨k1, k2, k3⟩ | ⟨k1, _, k5⟩
    · obtain ⟨e1, e2, e3⟩ := h2.same k2 (h3.trans k3.symm)
      exact ⟨e1, e2, e3, by omega⟩
    · exact absurd h3 (k5 _ _ _ h2)
  · rcases h' with ⟨k1, k2, k3⟩ | ⟨k1, ⟨k2, k3, k4⟩, _⟩
    · exact absurd k3 (h5 _ _ _ k2)
    · omega
/-- It can only be of the kind whose region it is. -/
theorem PlT.of_addr {c s k a : Int} (h : PlT c s k) (e : adI c s k = a) : c = a / 131072 - 1 ∧ 131072 ≤ a ∧ a < 3276800 := by
  have h1 := h.region
  have h2 := h.inside
  have u1 := (pl_facts h.kind.1 h.kind.2).2.2.2.1
  subst e
  omega
end Go.Proofs.YtioplfbkfokkfaaGreatDoor

namespace Go.Proofs.YtioplfbkfokkfaaGreatDoor

/-- Pairs of a local page and its page, rising. -/
abbrev Tb : Type := List (Int × Int)
abbrev VOk (v : Int) : Prop := 256 ≤ v ∧ v ≤ 6399
abbrev POk (p : Int) : Prop := 0 ≤ p ∧ p ≤ 1048576
/-- Find; Holder. -/
def tbF : Tb → Int → Int
  | [], _ => -1
  | x :: r, v => if x.1 = v then x.2 else tbF r v
def tbH : Tb → Int → Int
  | [], _ => -1
  | x :: r, p => if x.2 = p then x.1 else tbH r p
/-- A pair comes in. -/
def tbI : Tb → Int → Int → Tb
  | [], v, p => [(v, p)]
  | x :: r, v, p => if x.1 < v then x :: tbI r v p else (v, p) :: x :: r
/-- Map. -/
def tbM (T : Tb) (v p : Int) : Tb := if (VOk v ∧ POk p) ∧ tbF T v < 0 ∧ tbH T p < 0 then tbI T v p else T
def tbME (T : Tb) (v p : Int) : Int := if VOk v ∧ POk p then (if tbF T v < 0 ∧ tbH T p < 0 then 0 else 7) else 12
/-- Unmap. -/
def tbU (T : Tb) (v : Int) : Tb := T.filter fun x => decide (x.1 ≠ v)
def tbUV (T : Tb) (v : Int) : Int := if tbF T v < 0 then 0 else tbF T v
def tbUE (T : Tb) (v : Int) : Int := if tbF T v < 0 then 13 else 0
abbrev SwOk (T : Tb) (v p : Int) : Prop := POk p ∧ ¬ tbF T v < 0 ∧ tbH T p < 0
def tbSE (T : Tb) (v p : Int) : Int := if ¬ POk p then 12 else if tbF T v < 0 then 13 else if tbH T p < 0 then 0 else 7
/-- A right table. -/
structure TbOk (T : Tb) : Prop where
  up : T.Pairwise fun x y => x.1 < y.1
  inj : T.Pairwise fun x y => x.2 ≠ y.2
  at_ : ∀ x ∈ T, VOk x.1 ∧ POk x.2
section
variable {T : Tb} {v p : Int}
theorem TbOk.none : TbOk [] := ⟨.nil, .nil, fun x h => by simp at h⟩
theorem TbOk.tail {x : Int × Int} (h : TbOk (x :: T)) : TbOk T := ⟨(List.pairwise_cons.1 h.up).2, (List.pairwise_cons.1 h.inj).2, fun y hy => h.at_ y (List.mem_cons_of_mem _ hy)⟩
theorem tbF_mem : ∀ {T : Tb}, TbOk T → (v, p) ∈ T → tbF T v = p
  | x :: r, h, hm => by
    unfold tbF
    rcases List.mem_cons.1 hm with e | e
    · rw [← e, if_pos rfl]
    · have := (List.pairwise_cons.1 h.up).1 _ e
      rw [if_neg (by simp at this ⊢; omega)]
      exact tbF_mem h.tail e
theorem tbH_mem : ∀ {T : Tb}, TbOk T → (v, p) ∈ T → tbH T p = v
  | x :: r, h, hm => by
    unfold tbH
    rcases List.mem_cons.1 hm with e | e
    · rw [← e, if_pos rfl]
    · have := (List.pairwise_cons.1 h.inj).1 _ e
      rw [if_neg (by simpa using this)]
      exact tbH_mem h.tail e
theorem tbF_or : ∀ T : Tb, (tbF T v = -1 ∧ ∀ x ∈ T, x.1 ≠ v) ∨ (v, tbF T v) ∈ T
  | [] => .inl ⟨rfl, fun x h => by simp at h⟩
  | x :: r => by
    unfold tbF
    by_cases e : x.1 = v
    · rw [if_pos e]; exact .inr (by rw [← e]; simp)
    · rw [if_neg e]
      rcases tbF_or r with ⟨h1, h2⟩ | h
      · exact .inl ⟨h1, fun y hy => by rcases List.mem_cons.1 hy with rfl | hy; exact e; exact h2 y hy⟩
      · exact .inr (List.mem_cons_of_mem _ h)
theorem tbH_or : ∀ T : Tb, (tbH T p = -1 ∧ ∀ x ∈ T, x.2 ≠ p) ∨ (tbH T p, p) ∈ T
  | [] => .inl ⟨rfl, fun x h => by simp at h⟩
  | x :: r => by
    unfold tbH
    by_cases e : x.2 = p
    · rw [if_pos e]; exact .inr (by rw [← e]; simp)
    · rw [if_neg e]
      rcases tbH_or r with ⟨h1, h2⟩ | h
      · exact .inl ⟨h1, fun y hy => by rcases List.mem_cons.1 hy with rfl | hy; exact e; exact h2 y hy⟩
      · exact .inr (List.mem_cons_of_mem _ h)
theorem TbOk.f_none (h : TbOk T) (hf : tbF T v < 0) : tbF T v = -1 ∧ ∀ x ∈ T, x.1 ≠ v := by
  rcases tbF_or (v := v) T with e | e
  · exact e
  · have := (h.at_ _ e).2; simp at this; omega
theorem TbOk.h_none (h : TbOk T) (hf : tbH T p < 0) : tbH T p = -1 ∧ ∀ x ∈ T, x.2 ≠ p := by
  rcases tbH_or (p := p) T with e | e
  · exact e
  · have := (h.at_ _ e).1; simp at this; omega
theorem TbOk.f_some (_ : TbOk T) (hf : ¬ tbF T v < 0) : (v, tbF T v) ∈ T := by
  rcases tbF_or (v := v) T with e | e
  · omega
  · exact e
theorem TbOk.h_some (_ : TbOk T) (hf : ¬ tbH T p < 0) : (tbH T p, p) ∈ T := by
  rcases tbH_or (p := p) T with e | e
  · omega
  · exact e
theorem TbOk.f_range (h : TbOk T) (v : Int) : -1 ≤ tbF T v ∧ tbF T v ≤ 1048576 := by
  rcases tbF_or (v := v) T with e | e
  · omega
  · have := (h.at_ _ e).2; simp at this; omega
theorem TbOk.h_range (h : TbOk T) (p : Int) : -1 ≤ tbH T p ∧ tbH T p ≤ 6399 := by
  rcases tbH_or (p := p) T with e | e
  · omega
  · have := (h.at_ _ e).1; simp at this; omega
theorem mem_tbI : ∀ {T : Tb} {x : Int × Int}, x ∈ tbI T v p ↔ x = (v, p) ∨ x ∈ T
  | [], x => by simp [tbI]
  | y :: r, x => by
    unfold tbI
    split
    · rw [List.mem_cons, mem_tbI (T := r), List.mem_cons]
      constructor
      · rintro (h | h | h) <;> simp [h]
      · rintro (h | h | h) <;> simp [h]
    · simp
theorem tbI_len : ∀ T : Tb, (tbI T v p).length = T.length + 1
  | [] => rfl
  | y :: r => by unfold tbI; split <;> simp [tbI_len r]
theorem tbI_up : ∀ {T : Tb}, (T.Pairwise fun x y => x.1 < y.1) → (∀ x ∈ T, x.1 ≠ v) → (tbI T v p).Pairwise fun x y => x.1 < y.1
  | [], _, _ => by simp [tbI]
  | y :: r, h, hn => by
    obtain ⟨h1, h2⟩ := List.pairwise_cons.1 h
    unfold tbI
    split
    case isTrue e =>
      refine List.pairwise_cons.2 ⟨fun x hx => ?_, tbI_up h2 fun x hx => hn x (List.mem_cons_of_mem _ hx)⟩
      rcases mem_tbI.1 hx with rfl | hx
      · exact e
      · exact h1 x hx
    case isFalse e =>
      have e2 : v < y.1 := by have := hn y (by simp); omega
      refine List.pairwise_cons.2 ⟨fun x hx => ?_, h⟩
      rcases List.mem_cons.1 hx with rfl | hx
      · exact e2
      · have := h1 x hx; show v < x.1; omega
theorem tbI_inj : ∀ {T : Tb}, (T.Pairwise fun x y => x.2 ≠ y.2) → (∀ x ∈ T, x.2 ≠ p) → (tbI T v p).Pairwise fun x y => x.2 ≠ y.2
  | [], _, _ => by simp [tbI]
  | y :: r, h, hn => by
    obtain ⟨h1, h2⟩ := List.pairwise_cons.1 h
    unfold tbI
    split
    · refine List.pairwise_cons.2 ⟨fun x hx => ?_, tbI_inj h2 fun x hx => hn x (List.mem_cons_of_mem _ hx)⟩
      rcases mem_tbI.1 hx with rfl | hx
      · exact hn y (by simp)
      · exact h1 x hx
    · refine List.pairwise_cons.2 ⟨fun x hx => fun e => hn x hx e.symm, h⟩
theorem TbOk.ins (h : TbOk T) (hv : VOk v) (hp : POk p) (h1 : tbF T v < 0) (h2 : tbH T p < 0) : TbOk (tbI T v p) :=
  ⟨tbI_up h.up (h.f_none h1).2, tbI_inj h.inj (h.h_none h2).2, fun x hx => by
    rcases mem_tbI.1 hx with rfl | hx
    · exact ⟨hv, hp⟩
    · exact h.at_ x hx⟩
theorem TbOk.map (h : TbOk T) (v p : Int) : TbOk (tbM T v p) := by
  unfold tbM
  split
  case isTrue e => exact h.ins e.1.1 e.1.2 e.2.1 e.2.2
  case isFalse => exact h
theorem TbOk.unmap (h : TbOk T) (v : Int) : TbOk (tbU T v) := ⟨h.up.filter _, h.inj.filter _, fun x hx => h.at_ x (List.mem_filter.1 hx).1⟩
theorem tbME_zero : tbME T v p = 0 ↔ ((VOk v ∧ POk p) ∧ tbF T v < 0 ∧ tbH T p < 0) := by
  unfold tbME
  by_cases h1 : VOk v ∧ POk p
  · rw [if_pos h1]
    by_cases h2 : tbF T v < 0 ∧ tbH T p < 0
    · rw [if_pos h2]; exact ⟨fun _ => ⟨h1, h2⟩, fun _ => rfl⟩
    · rw [if_neg h2]; exact ⟨fun e => by omega, fun e => absurd e.2 h2⟩
  · rw [if_neg h1]; exact ⟨fun e => by omega, fun e => absurd e.1 h1⟩
theorem tbM_yes (h : tbME T v p = 0) : tbM T v p = tbI T v p := if_pos (tbME_zero.1 h)
end
end Go.Proofs.YtioplfbkfokkfaaGreatDoor

namespace Go.Proofs.YtioplfbkfokkfaaGreatDoor

/-- Push: what is left, and the error. -/
def liP (L : List Int) (k : Int) : List Int := if k < 0 ∨ k ∈ L then L else L ++ [k]
def liPE (L : List Int) (k : Int) : Int := if k < 0 then 12 else if k ∈ L then 7 else 0
/-- Remove. -/
def liR (L : List Int) (k : Int) : List Int := L.filter fun x => decide (x ≠ k)
def liRE (L : List Int) (k : Int) : Int := if k ∈ L then 0 else 13
/-- Front. -/
def liF : List Int → Int
  | [] => -1
  | x :: _ => x
/-- A right line. -/
structure LiOk (L : List Int) : Prop where
  nd : L.Nodup
  at_ : ∀ x ∈ L, 0 ≤ x ∧ x ≤ 9223372036854775807
section
variable {L : List Int} {k : Int}
theorem LiOk.none : LiOk [] := ⟨List.nodup_nil, fun x h => by simp at h⟩
theorem mem_liR (x : Int) : x ∈ liR L k ↔ x ∈ L ∧ x ≠ k := by simp [liR]
theorem liR_head (h : (k :: L).Nodup) : liR (k :: L) k = L := by
  have h1 : k ∉ L := (List.nodup_cons.1 h).1
  unfold liR
  rw [List.filter_cons_of_neg (by simp)]
  exact List.filter_eq_self.2 fun x hx => by simp; exact fun e => h1 (e ▸ hx)
theorem liR_none (h : k ∉ L) : liR L k = L := List.filter_eq_self.2 fun x hx => by simp; exact fun e => h (e ▸ hx)
theorem LiOk.front (h : LiOk L) : I64 (liF L) := by
  cases L with
  | nil => exact ⟨by decide, by decide⟩
  | cons x L => have := h.at_ x (by simp); exact ⟨by show _ ≤ x; omega, this.2⟩
end
end Go.Proofs.YtioplfbkfokkfaaGreatDoor

namespace Go.Proofs.YtioplfbkfokkfaaGreatDoor.Cq

/-- The least number below n that is meant, else n. -/
def low (f : Nat → Bool) (n : Nat) : Nat := ((List.range n).find? f).getD n
theorem low_unique (f : Nat → Bool) (n p : Nat) (h0 : p < n) (h1 : f p = true) (h2 : ∀ i, i < p → f i = false) : low f n = p := by
  have : (List.range n).find? f = some p := by
    rw [List.find?_range_eq_some]
    refine ⟨h1, by simpa using h0, fun j hj => ?_⟩
    rw [h2 j hj]; rfl
  unfold low; rw [this]; rfl
theorem low_none (f : Nat → Bool) (n : Nat) (h : ∀ i, i < n → f i = false) : low f n = n := by
  have : (List.range n).find? f = none := by
    rw [List.find?_range_eq_none]
    intro i hi; rw [h i hi]; rfl
  unfold low; rw [this]; rfl
theorem low_cases (f : Nat → Bool) (n : Nat) : (low f n < n ∧ f (low f n) = true ∧ ∀ i, i < low f n → f i = false) ∨ (low f n = n ∧ ∀ i, i < n → f i = false) := by
  cases h : (List.range n).find? f with
  | none =>
    right
    rw [List.find?_range_eq_none] at h
    exact ⟨low_none f n fun i hi => by simpa using h i hi, fun i hi => by simpa using h i hi⟩
  | some p =>
    left
    rw [List.find?_range_eq_some] at h
    have e := low_unique f n p (by simpa using h.2.1) h.1 fun i hi => by simpa using h.2.2 i hi
    rw [e]
    exact ⟨by simpa using h.2.1, h.1, fun i hi => by simpa using h.2.2 i hi⟩
/-- How many below n are meant. -/
def cnt (f : Nat → Bool) (n : Nat) : Nat := (List.range n).countP f
theorem cnt_succ (f : Nat → Bool) (n : Nat) : cnt f (n + 1) = cnt f n + (if f n then 1 else 0) := by
  unfold cnt; rw [List.range_succ, List.countP_append]; simp [List.countP_cons]
theorem cnt_le (f : Nat → Bool) (n : Nat) : cnt f n ≤ n := by
  unfold cnt; have := List.countP_le_length (p := f) (l := List.range n); simpa using this
/-- Is a colour of the window? -/
def inW (k : Nat) (win : List Int) (p : Nat) : Bool := win.any fun x => x == ((p % k : Nat) : Int)
/-- Free, and of the window. -/
def meant (k : Nat) (has : List Bool) (win : List Int) (p : Nat) : Bool := !(has.getD p true) && inW k win p
def takP (k : Nat) (has : List Bool) (win : List Int) : Nat := low (meant k has win) has.length
def takV (k : Nat) (has : List Bool) (win : List Int) : Int := if takP k has win < has.length then (takP k has win : Int) else 0
def takE (k : Nat) (has : List Bool) (win : List Int) : Int := if takP k has win < has.length then 0 else 13
def takS (k : Nat) (has : List Bool) (win : List Int) : List Bool := has.set (takP k has win) true
def giE (has : List Bool) (p : Int) : Int := if 0 ≤ p ∧ p < has.length then (if has.getD p.toNat false then 0 else 13) else 12
def giS (has : List Bool) (p : Int) : List Bool := if 0 ≤ p ∧ p < has.length then has.set p.toNat false else has
def isT (has : List Bool) (p : Int) : Bool := decide (0 ≤ p ∧ p < has.length) && has.getD p.toNat false
def colI (n k : Nat) (p : Int) : Int := if 0 ≤ p ∧ p < n then ((p.toNat % k : Nat) : Int) else -1
def frI (k : Nat) (has : List Bool) (win : List Int) : Nat := cnt (meant k has win) has.length
/-- May it be a configuration? -/
abbrev Cfg (n k : Int) : Prop := 1 ≤ k ∧ k ≤ 32 ∧ 1 ≤ n ∧ n ≤ 4096 ∧ n % k = 0
theorem takS_length (k : Nat) (has : List Bool) (win : List Int) : (takS k has win).length = has.length := by simp [takS]
end Go.Proofs.YtioplfbkfokkfaaGreatDoor.Cq

namespace Go.Proofs.YtioplfbkfokkfaaGreatDoor.Cq

theorem cnt_none (f : Nat → Bool) : ∀ n : Nat, (∀ i, i < n → f i = false) → cnt f n = 0
  | 0, _ => rfl
  | n + 1, h => by rw [cnt_succ, cnt_none f n (fun i hi => h i (by omega)), h n (by omega)]; rfl
theorem cnt_pos (f : Nat → Bool) (n : Nat) (h : 0 < cnt f n) : low f n < n ∧ f (low f n) = true ∧ ∀ i, i < low f n → f i = false := by
  rcases low_cases f n with h1 | ⟨_, h1⟩
  · exact h1
  · rw [cnt_none f n h1] at h; omega
theorem cnt_ext {f g : Nat → Bool} : ∀ n : Nat, (∀ i, i < n → f i = g i) → cnt f n = cnt g n
  | 0, _ => rfl
  | n + 1, h => by rw [cnt_succ, cnt_succ, cnt_ext n (fun i hi => h i (by omega)), h n (by omega)]
/-- One that was meant is meant no more. -/
theorem cnt_less {f g : Nat → Bool} {p : Nat} : ∀ n : Nat, p < n → f p = true → g p = false → (∀ i, i < n → i ≠ p → f i = g i) → cnt f n = cnt g n + 1
  | 0, h, _, _, _ => by omega
  | n + 1, h, h1, h2, h3 => by
    rw [cnt_succ, cnt_succ]
    by_cases e : p = n
    · subst e
      rw [h1, h2, cnt_ext p (fun i hi => h3 i (by omega) (by omega))]
      simp
    · rw [cnt_less n (by omega) h1 h2 (fun i hi => h3 i (by omega)), h3 n (by omega) (by omega)]
      omega
section
variable {k : Nat} {has : List Bool} {l : List Int}
theorem meant_set_same (p : Nat) : meant k (has.set p true) l p = false := by
  by_cases hp : p < has.length
  · simp [meant, List.getD, hp]
  · simp [meant, List.getD, hp]
theorem meant_set_other {p i : Nat} (h : i ≠ p) : meant k (has.set p true) l i = meant k has l i := by
  simp [meant, List.getD, Ne.symm h]
/-- One of the window is taken: what is said of it, and of what is left. -/
theorem take_yes (h : 0 < frI k has l) : ∃ p : Nat, p < has.length ∧ meant k has l p = true ∧ takV k has l = (p : Int) ∧ takE k has l = 0 ∧ takS k has l = has.set p true ∧ isT (takS k has l) (p : Int) = true ∧ frI k (takS k has l) l + 1 = frI k has l ∧ ∀ i, i ≤ p → meant k (takS k has l) l i = false := by
  obtain ⟨h1, h2, h3⟩ := cnt_pos _ _ h
  refine ⟨takP k has l, h1, h2, ?_, ?_, rfl, ?_, ?_, ?_⟩
  · unfold takV; exact if_pos h1
  · unfold takE; exact if_pos h1
  · have h1' : takP k has l < has.length := h1
    unfold isT takS
    simp only [List.length_set, List.getD, Int.toNat_natCast, List.getElem?_set, h1']
    simp
    omega
  · unfold frI
    rw [takS_length]
    refine (cnt_less (p := takP k has l) has.length h1 h2 (meant_set_same _) fun i _ hi => ?_).symm
    exact (meant_set_other hi).symm
  · intro i hi
    by_cases e : i = takP k has l
    · subst e; exact meant_set_same _
    · unfold takS; rw [meant_set_other e]; exact h3 i (by have : i ≤ low _ _ := hi; have : i ≠ low _ _ := e; omega)
theorem take_no (h : frI k has l = 0) : takV k has l = 0 ∧ takE k has l = 13 ∧ takS k has l = has := by
  have h1 : takP k has l = has.length := by
    rcases low_cases (meant k has l) has.length with ⟨h1, h2, _⟩ | ⟨h1, _⟩
    · have := cnt_less (f := meant k has l) (g := fun i => meant k has l i && decide (i ≠ low (meant k has l) has.length)) has.length h1 h2 (by simp) (fun i _ hi => by simp [hi])
      unfold frI at h
      omega
    · exact h1
  refine ⟨?_, ?_, ?_⟩
  · unfold takV; exact if_neg (by omega)
  · unfold takE; exact if_neg (by omega)
  · unfold takS; rw [h1]; exact List.set_eq_of_length_le (Nat.le_refl _)
end
end Go.Proofs.YtioplfbkfokkfaaGreatDoor.Cq

namespace Go.Proofs.YtioplfbkfokkfaaGreatDoor
open Go.RowKit
open An

/-- A slot that is held: its kind, its number; of a small kind its page. -/
structure Hd where
  kind : Nat
  slot : Nat
  pg : Pg
/-- A heap: its window, its table, what is held (in the order in which it came), the lines of the small kinds. -/
structure Hp where
  W : List Int
  T : Tb
  L : List Hd
  ln : Nat → List Int
/-- What heaps share: pages that are taken, bytes, touches. -/
structure Ms where
  has : List Bool
  bs : List UInt8
  ss : List Sp
/-- How many pages a slot has, how many slots a kind. -/
def pn (c : Nat) : Nat := (pagesI c).toNat
def sn (c : Nat) : Nat := (slI c).toNat
/-- The first local page of a slot. -/
def lo (c s : Nat) : Int := adI c s 0 / 512
theorem pn_facts {c : Nat} (h : c ≤ 23) : (1 ≤ pn c ∧ pn c ≤ 16) ∧ (1 ≤ sn c ∧ sn c ≤ 256) ∧ sn c * pn c ≤ 256 ∧ pagesI c = (pn c : Int) ∧ slI c = (sn c : Int) ∧ (c ≤ 7 → pn c = 1 ∧ sn c = 256) := by
  have : ∀ c : Fin 24, (1 ≤ pn c ∧ pn c ≤ 16) ∧ (1 ≤ sn c ∧ sn c ≤ 256) ∧ sn c * pn c ≤ 256 ∧ pagesI c = (pn c : Int) ∧ slI c = (sn c : Int) ∧ ((c : Nat) ≤ 7 → pn c = 1 ∧ sn c = 256) := by decide +kernel
  exact this ⟨c, by omega⟩
theorem lo_eq {c : Nat} (h : c ≤ 23) (s : Nat) : lo c s = ((c + 1) * 256 + s * pn c : Nat) := by
  have e := (pn_facts h).2.2.2.1
  unfold lo adI sbI
  rw [e, show (s : Int) * ((pn c : Int) * 512) = ((s * pn c : Nat) : Int) * 512 by rw [Int.natCast_mul, Int.mul_assoc]]
  omega
theorem slot_lies {c s : Nat} (h : c ≤ 23) (hs : s < sn c) : s * pn c + pn c ≤ 256 := by
  have := (pn_facts h).2.2.1
  have h2 : (s + 1) * pn c ≤ sn c * pn c := Nat.mul_le_mul_right _ hs
  rw [Nat.add_mul, Nat.one_mul] at h2
  omega
theorem lo_in {c s : Nat} (h : c ≤ 23) (hs : s < sn c) {i : Nat} (hi : i < pn c) : ((c + 1) * 256 : Nat) ≤ lo c s + i ∧ lo c s + i < ((c + 2) * 256 : Nat) ∧ VOk (lo c s + i) := by
  have h1 := lo_eq h s
  have h2 := slot_lies h hs
  unfold VOk
  omega
/-- A local page is of one slot alone. -/
theorem lo_one {c s c' s' : Nat} (h : c ≤ 23) (hs : s < sn c) (h' : c' ≤ 23) (hs' : s' < sn c') {i i' : Nat} (hi : i < pn c) (hi' : i' < pn c') (e : lo c s + i = lo c' s' + i') : c = c' ∧ s = s' ∧ i = i' := by
  have l1 := lo_in h hs hi
  have l2 := lo_in h' hs' hi'
  obtain rfl : c = c' := by omega
  rw [lo_eq h, lo_eq h] at e
  have e2 : s * pn c + i = s' * pn c + i' := by omega
  have e3 : s = s' := by
    have h1 : (s * pn c + i) / pn c = s := by rw [Nat.mul_comm, Nat.mul_add_div (by omega), Nat.div_eq_of_lt hi, Nat.add_zero]
    have h2 : (s' * pn c + i') / pn c = s' := by rw [Nat.mul_comm, Nat.mul_add_div (by omega), Nat.div_eq_of_lt hi', Nat.add_zero]
    rw [← h1, ← h2, e2]
  subst e3
  exact ⟨rfl, rfl, by omega⟩
/-- Is a slot held? -/
abbrev Held (L : List Hd) (c s : Nat) : Prop := ∃ x ∈ L, x.kind = c ∧ x.slot = s
def heldB (L : List Hd) (c s : Nat) : Bool := L.any fun x => decide (x.kind = c ∧ x.slot = s)
theorem heldB_iff {L : List Hd} {c s : Nat} : heldB L c s = true ↔ Held L c s := by simp [heldB, Held]
/-- The lowest slot that is free. -/
def hSl (L : List Hd) (c : Nat) : Nat := Cq.low (fun s => !heldB L c s) (sn c)
/-- What is held there. -/
def hAt (L : List Hd) (c s : Nat) : Option Hd := L.find? fun x => decide (x.kind = c ∧ x.slot = s)
/-- Its page is another one. -/
def hSet (L : List Hd) (c s : Nat) (g : Pg) : List Hd := L.map fun x => if x.kind = c ∧ x.slot = s then ⟨x.kind, x.slot, g⟩ else x
/-- It is held no more. -/
def hDel (L : List Hd) (c s : Nat) : List Hd := L.filter fun x => decide (¬ (x.kind = c ∧ x.slot = s))
/-- m local pages are held, from v on. -/
def takN (k : Nat) (W : List Int) : Nat → Int → List Bool → Tb → List Bool × Tb
  | 0, _, has, T => (has, T)
  | m + 1, v, has, T => takN k W m (v + 1) (Cq.takS k has W) (tbM T v (Cq.takV k has W))
/-- A local page is let go of. -/
def drM (m : Ms) (T : Tb) (v : Int) : Ms := ⟨Cq.giS m.has (tbUV T v), over m.bs ((tbUV T v).toNat * 512) (nz 512), m.ss ++ [(tbUV T v * 512, 512, true)]⟩
def letN : Nat → Int → Ms → Tb → Ms × Tb
  | 0, _, m, T => (m, T)
  | n + 1, v, m, T => letN n (v + 1) (drM m T v) (tbU T v)
/-- The table holds pages that are taken, of those that are meant (C). -/
structure TpOk (C : Nat → Prop) (has : List Bool) (T : Tb) : Prop where
  tb : TbOk T
  tk : ∀ y ∈ T, 0 ≤ y.2 ∧ y.2.toNat < has.length ∧ has.getD y.2.toNat false = true ∧ C y.2.toNat
/-- What heaps share is right: bytes of pages that are free are 0. -/
structure MsOk (m : Ms) : Prop where
  len : m.bs.length = m.has.length * 512
  cap : m.has.length ≤ 4096
  cl : ∀ q, q < m.has.length → m.has.getD q true = false → win m.bs (q * 512) = nz 512
/-- The pages that a table holds. -/
abbrev Pgs (T : Tb) (q : Nat) : Prop := ∃ v, (v, (q : Int)) ∈ T
/-- Between two states nothing turned but pages that were held then, or are now. -/
structure Stp (m : Ms) (T : Tb) (m' : Ms) (T' : Tb) : Prop where
  len : m'.has.length = m.has.length
  bl : m'.bs.length = m.bs.length
  out : ∀ q, q < m.has.length → ¬ Pgs T q → ¬ Pgs T' q → m'.has.getD q true = m.has.getD q true ∧ win m'.bs (q * 512) = win m.bs (q * 512)
  new : ∀ q, Pgs T' q → ¬ Pgs T q → m.has.getD q true = false
  old : ∀ q, Pgs T q → ¬ Pgs T' q → m'.has.getD q true = false
section
variable {m m' m'' : Ms} {T T' T'' : Tb} {k : Nat} {W : List Int}
theorem Stp.refl (m : Ms) (T : Tb) : Stp m T m T := ⟨rfl, rfl, fun _ _ _ _ => ⟨rfl, rfl⟩, fun _ h h' => (h' h).elim, fun _ h h' => (h' h).elim⟩
theorem Stp.trans (h : Stp m T m' T') (k : Stp m' T' m'' T'') (ok : MsOk m) (ok'' : MsOk m'') : Stp m T m'' T'' := by
  refine ⟨k.len.trans h.len, k.bl.trans h.bl, fun q hq h1 h3 => ?_, fun q h3 h1 => ?_, fun q h1 h3 => ?_⟩
  · by_cases h2 : Pgs T' q
    · have e1 := h.new q h2 h1
      have e2 := k.old q h2 h3
      refine ⟨by rw [e1, e2], ?_⟩
      rw [ok.cl q hq e1, ok''.cl q (by rw [k.len, h.len]; exact hq) e2]
    · have e1 := h.out q hq h1 h2
      have e2 := k.out q (by rw [h.len]; exact hq) h2 h3
      exact ⟨e2.1.trans e1.1, e2.2.trans e1.2⟩
  · by_cases h2 : Pgs T' q
    · exact h.new q h2 h1
    · have e2 := k.new q h3 h2
      by_cases hq : q < m.has.length
      · have := (h.out q hq h1 h2).1
        rw [← this]
        exact e2
      · exfalso
        rw [List.getD_eq_getElem?_getD, List.getElem?_eq_none (by rw [h.len]; omega)] at e2
        cases e2
  · by_cases h2 : Pgs T' q
    · exact k.old q h2 h3
    · have e1 := h.old q h1 h2
      by_cases hq : q < m'.has.length
      · rw [(k.out q hq h2 h3).1]; exact e1
      · exfalso
        rw [List.getD_eq_getElem?_getD, List.getElem?_eq_none (by omega)] at e1
        cases e1
end
end Go.Proofs.YtioplfbkfokkfaaGreatDoor
