/-
  Numbers that stand in a row, each once: mathematics. What each call of a line answers, and what it leaves.
  Pages by their colours: which are taken, what each call answers and leaves: plain mathematics off the document. Nothing of the program is named here.
  What taking does to a window: counts, the lowest page; windows without a common colour. Nothing of the program is named here.
  A tenant's blocks: mathematics off the document. What a heap holds, what each call answers and leaves; how pages are taken and let go of.
-/
import Derived.Test.YtioplfbkfokkfaaGreatDoorSeen
import Derived.Test.YtioplfbkfokkfaaGreatDoorPaWin
import Derived.Test.YtioplfbkfokkfaaGreatDoorTaBase
namespace Go.Proofs.YtioplfbkfokkfaaGreatDoor

def liP (L : List Int) (k : Int) : List Int := if k < 0 ∨ k ∈ L then L else L ++ [k]
def liPE (L : List Int) (k : Int) : Int := if k < 0 then 12 else if k ∈ L then 7 else 0
def liR (L : List Int) (k : Int) : List Int := L.filter fun x => decide (x ≠ k)
def liRE (L : List Int) (k : Int) : Int := if k ∈ L then 0 else 13
def liF : List Int → Int
  | [] => -1
  | x :: _ => x
structure LiOk (L : List Int) : Prop where
  nd : L.Nodup
  at_ : ∀ x ∈ L, 0 ≤ x ∧ x ≤ 9223372036854775807
section
variable {L : List Int} {k : Int}
theorem LiOk.none : LiOk [] := ⟨List.nodup_nil, fun x h => by simp at h⟩
theorem mem_liR (x : Int) : x ∈ liR L k ↔ x ∈ L ∧ x ≠ k := by simp [liR]
theorem liR_head (h : (k :: L).Nodup) : liR (k :: L) k = L := by
  have h1 : k ∉ L := (List.nodup_cons.1 h).1
  unfold liR
  rw [List.filter_cons_of_neg (by simp)]
  exact List.filter_eq_self.2 fun x hx => by simp; exact fun e => h1 (e ▸ hx)
theorem liR_none (h : k ∉ L) : liR L k = L := List.filter_eq_self.2 fun x hx => by simp; exact fun e => h (e ▸ hx)
theorem LiOk.front (h : LiOk L) : I64 (liF L) := by
  cases L with
  | nil => exact ⟨by decide, by decide⟩
  | cons x L => have := h.at_ x (by simp); exact ⟨by show _ ≤ x; omega, this.2⟩
end
end Go.Proofs.YtioplfbkfokkfaaGreatDoor

namespace Go.Proofs.YtioplfbkfokkfaaGreatDoor.Cq

def low (f : Nat → Bool) (n : Nat) : Nat := ((List.range n).find? f).getD n
theorem low_unique (f : Nat → Bool) (n p : Nat) (h0 : p < n) (h1 : f p = true) (h2 : ∀ i, i < p → f i = false) : low f n = p := by
  have : (List.range n).find? f = some p := by
    rw [List.find?_range_eq_some]
    refine ⟨h1, by simpa using h0, fun j hj => ?_⟩
    rw [h2 j hj]; rfl
  unfold low; rw [this]; rfl
theorem low_none (f : Nat → Bool) (n : Nat) (h : ∀ i, i < n → f i = false) : low f n = n := by
  have : (List.range n).find? f = none := by
    rw [List.find?_range_eq_none]
    intro i hi; rw [h i hi]; rfl
  unfold low; rw [this]; rfl
theorem low_cases (f : Nat → Bool) (n : Nat) : (low f n < n ∧ f (low f n) = true ∧ ∀ i, i < low f n → f i = false) ∨ (low f n = n ∧ ∀ i, i < n → f i = false) := by
  cases h : (List.range n).find? f with
  | none =>
    right
    rw [List.find?_range_eq_none] at h
    exact ⟨low_none f n fun i hi => by simpa using h i hi, fun i hi => by simpa using h i hi⟩
  | some p =>
    left
    rw [List.find?_range_eq_some] at h
    have e := low_unique f n p (by simpa using h.2.1) h.1 fun i hi => by simpa using h.2.2 i hi
    rw [e]
    exact ⟨by simpa using h.2.1, h.1, fun i hi => by simpa using h.2.2 i hi⟩
def cnt (f : Nat → Bool) (n : Nat) : Nat := (List.range n).countP f
theorem cnt_succ (f : Nat → Bool) (n : Nat) : cnt f (n + 1) = cnt f n + (if f n then 1 else 0) := by
  unfold cnt; rw [List.range_succ, List.countP_append]; simp [List.countP_cons]
theorem cnt_le (f : Nat → Bool) (n : Nat) : cnt f n ≤ n := by
  unfold cnt; have := List.countP_le_length (p := f) (l := List.range n); simpa using this
def inW (k : Nat) (win : List Int) (p : Nat) : Bool := win.any fun x => x == ((p % k : Nat) : Int)
def meant (k : Nat) (has : List Bool) (win : List Int) (p : Nat) : Bool := !(has.getD p true) && inW k win p
def takP (k : Nat) (has : List Bool) (win : List Int) : Nat := low (meant k has win) has.length
def takV (k : Nat) (has : List Bool) (win : List Int) : Int := if takP k has win < has.length then (takP k has win : Int) else 0
def takE (k : Nat) (has : List Bool) (win : List Int) : Int := if takP k has win < has.length then 0 else 13
def takS (k : Nat) (has : List Bool) (win : List Int) : List Bool := has.set (takP k has win) true
def giE (has : List Bool) (p : Int) : Int := if 0 ≤ p ∧ p < has.length then (if has.getD p.toNat false then 0 else 13) else 12
def giS (has : List Bool) (p : Int) : List Bool := if 0 ≤ p ∧ p < has.length then has.set p.toNat false else has
def isT (has : List Bool) (p : Int) : Bool := decide (0 ≤ p ∧ p < has.length) && has.getD p.toNat false
def colI (n k : Nat) (p : Int) : Int := if 0 ≤ p ∧ p < n then ((p.toNat % k : Nat) : Int) else -1
def frI (k : Nat) (has : List Bool) (win : List Int) : Nat := cnt (meant k has win) has.length
abbrev Cfg (n k : Int) : Prop := 1 ≤ k ∧ k ≤ 32 ∧ 1 ≤ n ∧ n ≤ 4096 ∧ n % k = 0
theorem takS_length (k : Nat) (has : List Bool) (win : List Int) : (takS k has win).length = has.length := by simp [takS]
end Go.Proofs.YtioplfbkfokkfaaGreatDoor.Cq

namespace Go.Proofs.YtioplfbkfokkfaaGreatDoor.Cq

theorem cnt_none (f : Nat → Bool) : ∀ n : Nat, (∀ i, i < n → f i = false) → cnt f n = 0
  | 0, _ => rfl
  | n + 1, h => by rw [cnt_succ, cnt_none f n (fun i hi => h i (by omega)), h n (by omega)]; rfl
theorem cnt_pos (f : Nat → Bool) (n : Nat) (h : 0 < cnt f n) : low f n < n ∧ f (low f n) = true ∧ ∀ i, i < low f n → f i = false := by
  rcases low_cases f n with h1 | ⟨_, h1⟩
  · exact h1
  · rw [cnt_none f n h1] at h; omega
theorem cnt_ext {f g : Nat → Bool} : ∀ n : Nat, (∀ i, i < n → f i = g i) → cnt f n = cnt g n
  | 0, _ => rfl
  | n + 1, h => by rw [cnt_succ, cnt_succ, cnt_ext n (fun i hi => h i (by omega)), h n (by omega)]
theorem cnt_less {f g : Nat → Bool} {p : Nat} : ∀ n : Nat, p < n → f p = true → g p = false → (∀ i, i < n → i ≠ p → f i = g i) → cnt f n = cnt g n + 1
  | 0, h, _, _, _ => by omega
  | n + 1, h, h1, h2, h3 => by
    rw [cnt_succ, cnt_succ]
    by_cases e : p = n
    · subst e
      rw [h1, h2, cnt_ext p (fun i hi => h3 i (by omega) (by omega))]
      simp
    · rw [cnt_less n (by omega) h1 h2 (fun i hi => h3 i (by omega)), h3 n (by omega) (by omega)]
      omega
section
variable {k : Nat} {has : List Bool} {l : List Int}
theorem meant_set_same (p : Nat) : meant k (has.set p true) l p = false := by
  by_cases hp : p < has.length
  · simp [meant, List.getD, hp]
  · simp [meant, List.getD, hp]
theorem meant_set_other {p i : Nat} (h : i ≠ p) : meant k (has.set p true) l i = meant k has l i := by
  simp [meant, List.getD, Ne.symm h]
theorem take_yes (h : 0 < frI k has l) : ∃ p : Nat, p < has.length ∧ meant k has l p = true ∧ takV k has l = (p : Int) ∧ takE k has l = 0 ∧ takS k has l = has.set p true ∧ isT (takS k has l) (p : Int) = true ∧ frI k (takS k has l) l + 1 = frI k has l ∧ ∀ i, i ≤ p → meant k (takS k has l) l i = false := by
  obtain ⟨h1, h2, h3⟩ := cnt_pos _ _ h
  refine ⟨takP k has l, h1, h2, ?_, ?_, rfl, ?_, ?_, ?_⟩
  · unfold takV; exact if_pos h1
  · unfold takE; exact if_pos h1
  · have h1' : takP k has l < has.length := h1
    unfold isT takS
    simp only [List.length_set, List.getD, Int.toNat_natCast, List.getElem?_set, h1']
    simp
    omega
  · unfold frI
    rw [takS_length]
    refine (cnt_less (p := takP k has l) has.length h1 h2 (meant_set_same _) fun i _ hi => ?_).symm
    exact (meant_set_other hi).symm
  · intro i hi
    by_cases e : i = takP k has l
    · subst e; exact meant_set_same _
    · unfold takS; rw [meant_set_other e]; exact h3 i (by have : i ≤ low _ _ := hi; have : i ≠ low _ _ := e; omega)
theorem take_no (h : frI k has l = 0) : takV k has l = 0 ∧ takE k has l = 13 ∧ takS k has l = has := by
  have h1 : takP k has l = has.length := by
    rcases low_cases (meant k has l) has.length with ⟨h1, h2, _⟩ | ⟨h1, _⟩
    · have := cnt_less (f := meant k has l) (g := fun i => meant k has l i && decide (i ≠ low (meant k has l) has.length)) has.length h1 h2 (by simp) (fun i _ hi => by simp [hi])
      unfold frI at h
      omega
    · exact h1
  refine ⟨?_, ?_, ?_⟩
  · unfold takV; exact if_neg (by omega)
  · unfold takE; exact if_neg (by omega)
  · unfold takS; rw [h1]; exact List.set_eq_of_length_le (Nat.le_refl _)
end
end Go.Proofs.YtioplfbkfokkfaaGreatDoor.Cq

namespace Go.Proofs.YtioplfbkfokkfaaGreatDoor
open Go.RowKit
open An

structure Hd where
  kind : Nat
  slot : Nat
  pg : Pg
structure Hp where
  W : List Int
  T : Tb
  L : List Hd
  ln : Nat → List Int
structure Ms where
  has : List Bool
  bs : List UInt8
  ss : List Sp
def pn (c : Nat) : Nat := (pagesI c).toNat
def sn (c : Nat) : Nat := (slI c).toNat
def lo (c s : Nat) : Int := adI c s 0 / 512
theorem pn_facts {c : Nat} (h : c ≤ 23) : (1 ≤ pn c ∧ pn c ≤ 16) ∧ (1 ≤ sn c ∧ sn c ≤ 256) ∧ sn c * pn c ≤ 256 ∧ pagesI c = (pn c : Int) ∧ slI c = (sn c : Int) ∧ (c ≤ 7 → pn c = 1 ∧ sn c = 256) := by
  have : ∀ c : Fin 24, (1 ≤ pn c ∧ pn c ≤ 16) ∧ (1 ≤ sn c ∧ sn c ≤ 256) ∧ sn c * pn c ≤ 256 ∧ pagesI c = (pn c : Int) ∧ slI c = (sn c : Int) ∧ ((c : Nat) ≤ 7 → pn c = 1 ∧ sn c = 256) := by decide +kernel
  exact this ⟨c, by omega⟩
theorem lo_eq {c : Nat} (h : c ≤ 23) (s : Nat) : lo c s = ((c + 1) * 256 + s * pn c : Nat) := by
  have e := (pn_facts h).2.2.2.1
  unfold lo adI sbI
  rw [e, show (s : Int) * ((pn c : Int) * 512) = ((s * pn c : Nat) : Int) * 512 by rw [Int.natCast_mul, Int.mul_assoc]]
  omega
theorem slot_lies {c s : Nat} (h : c ≤ 23) (hs : s < sn c) : s * pn c + pn c ≤ 256 := by
  have := (pn_facts h).2.2.1
  have h2 : (s + 1) * pn c ≤ sn c * pn c := Nat.mul_le_mul_right _ hs
  rw [Nat.add_mul, Nat.one_mul] at h2
  omega
theorem lo_in {c s : Nat} (h : c ≤ 23) (hs : s < sn c) {i : Nat} (hi : i < pn c) : ((c + 1) * 256 : Nat) ≤ lo c s + i ∧ lo c s + i < ((c + 2) * 256 : Nat) ∧ VOk (lo c s + i) := by
  have h1 := lo_eq h s
  have h2 := slot_lies h hs
  unfold VOk
  omega
theorem lo_one {c s c' s' : Nat} (h : c ≤ 23) (hs : s < sn c) (h' : c' ≤ 23) (hs' : s' < sn c') {i i' : Nat} (hi : i < pn c) (hi' : i' < pn c') (e : lo c s + i = lo c' s' + i') : c = c' ∧ s = s' ∧ i = i' := by
  have l1 := lo_in h hs hi
  have l2 := lo_in h' hs' hi'
  obtain rfl : c = c' := by omega
  rw [lo_eq h, lo_eq h] at e
  have e2 : s * pn c + i = s' * pn c + i' := by omega
  have e3 : s = s' := by
    have h1 : (s * pn c + i) / pn c = s := by rw [Nat.mul_comm, Nat.mul_add_div (by omega), Nat.div_eq_of_lt hi, Nat.add_zero]
    have h2 : (s' * pn c + i') / pn c = s' := by rw [Nat.mul_comm, Nat.mul_add_div (by omega), Nat.div_eq_of_lt hi', Nat.add_zero]
    rw [← h1, ← h2, e2]
  subst e3
  exact ⟨rfl, rfl, by omega⟩
abbrev Held (L : List Hd) (c s : Nat) : Prop := ∃ x ∈ L, x.kind = c ∧ x.slot = s
def heldB (L : List Hd) (c s : Nat) : Bool := L.any fun x => decide (x.kind = c ∧ x.slot = s)
theorem heldB_iff {L : List Hd} {c s : Nat} : heldB L c s = true ↔ Held L c s := by simp [heldB, Held]
def hSl (L : List Hd) (c : Nat) : Nat := Cq.low (fun s => !heldB L c s) (sn c)
def hAt (L : List Hd) (c s : Nat) : Option Hd := L.find? fun x => decide (x.kind = c ∧ x.slot = s)
def hSet (L : List Hd) (c s : Nat) (g : Pg) : List Hd := L.map fun x => if x.kind = c ∧ x.slot = s then ⟨x.kind, x.slot, g⟩ else x
def hDel (L : List Hd) (c s : Nat) : List Hd := L.filter fun x => decide (¬ (x.kind = c ∧ x.slot = s))
def takN (k : Nat) (W : List Int) : Nat → Int → List Bool → Tb → List Bool × Tb
  | 0, _, has, T => (has, T)
  | m + 1, v, has, T => takN k W m (v + 1) (Cq.takS k has W) (tbM T v (Cq.takV k has W))
def drM (m : Ms) (T : Tb) (v : Int) : Ms := ⟨Cq.giS m.has (tbUV T v), over m.bs ((tbUV T v).toNat * 512) (nz 512), m.ss ++ [(tbUV T v * 512, 512, true)]⟩
def letN : Nat → Int → Ms → Tb → Ms × Tb
  | 0, _, m, T => (m, T)
  | n + 1, v, m, T => letN n (v + 1) (drM m T v) (tbU T v)
structure TpOk (C : Nat → Prop) (has : List Bool) (T : Tb) : Prop where
  tb : TbOk T
  tk : ∀ y ∈ T, 0 ≤ y.2 ∧ y.2.toNat < has.length ∧ has.getD y.2.toNat false = true ∧ C y.2.toNat
structure MsOk (m : Ms) : Prop where
  len : m.bs.length = m.has.length * 512
  cap : m.has.length ≤ 4096
  cl : ∀ q, q < m.has.length → m.has.getD q true = false → win m.bs (q * 512) = nz 512
abbrev Pgs (T : Tb) (q : Nat) : Prop := ∃ v, (v, (q : Int)) ∈ T
structure Stp (m : Ms) (T : Tb) (m' : Ms) (T' : Tb) : Prop where
  len : m'.has.length = m.has.length
  bl : m'.bs.length = m.bs.length
  out : ∀ q, q < m.has.length → ¬ Pgs T q → ¬ Pgs T' q → m'.has.getD q true = m.has.getD q true ∧ win m'.bs (q * 512) = win m.bs (q * 512)
  new : ∀ q, Pgs T' q → ¬ Pgs T q → m.has.getD q true = false
  old : ∀ q, Pgs T q → ¬ Pgs T' q → m'.has.getD q true = false
section
variable {m m' m'' : Ms} {T T' T'' : Tb} {k : Nat} {W : List Int}
theorem Stp.refl (m : Ms) (T : Tb) : Stp m T m T := ⟨rfl, rfl, fun _ _ _ _ => ⟨rfl, rfl⟩, fun _ h h' => (h' h).elim, fun _ h h' => (h' h).elim⟩
theorem Stp.trans (h : Stp m T m' T') (k : Stp m' T' m'' T'') (ok : MsOk m) (ok'' : MsOk m'') : Stp m T m'' T'' := by
  refine ⟨k.len.trans h.len, k.bl.trans h.bl, fun q hq h1 h3 => ?_, fun q h3 h1 => ?_, fun q h1 h3 => ?_⟩
  · by_cases h2 : Pgs T' q
    · have e1 := h.new q h2 h1
      have e2 := k.old q h2 h3
      refine ⟨by rw [e1, e2], ?_⟩
      rw [ok.cl q hq e1, ok''.cl q (by rw [k.len, h.len]; exact hq) e2]
    · have e1 := h.out q hq h1 h2
      have e2 := k.out q (by rw [h.len]; exact hq) h2 h3
      exact ⟨e2.1.trans e1.1, e2.2.trans e1.2⟩
  · by_cases h2 : Pgs T' q
    · exact h.new q h2 h1
    · have e2 := k.new q h3 h2
      by_cases hq : q < m.has.length
      · have := (h.out q hq h1 h2).1
        rw [← this]
        exact e2
      · exfalso
        rw [List.getD_eq_getElem?_getD, List.getElem?_eq_none (by rw [h.len]; omega)] at e2
        cases e2
  · by_cases h2 : Pgs T' q
    · exact k.old q h2 h3
    · have e1 := h.old q h1 h2
      by_cases hq : q < m'.has.length
      · rw [(k.out q hq h2 h3).1]; exact e1
      · exfalso
        rw [List.getD_eq_getElem?_getD, List.getElem?_eq_none (by omega)] at e1
        cases e1
end
end Go.Proofs.YtioplfbkfokkfaaGreatDoor
