/-
  Places of blocks as the document has them: plain mathematics. Nothing of the program is named here.
  Places as complex numbers: words that are whole numbers between two others. Plain mathematics: nothing of the program is named here.
-/
import Derived.Test.YtcajdbklchjkkaaClBase
import Derived.Test.YtcajdbklchjkkaaSuTrunc
namespace Go.Proofs.Ytcajdbklchjkkaa

/-- How many slots a kind has; how many numbers a slot has; how many bytes. -/
def slI (c : Int) : Int := if 0 ≤ c ∧ c ≤ 23 then 256 / pagesI c else 0
def nuI (c : Int) : Int := if perI c < 1 then 1 else perI c
def sbI (c : Int) : Int := pagesI c * 512
/-- Is there such a block? -/
abbrev PlT (c s k : Int) : Prop := 0 ≤ s ∧ s < slI c ∧ 0 ≤ k ∧ k < nuI c
/-- Where it begins. -/
def adI (c s k : Int) : Int := (c + 1) * 131072 + s * sbI c + k * unitI c
def ofA (c s k : Int) : Int := if PlT c s k then adI c s k else 0
def ofE (c s k : Int) : Int := if PlT c s k then 0 else 12
/-- What Find says of an address. -/
def FindR (a c s k E : Int) : Prop := (E = 0 ∧ PlT c s k ∧ adI c s k = a) ∨ (E = 4 ∧ (c = 0 ∧ s = 0 ∧ k = 0) ∧ ∀ x y z, PlT x y z → adI x y z ≠ a)
/-- The window. -/
abbrev Win (a : Int) : Prop := 131072 ≤ a ∧ a < 3276800
abbrev InW (a n : Int) : Prop := 0 ≤ n ∧ 131072 ≤ a ∧ a ≤ 3276800 ∧ n ≤ 3276800 - a

theorem kinds {P : Int → Prop} (h : ∀ a : Fin 24, P (a.val : Int)) {c : Int} (h0 : 0 ≤ c) (h1 : c ≤ 23) : P c := by
  obtain ⟨a, rfl⟩ := fin24 c h0 h1
  exact h a
/-- Of a kind: its slots' bytes, its slots, its numbers, its unit, its alignment. -/
theorem pl_facts {c : Int} (h0 : 0 ≤ c) (h1 : c ≤ 23) : (512 ≤ sbI c ∧ sbI c ≤ 8192) ∧ (1 ≤ slI c ∧ slI c ≤ 256 ∧ slI c * sbI c ≤ 131072) ∧ (1 ≤ nuI c ∧ nuI c ≤ 32) ∧ (16 ≤ unitI c ∧ unitI c ≤ 8192 ∧ nuI c * unitI c ≤ sbI c) ∧ (8 ≤ alignI c ∧ alignI c ≤ 512 ∧ sbI c % alignI c = 0 ∧ unitI c % alignI c = 0 ∧ (131072 : Int) % alignI c = 0) ∧ (1 ≤ pagesI c ∧ pagesI c ≤ 16) :=
  kinds (P := fun c => (512 ≤ sbI c ∧ sbI c ≤ 8192) ∧ (1 ≤ slI c ∧ slI c ≤ 256 ∧ slI c * sbI c ≤ 131072) ∧ (1 ≤ nuI c ∧ nuI c ≤ 32) ∧ (16 ≤ unitI c ∧ unitI c ≤ 8192 ∧ nuI c * unitI c ≤ sbI c) ∧ (8 ≤ alignI c ∧ alignI c ≤ 512 ∧ sbI c % alignI c = 0 ∧ unitI c % alignI c = 0 ∧ (131072 : Int) % alignI c = 0) ∧ (1 ≤ pagesI c ∧ pagesI c ≤ 16)) (by decide +kernel) h0 h1
theorem slI_none {c : Int} (h : c < 0 ∨ 23 < c) : slI c = 0 := if_neg (by omega)
theorem PlT.kind {c s k : Int} (h : PlT c s k) : 0 ≤ c ∧ c ≤ 23 := by
  by_cases hc : c < 0 ∨ 23 < c
  · have := slI_none hc
    obtain ⟨h1, h2, _⟩ := h
    omega
  · omega
/-- A number of things, each so long, one behind the other. -/
theorem lies {n m u : Int} (h0 : 0 ≤ n) (h1 : n < m) (hu : 0 ≤ u) : 0 ≤ n * u ∧ n * u + u ≤ m * u := by
  refine ⟨Int.mul_nonneg h0 hu, ?_⟩
  have h := Int.mul_le_mul_of_nonneg_right (show n + 1 ≤ m by omega) hu
  rw [Int.add_mul, Int.one_mul] at h
  exact h
/-- Where a block lies in its region, and in its slot. -/
theorem PlT.lies {c s k : Int} (h : PlT c s k) : (0 ≤ s * sbI c ∧ s * sbI c + sbI c ≤ 131072) ∧ (0 ≤ k * unitI c ∧ k * unitI c + unitI c ≤ sbI c) := by
  obtain ⟨c0, c1⟩ := h.kind
  obtain ⟨f1, f2, f3, f4, _⟩ := pl_facts c0 c1
  obtain ⟨h1, h2, h3, h4⟩ := h
  have l1 := Proofs.Ytcajdbklchjkkaa.lies h1 h2 (u := sbI c) (by omega)
  have l2 := Proofs.Ytcajdbklchjkkaa.lies h3 h4 (u := unitI c) (by omega)
  omega
theorem PlT.inside {c s k : Int} (h : PlT c s k) : (c + 1) * 131072 ≤ adI c s k ∧ adI c s k + unitI c ≤ (c + 2) * 131072 ∧ 131072 ≤ adI c s k ∧ adI c s k + unitI c ≤ 3276800 := by
  obtain ⟨c0, c1⟩ := h.kind
  have := h.lies
  unfold adI
  omega
theorem PlT.region {c s k : Int} (h : PlT c s k) : adI c s k / 131072 = c + 1 ∧ (adI c s k + unitI c - 1) / 131072 = c + 1 := by
  obtain ⟨c0, c1⟩ := h.kind
  have hi := h.inside
  have := (pl_facts c0 c1).2.2.2.1
  omega
theorem PlT.win {c s k : Int} (h : PlT c s k) : Win (adI c s k) := by
  have hi := h.inside
  have := (pl_facts h.kind.1 h.kind.2).2.2.2.1
  omega
theorem dv0 {a b : Int} (h : a % b = 0) : b ∣ a := Int.dvd_of_emod_eq_zero h
theorem PlT.align {c s k : Int} (h : PlT c s k) : adI c s k % alignI c = 0 := by
  obtain ⟨c0, c1⟩ := h.kind
  obtain ⟨_, _, _, _, ⟨_, _, a1, a2, a3⟩, _⟩ := pl_facts c0 c1
  unfold adI
  exact Int.emod_eq_zero_of_dvd (Int.dvd_add (Int.dvd_add (Int.dvd_mul_of_dvd_right (dv0 a3)) (Int.dvd_mul_of_dvd_right (dv0 a1))) (Int.dvd_mul_of_dvd_right (dv0 a2)))
/-- Blocks of one kind rise by slots and numbers. -/
theorem PlT.rises {c s k s' k' : Int} (h : PlT c s k) (h' : PlT c s' k') (hl : s < s' ∨ s = s' ∧ k < k') : adI c s k + unitI c ≤ adI c s' k' := by
  obtain ⟨c0, c1⟩ := h.kind
  obtain ⟨f1, _, _, f4, _⟩ := pl_facts c0 c1
  have l1 := h.lies
  have l2 := h'.lies
  unfold adI
  rcases hl with hl | ⟨rfl, hl⟩
  · have := Proofs.Ytcajdbklchjkkaa.lies h.1 hl (u := sbI c) (by omega)
    omega
  · have := Proofs.Ytcajdbklchjkkaa.lies h.2.2.1 hl (u := unitI c) (by omega)
    omega
theorem PlT.lt_iff {c s k s' k' : Int} (h : PlT c s k) (h' : PlT c s' k') : adI c s k < adI c s' k' ↔ (s < s' ∨ s = s' ∧ k < k') := by
  obtain ⟨c0, c1⟩ := h.kind
  have hu := (pl_facts c0 c1).2.2.2.1
  constructor
  · intro hl
    by_cases hh : s < s' ∨ s = s' ∧ k < k'
    · exact hh
    · by_cases e : s = s' ∧ k = k'
      · obtain ⟨rfl, rfl⟩ := e; omega
      · have := PlT.rises h' h (by omega)
        omega
  · intro hl
    have := h.rises h' hl
    omega
/-- Blocks that aren't the same lie apart. -/
theorem PlT.apart {c s k c' s' k' : Int} (h : PlT c s k) (h' : PlT c' s' k') (hne : ¬ (c = c' ∧ s = s' ∧ k = k')) : adI c s k + unitI c ≤ adI c' s' k' ∨ adI c' s' k' + unitI c' ≤ adI c s k := by
  have i1 := h.inside
  have i2 := h'.inside
  by_cases e : c = c'
  · subst e
    by_cases hl : s < s' ∨ s = s' ∧ k < k'
    · exact .inl (h.rises h' hl)
    · exact .inr (h'.rises h (by omega))
  · omega
theorem PlT.same {c s k c' s' k' : Int} (h : PlT c s k) (h' : PlT c' s' k') (e : adI c s k = adI c' s' k') : c = c' ∧ s = s' ∧ k = k' := by
  by_cases hh : c = c' ∧ s = s' ∧ k = k'
  · exact hh
  · have a := h.apart h' hh
    have u1 := (pl_facts h.kind.1 h.kind.2).2.2.2.1
    have u2 := (pl_facts h'.kind.1 h'.kind.2).2.2.2.1
    omega
/-- Find has one answer alone. -/
theorem FindR.one {a c s k E c' s' k' E' : Int} (h : FindR a c s k E) (h' : FindR a c' s' k' E') : c = c' ∧ s = s' ∧ k = k' ∧ E = E' := by
  rcases h with ⟨h1, h2, h3⟩ | ⟨h1, ⟨h2, h3, h4⟩, h5⟩
  · rcases h' with ⟨k1, k2, k3⟩ | ⟨k1, _, k5⟩
    · obtain ⟨e1, e2, e3⟩ := h2.same k2 (h3.trans k3.symm)
      exact ⟨e1, e2, e3, by omega⟩
    · exact absurd h3 (k5 _ _ _ h2)
  · rcases h' with ⟨k1, k2, k3⟩ | ⟨k1, ⟨k2, k3, k4⟩, _⟩
    · exact absurd k3 (h5 _ _ _ k2)
    · omega
theorem FindR.err {a c s k E : Int} (h : FindR a c s k E) : E = 0 ∨ E = 4 := by
  rcases h with h | h
  · exact .inl h.1
  · exact .inr h.1
theorem findR_of {c s k : Int} (h : PlT c s k) : FindR (adI c s k) c s k 0 := .inl ⟨rfl, h, rfl⟩
/-- The block that begins there, if one does. -/
theorem findR_some (a : Int) : ∃ c s k E, FindR a c s k E := by
  by_cases h : ∃ c s k, PlT c s k ∧ adI c s k = a
  · obtain ⟨c, s, k, h1, h2⟩ := h
    exact ⟨c, s, k, 0, .inl ⟨rfl, h1, h2⟩⟩
  · exact ⟨0, 0, 0, 4, .inr ⟨rfl, ⟨rfl, rfl, rfl⟩, fun x y z h1 h2 => h ⟨x, y, z, h1, h2⟩⟩⟩
/-- It can only be of the kind whose region it is. -/
theorem PlT.of_addr {c s k a : Int} (h : PlT c s k) (e : adI c s k = a) : c = a / 131072 - 1 ∧ 131072 ≤ a ∧ a < 3276800 := by
  have h1 := h.region
  have h2 := h.inside
  have u1 := (pl_facts h.kind.1 h.kind.2).2.2.2.1
  subst e
  omega
end Go.Proofs.Ytcajdbklchjkkaa

namespace Go.Proofs.Ytcajdbklchjkkaa
open Ieee

/-- At least; below. -/
def geB (x c : Nat) : Bool := FloatKind.f64.format.order x c == some .gt || FloatKind.f64.format.order x c == some .eq
def ltB (x c : Nat) : Bool := FloatKind.f64.format.order x c == some .lt
/-- Is it the word of a whole number from L up to (not with) T? -/
def whB (x : Nat) (L T : Int) : Bool := geB x (fb L) && ltB x (fb T) && (match floatToIntVal .f64 x .i64 with | some q => FloatKind.f64.format.order (fb q) x == some .eq | none => false)
/-- A word between two whole numbers, the lesser not below 0: its whole part lies between them, too. -/
theorem raw_mid (x : Nat) (L T : Int) (hL0 : 0 ≤ L) (hL : L < 9007199254740992) (hT0 : 0 ≤ T) (hT : T < 9007199254740992) (h1 : geB x (fb L) = true) (h2 : ltB x (fb T) = true) :
    ∃ q : Int, floatToIntVal .f64 x .i64 = some q ∧ L ≤ q ∧ q < T := by
  have i0 := Is.fb L (by omega)
  have iT := Is.fb T (by omega)
  have h1' : ((double.read x).order (double.read (fb L)) == some .gt || (double.read x).order (double.read (fb L)) == some .eq) = true := h1
  have h2' : ((double.read x).order (double.read (fb T)) == some .lt) = true := h2
  clear h1 h2
  unfold floatToIntVal
  show ∃ q : Int, (match (double.read x).toInt .zero with | some n => if IntKind.i64.min ≤ n ∧ n ≤ IntKind.i64.max then some n else none | none => none) = some q ∧ _
  generalize double.read x = d at *
  cases d with
  | infinity s =>
    obtain ⟨s', m', i', K', e', _⟩ := i0
    obtain ⟨s2, m2, i2, K2, e2, _⟩ := iT
    rw [e'] at h1'; rw [e2] at h2'
    cases s <;> simp [Datum.order] at h1' h2'
  | nan s f => simp [Datum.order] at h1'
  | number s m i =>
    have hK : 0 ≤ i + ((-i).toNat : Int) := by omega
    rw [order_val hK i0] at h1'
    rw [order_val hK iT] at h2'
    simp only [Option.some_beq_some] at h1' h2'
    rw [cmp_ge, decide_eq_true_eq] at h1'
    have h2' : signed s m (i + ((-i).toNat : Int)).toNat < T * 2 ^ (-i).toNat := by
      have := eq_of_beq h2'
      rw [Int.compare_eq_lt] at this
      exact this
    rw [show (i + ((-i).toNat : Int)).toNat = i.toNat by omega] at h1' h2'
    rw [toInt_number]
    generalize (-i).toNat = K at *
    have e1 : IntKind.i64.min = -9223372036854775808 := by decide +kernel
    have e2 : IntKind.i64.max = 9223372036854775807 := by decide +kernel
    have eL : (L * 2 ^ K) = ((L.toNat * 2 ^ K : Nat) : Int) := by
      rw [Int.natCast_mul, Int.natCast_pow, show ((L.toNat : Nat) : Int) = L by omega]; rfl
    have eT : (T * 2 ^ K) = ((T.toNat * 2 ^ K : Nat) : Int) := by
      rw [Int.natCast_mul, Int.natCast_pow, show ((T.toNat : Nat) : Int) = T by omega]; rfl
    rw [eL] at h1'
    rw [eT] at h2'
    have hq : L ≤ signed s (m * 2 ^ i.toNat / 2 ^ K) 0 ∧ signed s (m * 2 ^ i.toNat / 2 ^ K) 0 < T := by
      unfold signed at h1' h2' ⊢
      rw [Nat.shiftLeft_eq] at h1' h2'
      rw [Nat.shiftLeft_zero]
      cases s
      · rw [if_neg (by decide)] at h1' h2' ⊢
        have a1 : L.toNat ≤ m * 2 ^ i.toNat / 2 ^ K := (Nat.le_div_iff_mul_le (Nat.two_pow_pos K)).2 (by omega)
        have a2 : m * 2 ^ i.toNat / 2 ^ K < T.toNat := (Nat.div_lt_iff_lt_mul (Nat.two_pow_pos K)).2 (by omega)
        generalize m * 2 ^ i.toNat / 2 ^ K = z at *
        omega
      · rw [if_pos rfl] at h1' h2' ⊢
        have hz : m * 2 ^ i.toNat = 0 := by omega
        rw [hz] at h2' ⊢
        have hLz : L.toNat * 2 ^ K = 0 := by omega
        have hL2 : L.toNat = 0 := by
          rcases Nat.mul_eq_zero.1 hLz with e | e
          · exact e
          · have := Nat.two_pow_pos K; omega
        have hT2 : T.toNat ≠ 0 := fun e => by rw [e, Nat.zero_mul] at h2'; omega
        rw [Nat.zero_div]
        omega
    generalize signed s (m * 2 ^ i.toNat / 2 ^ K) 0 = q at *
    refine ⟨q, ?_, hq.1, hq.2⟩
    simp only [e1, e2]
    rw [if_pos (by omega)]
theorem whB_parts {x : Nat} {L T : Int} (hL0 : 0 ≤ L) (hL : L < 9007199254740992) (hT0 : 0 ≤ T) (hT : T < 9007199254740992) (h : whB x L T = true) : ∃ q : Int, floatToIntVal .f64 x .i64 = some q ∧ (L ≤ q ∧ q < T) ∧ (FloatKind.f64.format.order (fb q) x == some .eq) = true ∧ geB x (fb L) = true ∧ ltB x (fb T) = true := by
  unfold whB at h
  rw [Bool.and_eq_true, Bool.and_eq_true] at h
  obtain ⟨⟨h1, h2⟩, h3⟩ := h
  obtain ⟨q, hq, hb⟩ := raw_mid x L T hL0 hL hT0 hT h1 h2
  rw [hq] at h3
  exact ⟨q, hq, hb, h3, h1, h2⟩
theorem fb256 : (4643211215818981376 : Nat) = fb 256 := by decide +kernel
theorem fb6400 : (4663758889118859264 : Nat) = fb 6400 := by decide +kernel
theorem fb512 : (4647714815446351872 : Nat) = fb 512 := by decide +kernel
end Go.Proofs.Ytcajdbklchjkkaa
