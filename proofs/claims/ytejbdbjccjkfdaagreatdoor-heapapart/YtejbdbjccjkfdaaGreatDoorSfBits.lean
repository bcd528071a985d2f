/-
  What the document's page does: New, Move.
  The document's page and its arena as one thing of several side by side: what each call leaves of it.
  Shelves as lists of Booleans (true: taken): plain mathematics. Nothing of the program is named here.
  Words of 64 bits: how many are 1, the lowest that is 1, and shelves kept in them (a bit is 1 while its number is free). Plain mathematics: nothing of the program is named here.
-/
import Derived.Test.YtejbdbjccjkfdaaGreatDoorPaRefC
import Derived.Lib.TrailingZeros
namespace Go.Proofs.YtejbdbjccjkfdaaGreatDoor
open Go.RowKit
open An

/-- May a page lie there? -/
abbrev Fits (n : Nat) (x : Int) : Prop := 0 ≤ x ∧ x % 512 = 0 ∧ x + 512 ≤ n
def pmE (n : Nat) (x : Int) : Int := if Fits n x then 0 else 12
def pmS (g : Pg) (n : Nat) (x : Int) : Pg := if Fits n x then ⟨x.toNat, g.kind, g.fresh, g.R, g.D⟩ else g
section
variable {w0 w : World} {Z0 Z : Nat → Prop} {a p r rd wt : Nat} {bs : List UInt8} {ss : List Sp} {g : Pg}
end
end Go.Proofs.YtejbdbjccjkfdaaGreatDoor

namespace Go.Proofs.YtejbdbjccjkfdaaGreatDoor
open Go.RowKit
open An

/-- A call that turns the first one of two things. -/
theorem Both.call {P P' Q : World → (Nat → Prop) → Prop} {w : World} {U : Nat → Prop} (h : Both P Q w U) (hQ : Good Q) {Pr : Program} {F : Nat} {args : Array Value} {R : Ending → Prop}
    (base : ∀ Z, P w Z → Calls Pr F args w fun e w' => R e ∧ ∃ Z', P' w' Z' ∧ Gw w w' Z Z') : Calls Pr F args w fun e w' => R e ∧ ∃ U', Both P' Q w' U' ∧ Gw w w' U U' := by
  obtain ⟨Z, Y, h1, h2, h3, h4, h5, h6⟩ := h
  refine (base Z h1).mono fun e w' ⟨he, Z', g1, g2⟩ => ⟨he, fun i => U i ∨ Z' i, ?_⟩
  have hlt : ∀ i, (U i ∨ Z' i) → i < w'.heap.size := fun i hi => by
    rcases hi with hi | hi
    · exact Nat.lt_of_lt_of_le (h6 i hi) g2.fr.size
    · exact g2.lt i hi
  refine ⟨⟨Z', Y, g1, hQ.carry h2 g2.fr fun i hi e => h3 i e hi, fun i hi hy => ?_, fun _ => .inr, fun i hi => .inl (h5 i hi), hlt⟩, ⟨fun _ => .inl, fun i hi => ?_, hlt, g2.fr.mono fun i _ e => h4 i e⟩⟩
  · rcases g2.new i hi with e | e
    · exact h3 i e hy
    · have := h6 i (h5 i hy); omega
  · rcases hi with hi | hi
    · exact .inl hi
    · rcases g2.new i hi with e | e
      · exact .inl (h4 i e)
      · exact .inr e
theorem Both.fst {P Q : World → (Nat → Prop) → Prop} {w : World} {U : Nat → Prop} (h : Both P Q w U) : ∃ Z, P w Z := by obtain ⟨Z, _, h1, _⟩ := h; exact ⟨Z, h1⟩
/-- The document's page over the arena at r: its own block, and its chains. -/
def Rm (p r : Nat) (g : Pg) (w : World) (Y : Nat → Prop) : Prop := ∃ rd wt, Rw12 w p r g.base g.kind g.fresh (hads g) rd wt ∧ Rch w rd r (g.ck (lnk g.R)) ∧ Rch w wt r (g.ck (lnk g.D)) ∧ (p ≠ rd ∧ p ≠ wt ∧ rd ≠ wt) ∧ (Y p ∧ Y rd ∧ Y wt) ∧ ∀ i, Y i → i < w.heap.size
theorem Rm.good (p r : Nat) (g : Pg) : Good (Rm p r g) :=
  ⟨fun ⟨rd, wt, h1, h2, h3, h4, ⟨h5, h6, h7⟩, h8⟩ f hs => ⟨rd, wt, h1.carry f (hs _ h5), Rch.chain.carry h2 f (hs _ h6), Rch.chain.carry h3 f (hs _ h7), h4, ⟨h5, h6, h7⟩, fun i hi => Nat.lt_of_lt_of_le (h8 i hi) f.size⟩,
   fun ⟨rd, wt, h1, h2, h3, h4, ⟨h5, h6, h7⟩, _⟩ k1 k2 => ⟨rd, wt, h1, h2, h3, h4, ⟨k1 _ h5, k1 _ h6, k1 _ h7⟩, k2⟩⟩
/-- The document's page with its arena. -/
def Ra (r : Nat) (bs : List UInt8) (ss : List Sp) (p : Nat) (g : Pg) : World → (Nat → Prop) → Prop := Both (Am 78 r bs ss) (Rm p r g)
theorem Ra.good (r : Nat) (bs : List UInt8) (ss : List Sp) (p : Nat) (g : Pg) : Good (Ra r bs ss p g) := Both.good (Am.good _ _ _ _) (Rm.good p r g)
section
variable {w w' : World} {U Z Z' : Nat → Prop} {p r rd wt : Nat} {bs bs' : List UInt8} {ss ss' : List Sp} {g g' : Pg}
theorem Ra.into (h : Ra r bs ss p g w U) : ∃ Z rd wt, Rp w Z w p r rd wt Z bs ss g ∧ ((∀ i, Z i → U i) ∧ U p ∧ U rd ∧ U wt) ∧ ∀ i, U i → i < w.heap.size := by
  obtain ⟨Z, Y, h1, ⟨rd, wt, q1, q2, q3, ⟨d1, d2, d3⟩, ⟨y1, y2, y3⟩, _⟩, h3, h4, h5, h6⟩ := h
  exact ⟨Z, rd, wt, ⟨h1, q1, q2, q3, d1, d2, d3, fun e => h3 _ e y1, fun e => h3 _ e y2, fun e => h3 _ e y3, Fr.refl _ _, fun _ => .inl⟩, ⟨h4, h5 _ y1, h5 _ y2, h5 _ y3⟩, h6⟩
theorem Ra.back (hu : (∀ i, Z i → U i) ∧ U p ∧ U rd ∧ U wt) (hl : ∀ i, U i → i < w.heap.size) (h : Rp w Z w' p r rd wt Z' bs' ss' g') : ∃ U', Ra r bs' ss' p g' w' U' ∧ Gw w w' U U' := by
  have hlt : ∀ i, (U i ∨ Z' i) → i < w'.heap.size := fun i hi => by
    rcases hi with hi | hi
    · exact Nat.lt_of_lt_of_le (hl i hi) h.fr.size
    · exact h.am.lt i hi
  refine ⟨fun i => U i ∨ Z' i, ⟨Z', fun i => i = p ∨ i = rd ∨ i = wt, h.am, ⟨rd, wt, h.pw, h.qr, h.qw, ⟨h.d1, h.d2, h.d3⟩, ⟨.inl rfl, .inr (.inl rfl), .inr (.inr rfl)⟩, fun i hi => hlt i ?_⟩, fun i hi e => ?_, fun _ => .inr, fun i hi => .inl ?_, hlt⟩, ⟨fun _ => .inl, fun i hi => ?_, hlt, h.fr.mono fun i _ e => ?_⟩⟩
  · rcases hi with rfl | rfl | rfl
    · exact .inl hu.2.1
    · exact .inl hu.2.2.1
    · exact .inl hu.2.2.2
  · rcases e with rfl | rfl | rfl
    · exact h.z1 hi
    · exact h.z2 hi
    · exact h.z3 hi
  · rcases hi with rfl | rfl | rfl
    · exact hu.2.1
    · exact hu.2.2.1
    · exact hu.2.2.2
  · rcases hi with hi | hi
    · exact .inl hi
    · rcases h.new i hi with e | e
      · exact .inl (hu.1 i e)
      · exact .inr e
  · rcases e with (rfl | rfl | rfl) | e
    · exact hu.2.1
    · exact hu.2.2.1
    · exact hu.2.2.2
    · exact hu.1 i e
end
section
variable {W w : World} {ts : List (World → (Nat → Prop) → Prop)} {p r : Nat} {bs : List UInt8} {ss : List Sp} {g : Pg}
end
end Go.Proofs.YtejbdbjccjkfdaaGreatDoor

namespace Go.Proofs.YtejbdbjccjkfdaaGreatDoor.Sf

/-- The lowest free number; the length, where there is none. -/
def low : List Bool → Nat
  | [] => 0
  | true :: r => low r + 1
  | false :: _ => 0
theorem low_le : ∀ l : List Bool, low l ≤ l.length
  | [] => Nat.le_refl _
  | true :: r => by have := low_le r; simp only [low, List.length_cons]; omega
  | false :: r => by simp only [low, List.length_cons]; omega
theorem low_below : ∀ (l : List Bool) (i : Nat) (_h : i < low l) (hi : i < l.length), l[i] = true
  | true :: r, 0, _, _ => rfl
  | true :: r, i + 1, h, hi => by
    have := low_below r i (by simp only [low] at h; omega) (by simpa using hi)
    simpa using this
  | false :: r, i, h, _ => by simp [low] at h
theorem low_at : ∀ (l : List Bool) (h : low l < l.length), l[low l] = false
  | [], h => by simp at h
  | true :: r, h => by
    have := low_at r (by simpa [low] using h)
    simpa [low] using this
  | false :: r, _ => by simp [low]
/-- It is the only one so. -/
theorem low_unique (l : List Bool) (k : Nat) (hk : k < l.length) (h0 : l[k] = false) (hb : ∀ i (hi : i < k), l[i] = true) : low l = k := by
  rcases Nat.lt_trichotomy (low l) k with h | h | h
  · have h1 := low_at l (by omega)
    have h2 := hb (low l) h
    rw [h1] at h2; cases h2
  · exact h
  · have := low_below l k h hk
    rw [h0] at this; cases this
theorem low_full (l : List Bool) (h : ∀ i (hi : i < l.length), l[i] = true) : low l = l.length := by
  rcases Nat.lt_or_ge (low l) l.length with h1 | h1
  · have h2 := low_at l h1
    rw [h _ h1] at h2; cases h2
  · have := low_le l; omega

/-- How many are free. -/
def frees : List Bool → Nat
  | [] => 0
  | true :: r => frees r
  | false :: r => frees r + 1
theorem frees_le : ∀ l : List Bool, frees l ≤ l.length
  | [] => Nat.le_refl _
  | true :: r => by have := frees_le r; simp only [frees, List.length_cons]; omega
  | false :: r => by have := frees_le r; simp only [frees, List.length_cons]; omega
theorem frees_append : ∀ l m : List Bool, frees (l ++ m) = frees l + frees m
  | [], m => by simp [frees]
  | true :: r, m => by simp [frees, frees_append r m]
  | false :: r, m => by simp [frees, frees_append r m]; omega

/-- What the calls answer, and leave. -/
def lowI (l : List Bool) : Int := if low l < l.length then (low l : Int) else -1
def takV (l : List Bool) : Int := if low l < l.length then (low l : Int) else 0
def takE (l : List Bool) : Int := if low l < l.length then 0 else 13
def takS (l : List Bool) : List Bool := if low l < l.length then l.set (low l) true else l
def hasN (l : List Bool) (k : Int) : Bool := decide (0 ≤ k ∧ k < l.length)
def isT (l : List Bool) (k : Int) : Bool := hasN l k && l.getD k.toNat false
def taE (l : List Bool) (k : Int) : Int := if hasN l k then (if isT l k then 7 else 0) else 12
def taS (l : List Bool) (k : Int) : List Bool := if hasN l k then l.set k.toNat true else l
def giE (l : List Bool) (k : Int) : Int := if hasN l k then (if isT l k then 0 else 13) else 12
def giS (l : List Bool) (k : Int) : List Bool := if hasN l k then l.set k.toNat false else l
theorem takS_length (l : List Bool) : (takS l).length = l.length := by unfold takS; split <;> simp
theorem giS_length (l : List Bool) (k : Int) : (giS l k).length = l.length := by unfold giS; split <;> simp
/-- A number that is taken: to take it again leaves the list as it was. -/
theorem taS_taken (l : List Bool) (k : Int) (h : isT l k = true) : taS l k = l := by
  unfold taS
  split
  · rename_i hn
    simp only [isT, hn, Bool.true_and] at h
    simp only [hasN, decide_eq_true_eq] at hn
    apply List.ext_getElem (by simp)
    intro i h1 h2
    rw [List.getElem_set]
    split
    · rename_i e; subst e
      rw [List.getD_eq_getElem?_getD, List.getElem?_eq_getElem h2] at h
      simpa using h.symm
    · rfl
  · rfl
theorem giS_free (l : List Bool) (k : Int) (h : isT l k = false) : giS l k = l := by
  unfold giS
  split
  · rename_i hn
    simp only [isT, hn, Bool.true_and] at h
    simp only [hasN, decide_eq_true_eq] at hn
    apply List.ext_getElem (by simp)
    intro i h1 h2
    rw [List.getElem_set]
    split
    · rename_i e; subst e
      rw [List.getD_eq_getElem?_getD, List.getElem?_eq_getElem h2] at h
      simpa using h.symm
    · rfl
  · rfl

theorem hasN_iff {l : List Bool} {k : Int} : hasN l k = true ↔ 0 ≤ k ∧ k < l.length := by simp [hasN]
theorem taE_zero {l : List Bool} {k : Int} : taE l k = 0 ↔ hasN l k = true ∧ isT l k = false := by
  unfold taE
  cases hasN l k <;> cases isT l k <;> simp
theorem giE_zero {l : List Bool} {k : Int} : giE l k = 0 ↔ hasN l k = true ∧ isT l k = true := by
  unfold giE
  cases hasN l k <;> cases isT l k <;> simp
/-- A fresh shelf from which k were taken. -/
def fresh (k m : Nat) : List Bool := List.replicate k true ++ List.replicate m false
end Go.Proofs.YtejbdbjccjkfdaaGreatDoor.Sf

namespace Go.Proofs.YtejbdbjccjkfdaaGreatDoor.Sf

/-- How many of the first n bits are 1. -/
def pc : Nat → Nat → Nat
  | 0, _ => 0
  | n + 1, x => x % 2 + pc n (x / 2)
theorem pc_le : ∀ n x : Nat, pc n x ≤ n
  | 0, _ => Nat.le_refl _
  | n + 1, x => by have := pc_le n (x / 2); simp only [pc]; omega
theorem pc_add : ∀ m n x : Nat, pc (m + n) x = pc m x + pc n (x / 2 ^ m)
  | 0, n, x => by simp [pc]
  | m + 1, n, x => by
    rw [show m + 1 + n = (m + n) + 1 by omega]
    simp only [pc]
    rw [pc_add m n (x / 2), Nat.div_div_eq_div_mul, Nat.pow_succ, Nat.mul_comm (2 ^ m) 2]
    omega
theorem pc4 (x : Nat) : pc 4 (x % 16) = pc 4 x := by simp only [pc]; omega

theorem and_digit (k a b u v : Nat) (ha : a < 2 ^ k) (hb : b < 2 ^ k) : (a + 2 ^ k * u) &&& (b + 2 ^ k * v) = (a &&& b) + 2 ^ k * (u &&& v) := by
  have hk : 0 < 2 ^ k := Nat.two_pow_pos k
  have e1 := Nat.and_mod_two_pow (a := a + 2 ^ k * u) (b := b + 2 ^ k * v) (n := k)
  have e2 := Nat.and_div_two_pow (a := a + 2 ^ k * u) (b := b + 2 ^ k * v) (n := k)
  rw [Nat.add_mul_mod_self_left, Nat.add_mul_mod_self_left, Nat.mod_eq_of_lt ha, Nat.mod_eq_of_lt hb] at e1
  rw [Nat.add_mul_div_left _ _ hk, Nat.add_mul_div_left _ _ hk, Nat.div_eq_of_lt ha, Nat.div_eq_of_lt hb, Nat.zero_add, Nat.zero_add] at e2
  have := Nat.mod_add_div ((a + 2 ^ k * u) &&& (b + 2 ^ k * v)) (2 ^ k)
  rw [e1, e2] at this
  exact this.symm
theorem and_nib (a b u v : Nat) (ha : a < 16) (hb : b < 16) : (a + 16 * u) &&& (b + 16 * v) = (a &&& b) + 16 * (u &&& v) := and_digit 4 a b u v ha hb
theorem and_byte (a b u v : Nat) (ha : a < 256) (hb : b < 256) : (a + 256 * u) &&& (b + 256 * v) = (a &&& b) + 256 * (u &&& v) := and_digit 8 a b u v ha hb

/-- A digit again and again. -/
def rep (q m : Nat) : Nat → Nat
  | 0 => 0
  | n + 1 => m + q * rep q m n
/-- Each four bits' count, in these four bits; each eight bits' count, in these eight. -/
def nibs : Nat → Nat → Nat
  | 0, _ => 0
  | n + 1, x => pc 4 x + 16 * nibs n (x / 16)
def byts : Nat → Nat → Nat
  | 0, _ => 0
  | n + 1, x => pc 8 x + 256 * byts n (x / 256)
def st1 (M x : Nat) : Nat := (x / 2 &&& M) + (x &&& M)
def st2 (M x : Nat) : Nat := (x / 4 &&& M) + (x &&& M)
def st3 (M x : Nat) : Nat := (x / 16 + x) &&& M
theorem st1_step (r y M : Nat) (hr : r < 16) : st1 (5 + 16 * M) (r + 16 * y) = ((r / 2 &&& 5) + (r &&& 5)) + 16 * st1 M y := by
  have hd : ∀ r : Fin 16, ∀ p : Fin 2, (r.val / 2 + 8 * p.val) &&& 5 = r.val / 2 &&& 5 := by decide
  have e : (r + 16 * y) / 2 = (r / 2 + 8 * (y % 2)) + 16 * (y / 2) := by omega
  unfold st1
  rw [e, and_nib _ _ _ _ (by omega) (by omega), and_nib _ _ _ _ hr (by omega)]
  have := hd ⟨r, hr⟩ ⟨y % 2, by omega⟩
  simp only at this
  rw [this]
  omega
theorem st2_step (r y M : Nat) (hr : r < 16) : st2 (3 + 16 * M) (r + 16 * y) = ((r / 4 &&& 3) + (r &&& 3)) + 16 * st2 M y := by
  have hd : ∀ r : Fin 16, ∀ p : Fin 4, (r.val / 4 + 4 * p.val) &&& 3 = r.val / 4 &&& 3 := by decide
  have e : (r + 16 * y) / 4 = (r / 4 + 4 * (y % 4)) + 16 * (y / 4) := by omega
  unfold st2
  rw [e, and_nib _ _ _ _ (by omega) (by omega), and_nib _ _ _ _ hr (by omega)]
  have := hd ⟨r, hr⟩ ⟨y % 4, by omega⟩
  simp only at this
  rw [this]
  omega
theorem st12 : ∀ (n x : Nat), x < 16 ^ n → st2 (rep 16 3 n) (st1 (rep 16 5 n) x) = nibs n x
  | 0, x, h => by simp at h; subst h; rfl
  | n + 1, x, h => by
    have hx : x = x % 16 + 16 * (x / 16) := by omega
    have hlt : x / 16 < 16 ^ n := by rw [Nat.pow_succ] at h; omega
    have ih := st12 n (x / 16) hlt
    have h1 : st1 (rep 16 5 (n + 1)) x = ((x % 16 / 2 &&& 5) + (x % 16 &&& 5)) + 16 * st1 (rep 16 5 n) (x / 16) := by
      conv => lhs; rw [hx]
      exact st1_step _ _ _ (by omega)
    have hf : ∀ r : Fin 16, ((r.val / 2 &&& 5) + (r.val &&& 5)) < 16 ∧ ((((r.val / 2 &&& 5) + (r.val &&& 5)) / 4 &&& 3) + (((r.val / 2 &&& 5) + (r.val &&& 5)) &&& 3)) = pc 4 r.val := by decide
    obtain ⟨g1, g2⟩ := hf ⟨x % 16, by omega⟩
    simp only at g1 g2
    rw [h1]
    show st2 (3 + 16 * rep 16 3 n) _ = _
    rw [st2_step _ _ _ g1, g2, ih, pc4]
    rfl
theorem nibs_mod : ∀ n x : Nat, nibs n x % 16 ≤ 4
  | 0, _ => by simp [nibs]
  | n + 1, x => by have := pc_le 4 x; simp only [nibs]; omega
theorem st3_nibs : ∀ (n x : Nat), st3 (rep 256 15 n) (nibs (2 * n) x) = byts n x
  | 0, x => by simp [st3, rep, byts]
  | n + 1, x => by
    have e0 : nibs (2 * (n + 1)) x = pc 4 x + 16 * (pc 4 (x / 16) + 16 * nibs (2 * n) (x / 16 / 16)) := rfl
    have ih := st3_nibs n (x / 16 / 16)
    have a1 := pc_le 4 x
    have a2 := pc_le 4 (x / 16)
    have a3 := nibs_mod (2 * n) (x / 16 / 16)
    have a4 : pc 8 x = pc 4 x + pc 4 (x / 16) := pc_add 4 4 x
    have a5 : x / 16 / 16 = x / 256 := by omega
    rw [a5] at e0 ih a3
    unfold st3 at ih ⊢
    show _ &&& (15 + 256 * rep 256 15 n) = pc 8 x + 256 * byts n (x / 256)
    rw [e0, ← ih]
    generalize nibs (2 * n) (x / 256) = y at *
    have e1 : (pc 4 x + 16 * (pc 4 (x / 16) + 16 * y)) / 16 + (pc 4 x + 16 * (pc 4 (x / 16) + 16 * y)) = (pc 4 x + pc 4 (x / 16) + 16 * (pc 4 (x / 16) + y % 16)) + 256 * (y / 16 + y) := by omega
    rw [e1, and_byte _ _ _ _ (by omega) (by omega), a4]
    have hd : ∀ p : Fin 9, ∀ q : Fin 9, (p.val + 16 * q.val) &&& 15 = p.val := by decide
    have := hd ⟨pc 4 x + pc 4 (x / 16), by omega⟩ ⟨pc 4 (x / 16) + y % 16, by omega⟩
    simp only at this
    rw [this]
/-- What the last steps make of it. -/
theorem div_by (n r q : Nat) (hr : r < n) : (r + n * q) / n = q := by
  rw [Nat.add_mul_div_left _ _ (by omega), Nat.div_eq_of_lt hr, Nat.zero_add]
theorem sum8 (c0 c1 c2 c3 c4 c5 c6 c7 : Nat) (h0 : c0 ≤ 8) (h1 : c1 ≤ 8) (h2 : c2 ≤ 8) (h3 : c3 ≤ 8) (h4 : c4 ≤ 8) (h5 : c5 ≤ 8) (h6 : c6 ≤ 8) (h7 : c7 ≤ 8) (X A B C : Nat)
    (hX : X = c0 + 256 * (c1 + 256 * (c2 + 256 * (c3 + 256 * (c4 + 256 * (c5 + 256 * (c6 + 256 * c7))))))) (hA : A = X + X / 256) (hB : B = A + A / 65536) (hC : C = B + B / 4294967296) :
    C < 18446744073709551616 ∧ C % 128 = c0 + c1 + c2 + c3 + c4 + c5 + c6 + c7 := by
  obtain ⟨Y6, e6, b6⟩ : ∃ Y, Y = c6 + 256 * c7 ∧ Y < 2305 := ⟨_, rfl, by omega⟩
  obtain ⟨Y5, e5, b5⟩ : ∃ Y, Y = c5 + 256 * Y6 ∧ Y < 590081 := ⟨_, rfl, by omega⟩
  obtain ⟨Y4, e4, b4⟩ : ∃ Y, Y = c4 + 256 * Y5 ∧ Y < 151060737 := ⟨_, rfl, by omega⟩
  obtain ⟨Y3, e3, b3⟩ : ∃ Y, Y = c3 + 256 * Y4 ∧ Y < 38671548673 := ⟨_, rfl, by omega⟩
  obtain ⟨Y2, e2, b2⟩ : ∃ Y, Y = c2 + 256 * Y3 ∧ Y < 9899916460289 := ⟨_, rfl, by omega⟩
  obtain ⟨Y1, e1, b1⟩ : ∃ Y, Y = c1 + 256 * Y2 ∧ Y < 2534378613833985 := ⟨_, rfl, by omega⟩
  rw [← e6, ← e5, ← e4, ← e3, ← e2, ← e1] at hX
  have d1 : X / 256 = Y1 := by rw [hX]; exact div_by 256 c0 Y1 (by omega)
  rw [d1] at hA
  have f1 : A = ((c0 + c1) + 256 * (c1 + c2)) + 65536 * (Y2 + Y3) := by subst hA hX; clear hB hC d1 b1 b2 b3 b4 b5 b6 h0 h1 h2 h3 h4 h5 h6 h7 e4 e5 e6; rw [e1, e2]; omega
  have d2 : A / 65536 = Y2 + Y3 := by rw [f1]; exact div_by 65536 _ _ (by clear hA hB hC hX d1 f1 e1 e2 e3 e4 e5 e6 b1 b2 b3 b4 b5 b6; omega)
  rw [d2] at hB
  have f2 : B = ((c0 + c1 + c2 + c3) + 256 * ((c1 + c2 + c3 + c4) + 256 * ((c2 + c3 + c4 + c5) + 256 * (c3 + c4 + c5 + c6)))) + 4294967296 * (Y4 + Y5 + Y6 + c7) := by
    clear hA hC hX d1 d2 e1 b1 b2 b3 b4 b5 b6 h0 h1 h2 h3 h4 h5 h6 h7; rw [hB, f1, e2, e3, e4, e5, e6]; omega
  have d3 : B / 4294967296 = Y4 + Y5 + Y6 + c7 := by rw [f2]; exact div_by 4294967296 _ _ (by clear hA hB hC hX d1 d2 f1 f2 e1 e2 e3 e4 e5 e6 b1 b2 b3 b4 b5 b6; omega)
  rw [d3] at hC
  have f3 : C = (c0 + c1 + c2 + c3 + c4 + c5 + c6 + c7) + 128 * (2 * (Y1 + Y2 + Y3 + Y4 + Y5 + Y6 + c7)) := by
    clear d1 d2 d3 f1 f2 b1 b2 b3 b4 b5 b6 h0 h1 h2 h3 h4 h5 h6 h7; rw [hC, hB, hA, hX]; omega
  refine ⟨by clear hA hB hC hX d1 d2 d3 f1 f2 e1 e2 e3 e4 e5 e6; omega, ?_⟩
  rw [f3, Nat.add_mul_mod_self_left, Nat.mod_eq_of_lt (by clear hA hB hC hX d1 d2 d3 f1 f2 f3 e1 e2 e3 e4 e5 e6 b1 b2 b3 b4 b5 b6; omega)]
/-- THE COUNT AS math/bits HAS IT. -/
theorem swar (x : Nat) (hx : x < 18446744073709551616) :
    let a := st1 6148914691236517205 x
    let b := st2 3689348814741910323 a
    let c := st3 1085102592571150095 b
    let d := c + c / 256
    let e := d + d / 65536
    let f := e + e / 4294967296
    a < 18446744073709551616 ∧ b < 18446744073709551616 ∧ b / 16 + b < 18446744073709551616 ∧ f < 18446744073709551616 ∧ f % 128 = pc 64 x := by
  intro a b c d e f
  have m1 : rep 16 5 16 = 6148914691236517205 := by decide
  have m2 : rep 16 3 16 = 3689348814741910323 := by decide
  have m3 : rep 256 15 8 = 1085102592571150095 := by decide
  have hb : b = nibs 16 x := by
    show st2 _ (st1 _ x) = _
    rw [← m1, ← m2]; exact st12 16 x (by omega)
  have hc : c = byts 8 x := by
    show st3 _ b = _
    rw [hb, ← m3]; exact st3_nibs 8 x
  have ha : a < 18446744073709551616 := by
    have h1 : x / 2 &&& 6148914691236517205 ≤ 6148914691236517205 := Nat.and_le_right
    have h2 : x &&& 6148914691236517205 ≤ 6148914691236517205 := Nat.and_le_right
    show (x / 2 &&& 6148914691236517205) + (x &&& 6148914691236517205) < _
    omega
  have hb' : b ≤ 7378697629483820646 := by
    have h1 : a / 4 &&& 3689348814741910323 ≤ 3689348814741910323 := Nat.and_le_right
    have h2 : a &&& 3689348814741910323 ≤ 3689348814741910323 := Nat.and_le_right
    show (a / 4 &&& 3689348814741910323) + (a &&& 3689348814741910323) ≤ _
    omega
  have hs := sum8 (pc 8 x) (pc 8 (x / 256)) (pc 8 (x / 256 / 256)) (pc 8 (x / 256 / 256 / 256)) (pc 8 (x / 256 / 256 / 256 / 256)) (pc 8 (x / 256 / 256 / 256 / 256 / 256)) (pc 8 (x / 256 / 256 / 256 / 256 / 256 / 256)) (pc 8 (x / 256 / 256 / 256 / 256 / 256 / 256 / 256))
    (pc_le 8 _) (pc_le 8 _) (pc_le 8 _) (pc_le 8 _) (pc_le 8 _) (pc_le 8 _) (pc_le 8 _) (pc_le 8 _) c d e f (by rw [hc]; simp only [byts]; omega) rfl rfl rfl
  refine ⟨ha, by omega, by omega, hs.1, ?_⟩
  rw [hs.2]
  have p (n y : Nat) : pc (8 + n) y = pc 8 y + pc n (y / 256) := pc_add 8 n y
  rw [show (64 : Nat) = 8 + (8 + (8 + (8 + (8 + (8 + (8 + (8 + 0))))))) from rfl]
  simp only [p]
  simp only [pc]
  omega

/-- A shelf in words. -/
structure Bits (ws : List Nat) (has : List Bool) : Prop where
  len : ws.length = (has.length + 63) / 64
  lt : ∀ j (h : j < ws.length), ws[j] < 18446744073709551616
  bit : ∀ j (h : j < ws.length) i, i < 64 → ws[j].testBit i = !(has.getD (64 * j + i) true)

theorem testBit_pc : ∀ (n x : Nat) (l : List Bool), (∀ i, i < n → x.testBit i = !(l.getD i true)) → pc n x = frees (l.take n)
  | 0, x, l, _ => by simp [pc, frees]
  | n + 1, x, l, h => by
    have h0 := h 0 (by omega)
    have ih := testBit_pc n (x / 2) l.tail (fun i hi => by
      rw [← Nat.testBit_succ, h (i + 1) (by omega)]
      cases l <;> simp)
    rw [Nat.testBit_zero] at h0
    simp only [pc]
    rw [ih]
    cases l with
    | nil =>
      simp at h0
      simp [frees]
      omega
    | cons c r =>
      simp only [List.tail_cons, List.take_succ_cons]
      cases c
      · simp at h0; simp only [frees]; omega
      · simp at h0; simp only [frees]; omega
theorem ctz_bits (x : Nat) (h0 : x ≠ 0) (h : x < 18446744073709551616) : Lib.ctz 64 x < 64 ∧ x.testBit (Lib.ctz 64 x) = true ∧ ∀ i, i < Lib.ctz 64 x → x.testBit i = false := by
  obtain ⟨m, hm, hk⟩ := Lib.ctzFrom_spec 64 x (by omega) h
  have e : Lib.ctz 64 x = Lib.ctzFrom 64 x := by simp [Lib.ctz, h0]
  rw [e]
  generalize Lib.ctzFrom 64 x = c at *
  refine ⟨hk, ?_, fun i hi => ?_⟩
  · rw [hm, Nat.mul_comm, Nat.testBit_mul_two_pow]; simp
  · rw [hm, Nat.mul_comm, Nat.testBit_mul_two_pow]
    have : ¬ c ≤ i := by omega
    simp [this]
theorem getD_true_iff (l : List Bool) (i : Nat) : l.getD i true = false ↔ ∃ h : i < l.length, l[i] = false := by
  rw [List.getD_eq_getElem?_getD]
  rcases Nat.lt_or_ge i l.length with h | h
  · rw [List.getElem?_eq_getElem h]; simp [h]
  · rw [List.getElem?_eq_none h]; simp; omega
section
variable {ws : List Nat} {has : List Bool}
/-- A word that is 0: none of its numbers is free. -/
theorem Bits.zero (B : Bits ws has) (j : Nat) (hj : j < ws.length) (h0 : ws[j] = 0) (i : Nat) (hi : i < 64) (hl : 64 * j + i < has.length) : has[64 * j + i] = true := by
  have := B.bit j hj i hi
  rw [h0, Nat.zero_testBit, List.getD_eq_getElem?_getD, List.getElem?_eq_getElem hl] at this
  simpa using this
/-- The first word that is not 0 tells the lowest free number. -/
theorem Bits.lowest (B : Bits ws has) (j : Nat) (hj : j < ws.length) (h0 : ws[j] ≠ 0) (hb : ∀ i (_ : i < 64 * j) (hl : i < has.length), has[i] = true) : low has = 64 * j + Lib.ctz 64 ws[j] ∧ low has < has.length := by
  obtain ⟨h1, h2, h3⟩ := ctz_bits ws[j] h0 (B.lt j hj)
  rw [B.bit j hj _ h1] at h2
  have h2' : has.getD (64 * j + Lib.ctz 64 ws[j]) true = false := by simpa using h2
  obtain ⟨hl, he⟩ := (getD_true_iff _ _).1 h2'
  have := low_unique has (64 * j + Lib.ctz 64 ws[j]) hl he (fun i hi => by
    rcases Nat.lt_or_ge i (64 * j) with h | h
    · exact hb i h (by omega)
    · have hb1 := h3 (i - 64 * j) (by omega)
      rw [B.bit j hj _ (by omega), show 64 * j + (i - 64 * j) = i by omega, List.getD_eq_getElem?_getD, List.getElem?_eq_getElem (by omega)] at hb1
      simpa using hb1)
  exact ⟨this, by omega⟩
theorem Bits.full (B : Bits ws has) (hb : ∀ i (_ : i < 64 * ws.length) (hl : i < has.length), has[i] = true) : low has = has.length :=
  low_full has (fun i hi => hb i (by have := B.len; omega) hi)
/-- As many are free as the words have bits. -/
theorem Bits.count (B : Bits ws has) (j : Nat) (hj : j < ws.length) : frees (has.take (64 * (j + 1))) = frees (has.take (64 * j)) + pc 64 ws[j] := by
  rw [testBit_pc 64 ws[j] (has.drop (64 * j)) (fun i hi => by
    rw [B.bit j hj i hi, List.getD_eq_getElem?_getD, List.getD_eq_getElem?_getD, List.getElem?_drop]), ← frees_append]
  rw [show 64 * (j + 1) = 64 * j + 64 by omega, List.take_add]
theorem Bits.all (B : Bits ws has) : has.take (64 * ws.length) = has := List.take_of_length_le (by have := B.len; omega)
/-- A bit turned. -/
theorem Bits.turn (B : Bits ws has) (k : Nat) (hk : k < has.length) (hj : k / 64 < ws.length) : Bits (ws.set (k / 64) (ws[k / 64] ^^^ 2 ^ (k % 64))) (has.set k (!has[k])) := by
  refine ⟨by simpa using B.len, fun j h => ?_, fun j h i hi => ?_⟩
  · rw [List.getElem_set]
    split
    · have h1 := B.lt (k / 64) hj
      have h2 : 2 ^ (k % 64) < 2 ^ 64 := Nat.pow_lt_pow_right (by decide) (by omega)
      exact Nat.xor_lt_two_pow (n := 64) h1 h2
    · exact B.lt j (by simpa using h)
  · have hjl : j < ws.length := by simpa using h
    rw [List.getElem_set]
    have hg : (has.set k (!has[k])).getD (64 * j + i) true = if k = 64 * j + i then !has[k] else has.getD (64 * j + i) true := by
      rw [List.getD_eq_getElem?_getD, List.getD_eq_getElem?_getD, List.getElem?_set]
      split <;> simp_all
    rw [hg]
    split
    · rename_i e
      subst e
      rw [Nat.testBit_xor, Nat.testBit_two_pow, B.bit _ hj i hi]
      by_cases e2 : k % 64 = i
      · have e3 : k = 64 * (k / 64) + i := by omega
        rw [if_pos e3, ← e3, List.getD_eq_getElem?_getD, List.getElem?_eq_getElem hk]
        simp [e2]
      · rw [if_neg (by omega)]
        simp [e2]
    · rw [if_neg (by omega), B.bit j hjl i hi]
/-- One bit asked. -/
theorem Bits.asked (B : Bits ws has) (k : Nat) (hk : k < has.length) (hj : k / 64 < ws.length) : decide (ws[k / 64] &&& 2 ^ (k % 64) = 0) = has[k] := by
  have h1 := B.bit (k / 64) hj (k % 64) (by omega)
  rw [show 64 * (k / 64) + k % 64 = k by omega, List.getD_eq_getElem?_getD, List.getElem?_eq_getElem hk] at h1
  simp only [Option.getD_some] at h1
  cases hh : has[k]
  · rw [hh] at h1
    have : (ws[k / 64] &&& 2 ^ (k % 64)).testBit (k % 64) = true := by rw [Nat.testBit_and, h1]; simp
    simp only [decide_eq_false_iff_not]
    intro h0
    rw [h0] at this
    simp at this
  · rw [hh] at h1
    simp only [decide_eq_true_eq]
    apply Nat.eq_of_testBit_eq
    intro i
    rw [Nat.testBit_and, Nat.testBit_two_pow, Nat.zero_testBit]
    by_cases e : k % 64 = i
    · rw [← e, h1]; simp
    · simp [e]
end
/-- Words that are all 0: a shelf of which all are taken. -/
theorem Bits.zeroes (n : Nat) : Bits (List.replicate ((n + 63) / 64) 0) (List.replicate n true) := by
  refine ⟨by simp, fun j h => by simp, fun j h i hi => ?_⟩
  rw [List.getElem_replicate, Nat.zero_testBit, List.getD_eq_getElem?_getD, List.getElem?_replicate]
  split <;> simp
end Go.Proofs.YtejbdbjccjkfdaaGreatDoor.Sf
