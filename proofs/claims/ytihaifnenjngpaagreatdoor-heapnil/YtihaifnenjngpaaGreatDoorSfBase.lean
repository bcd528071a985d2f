/-
  The document's page and its arena as one thing of several side by side: what each call leaves of it.
  Shelves as lists of Booleans (true: taken): plain mathematics. Nothing of the program is named here.
-/
import Derived.Test.YtihaifnenjngpaaGreatDoorPaRefD
namespace Go.Proofs.YtihaifnenjngpaaGreatDoor
open Go.RowKit
open An

/-- A call that turns the first one of two things. -/
theorem Both.call {P P' Q : World → (Nat → Prop) → Prop} {w : World} {U : Nat → Prop} (h : Both P Q w U) (hQ : Good Q) {Pr : Program} {F : Nat} {args : Array Value} {R : Ending → Prop}
    (base : ∀ Z, P w Z → Calls Pr F args w fun e w' => R e ∧ ∃ Z', P' w' Z' ∧ Gw w w' Z Z') : Calls Pr F args w fun e w' => R e ∧ ∃ U', Both P' Q w' U' ∧ Gw w w' U U' := by
  obtain ⟨Z, Y, h1, h2, h3, h4, h5, h6⟩ := h
  refine (base Z h1).mono fun e w' ⟨he, Z', g1, g2⟩ => ⟨he, fun i => U i ∨ Z' i, ?_⟩
  have hlt : ∀ i, (U i ∨ Z' i) → i < w'.heap.size := fun i hi => by
    rcases hi with hi | hi
    · exact Nat.lt_of_lt_of_le (h6 i hi) g2.fr.size
    · exact g2.lt i hi
  refine ⟨⟨Z', Y, g1, hQ.carry h2 g2.fr fun i hi e => h3 i e hi, fun i hi hy => ?_, fun _ => .inr, fun i hi => .inl (h5 i hi), hlt⟩, ⟨fun _ => .inl, fun i hi => ?_, hlt, g2.fr.mono fun i _ e => h4 i e⟩⟩
  · rcases g2.new i hi with e | e
    · exact h3 i e hy
    · have := h6 i (h5 i hy); omega
  · rcases hi with hi | hi
    · exact .inl hi
    · rcases g2.new i hi with e | e
      · exact .inl (h4 i e)
      · exact .inr e
theorem Both.fst {P Q : World → (Nat → Prop) → Prop} {w : World} {U : Nat → Prop} (h : Both P Q w U) : ∃ Z, P w Z := by obtain ⟨Z, _, h1, _⟩ := h; exact ⟨Z, h1⟩
/-- The document's page over the arena at r: its own block, and its chains. -/
def Rm (p r : Nat) (g : Pg) (w : World) (Y : Nat → Prop) : Prop := ∃ rd wt, Rw12 w p r g.base g.kind g.fresh (hads g) rd wt ∧ Rch w rd r (g.ck (lnk g.R)) ∧ Rch w wt r (g.ck (lnk g.D)) ∧ (p ≠ rd ∧ p ≠ wt ∧ rd ≠ wt) ∧ (Y p ∧ Y rd ∧ Y wt) ∧ ∀ i, Y i → i < w.heap.size
theorem Rm.good (p r : Nat) (g : Pg) : Good (Rm p r g) :=
  ⟨fun ⟨rd, wt, h1, h2, h3, h4, ⟨h5, h6, h7⟩, h8⟩ f hs => ⟨rd, wt, h1.carry f (hs _ h5), Rch.chain.carry h2 f (hs _ h6), Rch.chain.carry h3 f (hs _ h7), h4, ⟨h5, h6, h7⟩, fun i hi => Nat.lt_of_lt_of_le (h8 i hi) f.size⟩,
   fun ⟨rd, wt, h1, h2, h3, h4, ⟨h5, h6, h7⟩, _⟩ k1 k2 => ⟨rd, wt, h1, h2, h3, h4, ⟨k1 _ h5, k1 _ h6, k1 _ h7⟩, k2⟩⟩
/-- The document's page with its arena. -/
def Ra (r : Nat) (bs : List UInt8) (ss : List Sp) (p : Nat) (g : Pg) : World → (Nat → Prop) → Prop := Both (Am 68 r bs ss) (Rm p r g)
theorem Ra.good (r : Nat) (bs : List UInt8) (ss : List Sp) (p : Nat) (g : Pg) : Good (Ra r bs ss p g) := Both.good (Am.good _ _ _ _) (Rm.good p r g)
section
variable {w w' : World} {U Z Z' : Nat → Prop} {p r rd wt : Nat} {bs bs' : List UInt8} {ss ss' : List Sp} {g g' : Pg}
theorem Ra.into (h : Ra r bs ss p g w U) : ∃ Z rd wt, Rp w Z w p r rd wt Z bs ss g ∧ ((∀ i, Z i → U i) ∧ U p ∧ U rd ∧ U wt) ∧ ∀ i, U i → i < w.heap.size := by
  obtain ⟨Z, Y, h1, ⟨rd, wt, q1, q2, q3, ⟨d1, d2, d3⟩, ⟨y1, y2, y3⟩, _⟩, h3, h4, h5, h6⟩ := h
  exact ⟨Z, rd, wt, ⟨h1, q1, q2, q3, d1, d2, d3, fun e => h3 _ e y1, fun e => h3 _ e y2, fun e => h3 _ e y3, Fr.refl _ _, fun _ => .inl⟩, ⟨h4, h5 _ y1, h5 _ y2, h5 _ y3⟩, h6⟩
theorem Ra.back (hu : (∀ i, Z i → U i) ∧ U p ∧ U rd ∧ U wt) (hl : ∀ i, U i → i < w.heap.size) (h : Rp w Z w' p r rd wt Z' bs' ss' g') : ∃ U', Ra r bs' ss' p g' w' U' ∧ Gw w w' U U' := by
  have hlt : ∀ i, (U i ∨ Z' i) → i < w'.heap.size := fun i hi => by
    rcases hi with hi | hi
    · exact Nat.lt_of_lt_of_le (hl i hi) h.fr.size
    · exact h.am.lt i hi
  refine ⟨fun i => U i ∨ Z' i, ⟨Z', fun i => i = p ∨ i = rd ∨ i = wt, h.am, ⟨rd, wt, h.pw, h.qr, h.qw, ⟨h.d1, h.d2, h.d3⟩, ⟨.inl rfl, .inr (.inl rfl), .inr (.inr rfl)⟩, fun i hi => hlt i ?_⟩, fun i hi e => ?_, fun _ => .inr, fun i hi => .inl ?_, hlt⟩, ⟨fun _ => .inl, fun i hi => ?_, hlt, h.fr.mono fun i _ e => ?_⟩⟩
  · rcases hi with rfl | rfl | rfl
    · exact .inl hu.2.1
    · exact .inl hu.2.2.1
    · exact .inl hu.2.2.2
  · rcases e with rfl | rfl | rfl
    · exact h.z1 hi
    · exact h.z2 hi
    · exact h.z3 hi
  · rcases hi with rfl | rfl | rfl
    · exact hu.2.1
    · exact hu.2.2.1
    · exact hu.2.2.2
  · rcases hi with hi | hi
    · exact .inl hi
    · rcases h.new i hi with e | e
      · exact .inl (hu.1 i e)
      · exact .inr e
  · rcases e with (rfl | rfl | rfl) | e
    · exact hu.2.1
    · exact hu.2.2.1
    · exact hu.2.2.2
    · exact hu.1 i e
end
theorem hads_none (x kd : Nat) : hads ⟨x, kd, 0, [], []⟩ = List.replicate 32 false := by rfl
section
variable {W w : World} {ts : List (World → (Nat → Prop) → Prop)} {p r : Nat} {bs : List UInt8} {ss : List Sp} {g : Pg}
theorem z_arena (h : Things W w ts) (n : Nat) (hn : n ≤ 2097152) : Calls Tryz.prog 48 #[.int .i64 n] w fun e w' => ∃ a, e = .returned (.tuple #[.pointer (some ⟨a, 0, none⟩), .int .i64 0]) ∧ Things W w' (ts ++ [Am 68 a (List.replicate n 0) []]) :=
  (rm_new n w hn).mono fun _ _ ⟨a, _, he, hm, hz, f⟩ => ⟨a, he, h.more (Am.good _ _ _ _) hm f fun i hi => ⟨hz i hi, hm.lt i hi⟩⟩
theorem z_new_no (h : Things W w ts) (j : Nat) (hj : ts[j]? = some (Am 68 r bs ss)) {x kd : Int} (hn : ¬ ((0 ≤ kd ∧ kd ≤ 7) ∧ Fits bs.length x)) : Calls Tryz.prog 103 #[.pointer (some ⟨r, 0, none⟩), .int .i64 x, .int .i64 kd] w fun e w' => e = .returned (.tuple #[.pointer none, .int .i64 12]) ∧ Things W w' ts :=
  h.ask j hj fun U q => (s_new_no q hn).mono fun e w' ⟨he, hw⟩ => ⟨he, by rw [hw]; exact Fr.refl _ _⟩
theorem z_new (h : Things W w ts) (ht : Tab W) (j : Nat) (hj : ts[j]? = some (Am 68 r bs ss)) {x kd : Nat} (hk : kd ≤ 7) (hf : Fits bs.length x) : Calls Tryz.prog 103 #[.pointer (some ⟨r, 0, none⟩), .int .i64 x, .int .i64 kd] w fun e w' => ∃ p, e = .returned (.tuple #[.pointer (some ⟨p, 0, none⟩), .int .i64 0]) ∧ Things W w' (ts.set j (Ra r bs ss p ⟨x, kd, 0, [], []⟩)) := by
  obtain ⟨Z, h1, hzl, h2⟩ := h.turn j hj
  refine (s_new (ht.carry h.nw.fr id) h1 hk hf).mono fun e w' ⟨p, rd, wt, he, ⟨b1, b2, b3⟩, f, q1, q2, q3, d1, d2, d3⟩ => ?_
  have hlt : ∀ i, (Z i ∨ i = p ∨ i = rd ∨ i = wt) → i < w'.heap.size := by
    intro i hi
    have l1 := q1.lt
    have l2 := Rch.chain.lt q2
    have l3 := Rch.chain.lt q3
    rcases hi with hi | rfl | rfl | rfl
    · exact Nat.lt_of_lt_of_le (hzl i hi).2 f.size
    · exact l1
    · exact l2
    · exact l3
  refine ⟨p, he, h2 _ w' (fun i => Z i ∨ i = p ∨ i = rd ∨ i = wt) (Ra.good _ _ _ _ _) ?_ ?_⟩
  · refine ⟨Z, fun i => i = p ∨ i = rd ∨ i = wt, h1.kept f, ⟨rd, wt, ?_, q2, q3, ⟨d1, d2, d3⟩, ⟨.inl rfl, .inr (.inl rfl), .inr (.inr rfl)⟩, fun i hi => hlt i (.inr hi)⟩, fun i hi e => ?_, fun _ => .inl, fun _ => .inr, hlt⟩
    · rw [hads_none]; exact q1
    · have := (hzl i hi).2; omega
  · refine ⟨fun _ => .inl, fun i hi => ?_, hlt, f.mono fun _ _ e => e.elim⟩
    rcases hi with hi | hi
    · exact .inl hi
    · exact .inr (by omega)
theorem z_alloc (h : Things W w ts) (ht : Tab W) (j : Nat) (hj : ts[j]? = some (Ra r bs ss p g)) (ok : g.Ok bs) (hk : ss.length < 1000000) : Calls Tryz.prog 105 #[.pointer (some ⟨p, 0, none⟩)] w fun e w' => e = .returned (.tuple #[.int .i64 (paV g), .int .i64 (paE g)]) ∧ Things W w' (ts.set j (Ra r (paB g bs) (paT g ss) p (paS g))) :=
  h.lift j hj (Ra.good _ _ _ _ _) fun U q => by
    obtain ⟨Z, rd, wt, h1, h2, h3⟩ := q.into
    exact (s_alloc (ht.carry h.nw.fr id) ok h1 hk).mono fun e w' ⟨he, Z', h5⟩ => ⟨he, Ra.back h2 h3 h5⟩
theorem z_free (h : Things W w ts) (ht : Tab W) (j : Nat) (hj : ts[j]? = some (Ra r bs ss p g)) (ok : g.Ok bs) (hk : ss.length < 1000000) (k : Int) : Calls Tryz.prog 110 #[.pointer (some ⟨p, 0, none⟩), .int .i64 k] w fun e w' => e = .returned (.int .i64 (pfE g k)) ∧ Things W w' (ts.set j (Ra r (pfB g bs k) (pfT g ss k) p (pfS g k))) :=
  h.lift j hj (Ra.good _ _ _ _ _) fun U q => by
    obtain ⟨Z, rd, wt, h1, h2, h3⟩ := q.into
    exact (s_free (ht.carry h.nw.fr id) ok h1 hk k).mono fun e w' ⟨he, Z', h5⟩ => ⟨he, Ra.back h2 h3 h5⟩
theorem z_move (h : Things W w ts) (j : Nat) (hj : ts[j]? = some (Ra r bs ss p g)) (fit : g.Fit bs.length) (x : Int) : Calls Tryz.prog 119 #[.pointer (some ⟨p, 0, none⟩), .int .i64 x] w fun e w' => e = .returned (.int .i64 (pmE bs.length x)) ∧ Things W w' (ts.set j (Ra r bs ss p (pmS g bs.length x))) :=
  h.lift j hj (Ra.good _ _ _ _ _) fun U q => by
    obtain ⟨Z, rd, wt, h1, h2, h3⟩ := q.into
    exact (s_move fit h1 x).mono fun e w' ⟨he, h5⟩ => ⟨he, Ra.back h2 h3 h5⟩
theorem z_has (h : Things W w ts) (ht : Tab W) (j : Nat) (hj : ts[j]? = some (Ra r bs ss p g)) (ok : g.Ok bs) (k : Int) : Calls Tryz.prog 66 #[.pointer (some ⟨p, 0, none⟩), .int .i64 k] w fun e w' => e = .returned (.bool (decide (g.May k))) ∧ Things W w' ts :=
  h.ask j hj fun U q => by
    obtain ⟨Z, rd, wt, h1, _⟩ := q.into
    exact s_has (ht.carry h.nw.fr id) ok h1 k
theorem z_used (h : Things W w ts) (j : Nat) (hj : ts[j]? = some (Ra r bs ss p g)) (ok : g.Ok bs) : Calls Tryz.prog 111 #[.pointer (some ⟨p, 0, none⟩)] w fun e w' => e = .returned (.int .i64 (g.used : Int)) ∧ Things W w' ts :=
  h.ask j hj fun U q => by
    obtain ⟨Z, rd, wt, h1, _⟩ := q.into
    exact (s_used h1.pw).mono fun e w' ⟨he, hw⟩ => ⟨by rw [he, ok.counted], by rw [hw]; exact Fr.refl _ _⟩
theorem z_full (h : Things W w ts) (ht : Tab W) (j : Nat) (hj : ts[j]? = some (Ra r bs ss p g)) (ok : g.Ok bs) : Calls Tryz.prog 106 #[.pointer (some ⟨p, 0, none⟩)] w fun e w' => e = .returned (.bool (decide g.Full)) ∧ Things W w' ts :=
  h.ask j hj fun U q => by
    obtain ⟨Z, rd, wt, h1, _⟩ := q.into
    exact s_full (ht.carry h.nw.fr id) ok h1.pw
theorem Things.here12 (h : Things W w ts) (j : Nat) (hj : ts[j]? = some (Ra r bs ss p g)) : p < w.heap.size := by
  obtain ⟨U, q, _⟩ := h.get j hj
  obtain ⟨Z, rd, wt, h1, _⟩ := q.into
  exact h1.pw.lt
/-- The page's place, as it lies in its block; which blocks are had. -/
theorem Things.at12 (h : Things W w ts) (j : Nat) (hj : ts[j]? = some (Ra r bs ss p g)) : w.cell? ⟨p, 1, none⟩ = some (.int .i64 g.base) ∧ ∀ i, (hi : i < 32) → w.cell? ⟨p, 4 + i, none⟩ = some (.bool (decide (g.Had i))) := by
  obtain ⟨U, q, _⟩ := h.get j hj
  obtain ⟨Z, rd, wt, h1, _⟩ := q.into
  refine ⟨h1.pw.c1, fun i hi => ?_⟩
  rw [h1.pw.had i hi, hads_get g i hi]
end
end Go.Proofs.YtihaifnenjngpaaGreatDoor

namespace Go.Proofs.YtihaifnenjngpaaGreatDoor.Sf

/-- The lowest free number; the length, where there is none. -/
def low : List Bool → Nat
  | [] => 0
  | true :: r => low r + 1
  | false :: _ => 0
theorem low_le : ∀ l : List Bool, low l ≤ l.length
  | [] => Nat.le_refl _
  | true :: r => by have := low_le r; simp only [low, List.length_cons]; omega
  | false :: r => by simp only [low, List.length_cons]; omega
theorem low_below : ∀ (l : List Bool) (i : Nat) (_h : i < low l) (hi : i < l.length), l[i] = true
  | true :: r, 0, _, _ => rfl
  | true :: r, i + 1, h, hi => by
    have := low_below r i (by simp only [low] at h; omega) (by simpa using hi)
    simpa using this
  | false :: r, i, h, _ => by simp [low] at h
theorem low_at : ∀ (l : List Bool) (h : low l < l.length), l[low l] = false
  | [], h => by simp at h
  | true :: r, h => by
    have := low_at r (by simpa [low] using h)
    simpa [low] using this
  | false :: r, _ => by simp [low]
/-- It is the only one so. -/
theorem low_unique (l : List Bool) (k : Nat) (hk : k < l.length) (h0 : l[k] = false) (hb : ∀ i (hi : i < k), l[i] = true) : low l = k := by
  rcases Nat.lt_trichotomy (low l) k with h | h | h
  · have h1 := low_at l (by omega)
    have h2 := hb (low l) h
    rw [h1] at h2; cases h2
  · exact h
  · have := low_below l k h hk
    rw [h0] at this; cases this
theorem low_full (l : List Bool) (h : ∀ i (hi : i < l.length), l[i] = true) : low l = l.length := by
  rcases Nat.lt_or_ge (low l) l.length with h1 | h1
  · have h2 := low_at l h1
    rw [h _ h1] at h2; cases h2
  · have := low_le l; omega

/-- How many are free. -/
def frees : List Bool → Nat
  | [] => 0
  | true :: r => frees r
  | false :: r => frees r + 1
theorem frees_le : ∀ l : List Bool, frees l ≤ l.length
  | [] => Nat.le_refl _
  | true :: r => by have := frees_le r; simp only [frees, List.length_cons]; omega
  | false :: r => by have := frees_le r; simp only [frees, List.length_cons]; omega
theorem frees_take : ∀ (l : List Bool) (k : Nat) (hk : k < l.length), l[k] = false → frees (l.set k true) + 1 = frees l
  | false :: r, 0, _, _ => by simp [frees]
  | true :: r, 0, _, h => by simp at h
  | true :: r, k + 1, hk, h => by
    have := frees_take r k (by simpa using hk) (by simpa using h)
    simpa [frees] using this
  | false :: r, k + 1, hk, h => by
    have := frees_take r k (by simpa using hk) (by simpa using h)
    simp only [List.set_cons_succ, frees]; omega
theorem frees_give : ∀ (l : List Bool) (k : Nat) (hk : k < l.length), l[k] = true → frees (l.set k false) = frees l + 1
  | true :: r, 0, _, _ => by simp [frees]
  | false :: r, 0, _, h => by simp at h
  | true :: r, k + 1, hk, h => by
    have := frees_give r k (by simpa using hk) (by simpa using h)
    simpa [frees] using this
  | false :: r, k + 1, hk, h => by
    have := frees_give r k (by simpa using hk) (by simpa using h)
    simp only [List.set_cons_succ, frees]; omega
theorem frees_append : ∀ l m : List Bool, frees (l ++ m) = frees l + frees m
  | [], m => by simp [frees]
  | true :: r, m => by simp [frees, frees_append r m]
  | false :: r, m => by simp [frees, frees_append r m]; omega
theorem frees_take_succ (l : List Bool) (k : Nat) (hk : k < l.length) : frees (l.take (k + 1)) = frees (l.take k) + if l[k] then 0 else 1 := by
  rw [List.take_add_one, List.getElem?_eq_getElem hk, frees_append]
  cases l[k] <;> simp [frees]
theorem frees_zero_low : ∀ l : List Bool, frees l = 0 ↔ low l = l.length
  | [] => by simp [frees, low]
  | true :: r => by simp [frees, low, frees_zero_low r]
  | false :: r => by simp [frees, low]

/-- What the calls answer, and leave. -/
def lowI (l : List Bool) : Int := if low l < l.length then (low l : Int) else -1
def takV (l : List Bool) : Int := if low l < l.length then (low l : Int) else 0
def takE (l : List Bool) : Int := if low l < l.length then 0 else 13
def takS (l : List Bool) : List Bool := if low l < l.length then l.set (low l) true else l
def hasN (l : List Bool) (k : Int) : Bool := decide (0 ≤ k ∧ k < l.length)
def isT (l : List Bool) (k : Int) : Bool := hasN l k && l.getD k.toNat false
def taE (l : List Bool) (k : Int) : Int := if hasN l k then (if isT l k then 7 else 0) else 12
def taS (l : List Bool) (k : Int) : List Bool := if hasN l k then l.set k.toNat true else l
def giE (l : List Bool) (k : Int) : Int := if hasN l k then (if isT l k then 0 else 13) else 12
def giS (l : List Bool) (k : Int) : List Bool := if hasN l k then l.set k.toNat false else l
theorem takS_length (l : List Bool) : (takS l).length = l.length := by unfold takS; split <;> simp
theorem taS_length (l : List Bool) (k : Int) : (taS l k).length = l.length := by unfold taS; split <;> simp
theorem giS_length (l : List Bool) (k : Int) : (giS l k).length = l.length := by unfold giS; split <;> simp
/-- A number that is taken: to take it again leaves the list as it was. -/
theorem taS_taken (l : List Bool) (k : Int) (h : isT l k = true) : taS l k = l := by
  unfold taS
  split
  · rename_i hn
    simp only [isT, hn, Bool.true_and] at h
    simp only [hasN, decide_eq_true_eq] at hn
    apply List.ext_getElem (by simp)
    intro i h1 h2
    rw [List.getElem_set]
    split
    · rename_i e; subst e
      rw [List.getD_eq_getElem?_getD, List.getElem?_eq_getElem h2] at h
      simpa using h.symm
    · rfl
  · rfl
theorem giS_free (l : List Bool) (k : Int) (h : isT l k = false) : giS l k = l := by
  unfold giS
  split
  · rename_i hn
    simp only [isT, hn, Bool.true_and] at h
    simp only [hasN, decide_eq_true_eq] at hn
    apply List.ext_getElem (by simp)
    intro i h1 h2
    rw [List.getElem_set]
    split
    · rename_i e; subst e
      rw [List.getD_eq_getElem?_getD, List.getElem?_eq_getElem h2] at h
      simpa using h.symm
    · rfl
  · rfl

/-- Numbers taken one by one, as many as can be: what is noted, and what is left. -/
def takeAll : List Bool → List Int → List Int × List Bool
  | l, [] => ([], l)
  | l, k :: r => if taE l k = 0 then ((k :: (takeAll (taS l k) r).1), (takeAll (taS l k) r).2) else takeAll l r
theorem takeAll_snoc : ∀ (l : List Bool) (ks : List Int) (k : Int), takeAll l (ks ++ [k]) = if taE (takeAll l ks).2 k = 0 then ((takeAll l ks).1 ++ [k], taS (takeAll l ks).2 k) else takeAll l ks
  | l, [], k => by
    simp only [List.nil_append, takeAll]
    rfl
  | l, j :: r, k => by
    simp only [List.cons_append, takeAll]
    split
    · rw [takeAll_snoc (taS l j) r k]
      split <;> simp
    · exact takeAll_snoc l r k
/-- Given again one by one. -/
def giveAll : List Bool → List Int → List Bool
  | l, [] => l
  | l, k :: r => giveAll (giS l k) r
theorem giveAll_length : ∀ (ks : List Int) (l : List Bool), (giveAll l ks).length = l.length
  | [], _ => rfl
  | k :: r, l => by rw [giveAll, giveAll_length r, giS_length]
theorem giveAll_snoc : ∀ (ks : List Int) (l : List Bool) (k : Int), giveAll l (ks ++ [k]) = giS (giveAll l ks) k
  | [], _, _ => rfl
  | j :: r, l, k => by simp only [List.cons_append, giveAll]; exact giveAll_snoc r _ k
theorem hasN_iff {l : List Bool} {k : Int} : hasN l k = true ↔ 0 ≤ k ∧ k < l.length := by simp [hasN]
theorem isT_set (l : List Bool) (k j : Int) (b : Bool) (hk : hasN l k = true) : isT (l.set k.toNat b) j = if j = k then b else isT l j := by
  rw [hasN_iff] at hk
  have hl : hasN (l.set k.toNat b) j = hasN l j := by simp [hasN]
  unfold isT
  rw [hl]
  by_cases e : j = k
  · subst e
    have h1 : hasN l j = true := hasN_iff.2 hk
    rw [if_pos rfl, h1, Bool.true_and, List.getD_eq_getElem?_getD, List.getElem?_set_self (by omega)]
    rfl
  · rw [if_neg e]
    cases hj : hasN l j with
    | false => rfl
    | true =>
      rw [hasN_iff] at hj
      rw [Bool.true_and, Bool.true_and, List.getD_eq_getElem?_getD, List.getD_eq_getElem?_getD, List.getElem?_set_ne (by omega)]
theorem ext_isT {l m : List Bool} (hl : l.length = m.length) (h : ∀ k : Int, isT l k = isT m k) : l = m := by
  apply List.ext_getElem hl
  intro i h1 h2
  have := h i
  simp only [isT, hasN, Int.toNat_natCast, List.getD_eq_getElem?_getD, List.getElem?_eq_getElem h1, List.getElem?_eq_getElem h2, Option.getD_some] at this
  simpa [h1, h2] using this
theorem taE_zero {l : List Bool} {k : Int} : taE l k = 0 ↔ hasN l k = true ∧ isT l k = false := by
  unfold taE
  cases hasN l k <;> cases isT l k <;> simp
theorem giE_zero {l : List Bool} {k : Int} : giE l k = 0 ↔ hasN l k = true ∧ isT l k = true := by
  unfold giE
  cases hasN l k <;> cases isT l k <;> simp
/-- What is taken so: numbers that were free, each once; all else is as it was. -/
theorem takeAll_spec : ∀ (more : List Int) (l : List Bool), (takeAll l more).2.length = l.length ∧ (∀ k ∈ (takeAll l more).1, hasN l k = true ∧ isT l k = false) ∧ (takeAll l more).1.Nodup ∧ ∀ j : Int, isT (takeAll l more).2 j = (isT l j || decide (j ∈ (takeAll l more).1))
  | [], l => by simp [takeAll]
  | k :: r, l => by
    simp only [takeAll]
    split
    · rename_i h
      rw [taE_zero] at h
      obtain ⟨h1, h2⟩ := h
      have hs : taS l k = l.set k.toNat true := by unfold taS; rw [h1]; rfl
      obtain ⟨g1, g2, g3, g4⟩ := takeAll_spec r (taS l k)
      have hn : ∀ j, hasN (taS l k) j = hasN l j := fun j => by rw [hs]; simp [hasN]
      have ht : ∀ j, isT (taS l k) j = if j = k then true else isT l j := fun j => by rw [hs]; exact isT_set l k j true h1
      refine ⟨g1.trans (taS_length l k), ?_, ?_, ?_⟩
      · intro j hj
        rcases List.mem_cons.1 hj with rfl | hj
        · exact ⟨h1, h2⟩
        · have := g2 j hj
          rw [hn, ht] at this
          refine ⟨this.1, ?_⟩
          by_cases e : j = k
          · rw [if_pos e] at this; cases this.2
          · rw [if_neg e] at this; exact this.2
      · rw [List.nodup_cons]
        refine ⟨fun hk => ?_, g3⟩
        have := (g2 k hk).2
        rw [ht, if_pos rfl] at this
        cases this
      · intro j
        rw [g4, ht]
        by_cases e : j = k
        · subst e; simp
        · simp [e]
    · exact takeAll_spec r l
/-- What is given so again. -/
theorem giveAll_spec : ∀ (ks : List Int) (l : List Bool), (∀ k ∈ ks, hasN l k = true ∧ isT l k = true) → ks.Nodup → ∀ j : Int, isT (giveAll l ks) j = (isT l j && !decide (j ∈ ks))
  | [], l, _, _ => by simp [giveAll]
  | k :: r, l, h, hn => by
    obtain ⟨h1, _⟩ := h k (List.mem_cons_self ..)
    rw [List.nodup_cons] at hn
    have hs : giS l k = l.set k.toNat false := by unfold giS; rw [h1]; rfl
    have ht : ∀ j, isT (giS l k) j = if j = k then false else isT l j := fun j => by rw [hs]; exact isT_set l k j false h1
    intro j
    rw [giveAll, giveAll_spec r (giS l k) (fun j hj => ?_) hn.2, ht]
    · by_cases e : j = k
      · subst e; simp
      · simp [e]
    · have g := h j (List.mem_cons_of_mem _ hj)
      refine ⟨by rw [hs]; simpa [hasN] using g.1, ?_⟩
      rw [ht, if_neg (fun e : j = k => hn.1 (by rw [← e]; exact hj))]
      exact g.2
/-- THE LAW ShelfBack RESTS ON: what is taken and given again leaves the list as it was, and each is given. -/
theorem back_again (l : List Bool) (more : List Int) : giveAll (takeAll l more).2 (takeAll l more).1 = l ∧ ∀ j (hj : j < (takeAll l more).1.length), giE (giveAll (takeAll l more).2 ((takeAll l more).1.take j)) (takeAll l more).1[j] = 0 := by
  obtain ⟨g1, g2, g3, g4⟩ := takeAll_spec more l
  have hall : ∀ k ∈ (takeAll l more).1, hasN (takeAll l more).2 k = true ∧ isT (takeAll l more).2 k = true := fun k hk => by
    refine ⟨?_, by rw [g4]; simp [hk]⟩
    have := (g2 k hk).1
    simpa [hasN, g1] using this
  refine ⟨ext_isT ((giveAll_length _ _).trans g1) (fun k => ?_), fun j hj => ?_⟩
  · rw [giveAll_spec _ _ hall g3, g4]
    by_cases hk : k ∈ (takeAll l more).1
    · rw [(g2 k hk).2]; simp [hk]
    · simp [hk]
  · generalize (takeAll l more).1 = ks at *
    generalize (takeAll l more).2 = l' at *
    rw [giE_zero]
    have hm : ks[j] ∈ ks := List.getElem_mem hj
    have hsub : ∀ k ∈ ks.take j, hasN l' k = true ∧ isT l' k = true := fun k hk => hall k (List.mem_of_mem_take hk)
    have hnd : (ks.take j).Nodup := g3.sublist (List.take_sublist j ks)
    refine ⟨?_, ?_⟩
    · have := (hall _ hm).1
      simpa [hasN, giveAll_length] using this
    · rw [giveAll_spec _ _ hsub hnd, (hall _ hm).2]
      have hni : ks[j] ∉ ks.take j := by
        intro hc
        obtain ⟨i, hi, e⟩ := List.getElem_of_mem hc
        have hi' : i < j := by simp at hi; omega
        rw [List.getElem_take] at e
        exact List.pairwise_iff_getElem.1 g3 i j (by omega) hj hi' e
      simp [hni]
/-- A fresh shelf from which k were taken. -/
def fresh (k m : Nat) : List Bool := List.replicate k true ++ List.replicate m false
theorem fresh_length (k m : Nat) : (fresh k m).length = k + m := by simp [fresh]
theorem low_ones : ∀ (k : Nat) (r : List Bool), low (List.replicate k true ++ r) = k + low r
  | 0, r => by simp
  | k + 1, r => by rw [List.replicate_succ, List.cons_append, low, low_ones k r]; omega
theorem fresh_low (k m : Nat) : low (fresh k (m + 1)) = k := by
  rw [fresh, low_ones, List.replicate_succ]; simp [low]
theorem fresh_take (k m : Nat) : takS (fresh k (m + 1)) = fresh (k + 1) m ∧ takV (fresh k (m + 1)) = k ∧ takE (fresh k (m + 1)) = 0 := by
  have hl : low (fresh k (m + 1)) < (fresh k (m + 1)).length := by rw [fresh_low, fresh_length]; omega
  refine ⟨?_, by unfold takV; rw [if_pos hl, fresh_low], by unfold takE; rw [if_pos hl]⟩
  unfold takS
  rw [if_pos hl, fresh_low]
  unfold fresh
  rw [List.set_append_right _ _ (by simp), List.replicate_succ, List.length_replicate, Nat.sub_self, List.set_cons_zero, List.replicate_succ', List.append_assoc]
  rfl
theorem fresh_end (k : Nat) : takE (fresh k 0) = 13 ∧ frees (fresh k 0) = 0 ∧ takS (fresh k 0) = fresh k 0 := by
  have hl : low (fresh k 0) = (fresh k 0).length := by rw [fresh, low_ones]; simp [low]
  refine ⟨by unfold takE; rw [if_neg (by omega)], (frees_zero_low _).2 hl, by unfold takS; rw [if_neg (by omega)]⟩
end Go.Proofs.YtihaifnenjngpaaGreatDoor.Sf
