/-
  The document's page and its arena as one thing of several side by side: what each call leaves of it.
-/
import Derived.Test.YthndakhnhnipnaaDoorPaRefD
import Derived.Test.YthndakhnhnipnaaDoorAnMem2
namespace Go.Proofs.YthndakhnhnipnaaDoor
open Go.RowKit
open An

/-- A call that turns the first one of two things. -/
theorem Both.call {P P' Q : World → (Nat → Prop) → Prop} {w : World} {U : Nat → Prop} (h : Both P Q w U) (hQ : Good Q) {Pr : Program} {F : Nat} {args : Array Value} {R : Ending → Prop}
    (base : ∀ Z, P w Z → Calls Pr F args w fun e w' => R e ∧ ∃ Z', P' w' Z' ∧ Gw w w' Z Z') : Calls Pr F args w fun e w' => R e ∧ ∃ U', Both P' Q w' U' ∧ Gw w w' U U' := by
  obtain ⟨Z, Y, h1, h2, h3, h4, h5, h6⟩ := h
  refine (base Z h1).mono fun e w' ⟨he, Z', g1, g2⟩ => ⟨he, fun i => U i ∨ Z' i, ?_⟩
  have hlt : ∀ i, (U i ∨ Z' i) → i < w'.heap.size := fun i hi => by
    rcases hi with hi | hi
    · exact Nat.lt_of_lt_of_le (h6 i hi) g2.fr.size
    · exact g2.lt i hi
  refine ⟨⟨Z', Y, g1, hQ.carry h2 g2.fr fun i hi e => h3 i e hi, fun i hi hy => ?_, fun _ => .inr, fun i hi => .inl (h5 i hi), hlt⟩, ⟨fun _ => .inl, fun i hi => ?_, hlt, g2.fr.mono fun i _ e => h4 i e⟩⟩
  · rcases g2.new i hi with e | e
    · exact h3 i e hy
    · have := h6 i (h5 i hy); omega
  · rcases hi with hi | hi
    · exact .inl hi
    · rcases g2.new i hi with e | e
      · exact .inl (h4 i e)
      · exact .inr e
theorem Both.fst {P Q : World → (Nat → Prop) → Prop} {w : World} {U : Nat → Prop} (h : Both P Q w U) : ∃ Z, P w Z := by obtain ⟨Z, _, h1, _⟩ := h; exact ⟨Z, h1⟩
/-- The document's page over the arena at r: its own block, and its chains. -/
def Rm (p r : Nat) (g : Pg) (w : World) (Y : Nat → Prop) : Prop := ∃ rd wt, Rw12 w p r g.base g.kind g.fresh (hads g) rd wt ∧ Rch w rd r (g.ck (lnk g.R)) ∧ Rch w wt r (g.ck (lnk g.D)) ∧ (p ≠ rd ∧ p ≠ wt ∧ rd ≠ wt) ∧ (Y p ∧ Y rd ∧ Y wt) ∧ ∀ i, Y i → i < w.heap.size
theorem Rm.good (p r : Nat) (g : Pg) : Good (Rm p r g) :=
  ⟨fun ⟨rd, wt, h1, h2, h3, h4, ⟨h5, h6, h7⟩, h8⟩ f hs => ⟨rd, wt, h1.carry f (hs _ h5), Rch.chain.carry h2 f (hs _ h6), Rch.chain.carry h3 f (hs _ h7), h4, ⟨h5, h6, h7⟩, fun i hi => Nat.lt_of_lt_of_le (h8 i hi) f.size⟩,
   fun ⟨rd, wt, h1, h2, h3, h4, ⟨h5, h6, h7⟩, _⟩ k1 k2 => ⟨rd, wt, h1, h2, h3, h4, ⟨k1 _ h5, k1 _ h6, k1 _ h7⟩, k2⟩⟩
/-- The document's page with its arena. -/
def Ra (r : Nat) (bs : List UInt8) (ss : List Sp) (p : Nat) (g : Pg) : World → (Nat → Prop) → Prop := Both (Am 56 r bs ss) (Rm p r g)
theorem Ra.good (r : Nat) (bs : List UInt8) (ss : List Sp) (p : Nat) (g : Pg) : Good (Ra r bs ss p g) := Both.good (Am.good _ _ _ _) (Rm.good p r g)
section
variable {w w' : World} {U Z Z' : Nat → Prop} {p r rd wt : Nat} {bs bs' : List UInt8} {ss ss' : List Sp} {g g' : Pg}
theorem Ra.into (h : Ra r bs ss p g w U) : ∃ Z rd wt, Rp w Z w p r rd wt Z bs ss g ∧ ((∀ i, Z i → U i) ∧ U p ∧ U rd ∧ U wt) ∧ ∀ i, U i → i < w.heap.size := by
  obtain ⟨Z, Y, h1, ⟨rd, wt, q1, q2, q3, ⟨d1, d2, d3⟩, ⟨y1, y2, y3⟩, _⟩, h3, h4, h5, h6⟩ := h
  exact ⟨Z, rd, wt, ⟨h1, q1, q2, q3, d1, d2, d3, fun e => h3 _ e y1, fun e => h3 _ e y2, fun e => h3 _ e y3, Fr.refl _ _, fun _ => .inl⟩, ⟨h4, h5 _ y1, h5 _ y2, h5 _ y3⟩, h6⟩
theorem Ra.back (hu : (∀ i, Z i → U i) ∧ U p ∧ U rd ∧ U wt) (hl : ∀ i, U i → i < w.heap.size) (h : Rp w Z w' p r rd wt Z' bs' ss' g') : ∃ U', Ra r bs' ss' p g' w' U' ∧ Gw w w' U U' := by
  have hlt : ∀ i, (U i ∨ Z' i) → i < w'.heap.size := fun i hi => by
    rcases hi with hi | hi
    · exact Nat.lt_of_lt_of_le (hl i hi) h.fr.size
    · exact h.am.lt i hi
  refine ⟨fun i => U i ∨ Z' i, ⟨Z', fun i => i = p ∨ i = rd ∨ i = wt, h.am, ⟨rd, wt, h.pw, h.qr, h.qw, ⟨h.d1, h.d2, h.d3⟩, ⟨.inl rfl, .inr (.inl rfl), .inr (.inr rfl)⟩, fun i hi => hlt i ?_⟩, fun i hi e => ?_, fun _ => .inr, fun i hi => .inl ?_, hlt⟩, ⟨fun _ => .inl, fun i hi => ?_, hlt, h.fr.mono fun i _ e => ?_⟩⟩
  · rcases hi with rfl | rfl | rfl
    · exact .inl hu.2.1
    · exact .inl hu.2.2.1
    · exact .inl hu.2.2.2
  · rcases e with rfl | rfl | rfl
    · exact h.z1 hi
    · exact h.z2 hi
    · exact h.z3 hi
  · rcases hi with rfl | rfl | rfl
    · exact hu.2.1
    · exact hu.2.2.1
    · exact hu.2.2.2
  · rcases hi with hi | hi
    · exact .inl hi
    · rcases h.new i hi with e | e
      · exact .inl (hu.1 i e)
      · exact .inr e
  · rcases e with (rfl | rfl | rfl) | e
    · exact hu.2.1
    · exact hu.2.2.1
    · exact hu.2.2.2
    · exact hu.1 i e
end
theorem hads_none (x kd : Nat) : hads ⟨x, kd, 0, [], []⟩ = List.replicate 32 false := by rfl
section
variable {W w : World} {ts : List (World → (Nat → Prop) → Prop)} {p r : Nat} {bs : List UInt8} {ss : List Sp} {g : Pg}
theorem z_arena (h : Things W w ts) (n : Nat) (hn : n ≤ 2097152) : Calls Tryd.prog 8 #[.int .i64 n] w fun e w' => ∃ a, e = .returned (.tuple #[.pointer (some ⟨a, 0, none⟩), .int .i64 0]) ∧ Things W w' (ts ++ [Am 56 a (List.replicate n 0) []]) :=
  (rm_new n w hn).mono fun _ _ ⟨a, _, he, hm, hz, f⟩ => ⟨a, he, h.more (Am.good _ _ _ _) hm f fun i hi => ⟨hz i hi, hm.lt i hi⟩⟩
theorem z_new_no (h : Things W w ts) (j : Nat) (hj : ts[j]? = some (Am 56 r bs ss)) {x kd : Int} (hn : ¬ ((0 ≤ kd ∧ kd ≤ 7) ∧ Fits bs.length x)) : Calls Tryd.prog 10 #[.pointer (some ⟨r, 0, none⟩), .int .i64 x, .int .i64 kd] w fun e w' => e = .returned (.tuple #[.pointer none, .int .i64 12]) ∧ Things W w' ts :=
  h.ask j hj fun U q => (s_new_no q hn).mono fun e w' ⟨he, hw⟩ => ⟨he, by rw [hw]; exact Fr.refl _ _⟩
theorem z_new (h : Things W w ts) (ht : Tab W) (j : Nat) (hj : ts[j]? = some (Am 56 r bs ss)) {x kd : Nat} (hk : kd ≤ 7) (hf : Fits bs.length x) : Calls Tryd.prog 10 #[.pointer (some ⟨r, 0, none⟩), .int .i64 x, .int .i64 kd] w fun e w' => ∃ p, e = .returned (.tuple #[.pointer (some ⟨p, 0, none⟩), .int .i64 0]) ∧ Things W w' (ts.set j (Ra r bs ss p ⟨x, kd, 0, [], []⟩)) := by
  obtain ⟨Z, h1, hzl, h2⟩ := h.turn j hj
  refine (s_new (ht.carry h.nw.fr id) h1 hk hf).mono fun e w' ⟨p, rd, wt, he, ⟨b1, b2, b3⟩, f, q1, q2, q3, d1, d2, d3⟩ => ?_
  have hlt : ∀ i, (Z i ∨ i = p ∨ i = rd ∨ i = wt) → i < w'.heap.size := by
    intro i hi
    have l1 := q1.lt
    have l2 := Rch.chain.lt q2
    have l3 := Rch.chain.lt q3
    rcases hi with hi | rfl | rfl | rfl
    · exact Nat.lt_of_lt_of_le (hzl i hi).2 f.size
    · exact l1
    · exact l2
    · exact l3
  refine ⟨p, he, h2 _ w' (fun i => Z i ∨ i = p ∨ i = rd ∨ i = wt) (Ra.good _ _ _ _ _) ?_ ?_⟩
  · refine ⟨Z, fun i => i = p ∨ i = rd ∨ i = wt, h1.kept f, ⟨rd, wt, ?_, q2, q3, ⟨d1, d2, d3⟩, ⟨.inl rfl, .inr (.inl rfl), .inr (.inr rfl)⟩, fun i hi => hlt i (.inr hi)⟩, fun i hi e => ?_, fun _ => .inl, fun _ => .inr, hlt⟩
    · rw [hads_none]; exact q1
    · have := (hzl i hi).2; omega
  · refine ⟨fun _ => .inl, fun i hi => ?_, hlt, f.mono fun _ _ e => e.elim⟩
    rcases hi with hi | hi
    · exact .inl hi
    · exact .inr (by omega)
theorem z_alloc (h : Things W w ts) (ht : Tab W) (j : Nat) (hj : ts[j]? = some (Ra r bs ss p g)) (ok : g.Ok bs) (hk : ss.length < 1000000) : Calls Tryd.prog 14 #[.pointer (some ⟨p, 0, none⟩)] w fun e w' => e = .returned (.tuple #[.int .i64 (paV g), .int .i64 (paE g)]) ∧ Things W w' (ts.set j (Ra r (paB g bs) (paT g ss) p (paS g))) :=
  h.lift j hj (Ra.good _ _ _ _ _) fun U q => by
    obtain ⟨Z, rd, wt, h1, h2, h3⟩ := q.into
    exact (s_alloc (ht.carry h.nw.fr id) ok h1 hk).mono fun e w' ⟨he, Z', h5⟩ => ⟨he, Ra.back h2 h3 h5⟩
theorem z_free (h : Things W w ts) (ht : Tab W) (j : Nat) (hj : ts[j]? = some (Ra r bs ss p g)) (ok : g.Ok bs) (hk : ss.length < 1000000) (k : Int) : Calls Tryd.prog 16 #[.pointer (some ⟨p, 0, none⟩), .int .i64 k] w fun e w' => e = .returned (.int .i64 (pfE g k)) ∧ Things W w' (ts.set j (Ra r (pfB g bs k) (pfT g ss k) p (pfS g k))) :=
  h.lift j hj (Ra.good _ _ _ _ _) fun U q => by
    obtain ⟨Z, rd, wt, h1, h2, h3⟩ := q.into
    exact (s_free (ht.carry h.nw.fr id) ok h1 hk k).mono fun e w' ⟨he, Z', h5⟩ => ⟨he, Ra.back h2 h3 h5⟩
theorem z_move (h : Things W w ts) (j : Nat) (hj : ts[j]? = some (Ra r bs ss p g)) (fit : g.Fit bs.length) (x : Int) : Calls Tryd.prog 28 #[.pointer (some ⟨p, 0, none⟩), .int .i64 x] w fun e w' => e = .returned (.int .i64 (pmE bs.length x)) ∧ Things W w' (ts.set j (Ra r bs ss p (pmS g bs.length x))) :=
  h.lift j hj (Ra.good _ _ _ _ _) fun U q => by
    obtain ⟨Z, rd, wt, h1, h2, h3⟩ := q.into
    exact (s_move fit h1 x).mono fun e w' ⟨he, h5⟩ => ⟨he, Ra.back h2 h3 h5⟩
theorem z_has (h : Things W w ts) (ht : Tab W) (j : Nat) (hj : ts[j]? = some (Ra r bs ss p g)) (ok : g.Ok bs) (k : Int) : Calls Tryd.prog 22 #[.pointer (some ⟨p, 0, none⟩), .int .i64 k] w fun e w' => e = .returned (.bool (decide (g.May k))) ∧ Things W w' ts :=
  h.ask j hj fun U q => by
    obtain ⟨Z, rd, wt, h1, _⟩ := q.into
    exact s_has (ht.carry h.nw.fr id) ok h1 k
theorem z_used (h : Things W w ts) (j : Nat) (hj : ts[j]? = some (Ra r bs ss p g)) (ok : g.Ok bs) : Calls Tryd.prog 18 #[.pointer (some ⟨p, 0, none⟩)] w fun e w' => e = .returned (.int .i64 (g.used : Int)) ∧ Things W w' ts :=
  h.ask j hj fun U q => by
    obtain ⟨Z, rd, wt, h1, _⟩ := q.into
    exact (s_used h1.pw).mono fun e w' ⟨he, hw⟩ => ⟨by rw [he, ok.counted], by rw [hw]; exact Fr.refl _ _⟩
theorem z_full (h : Things W w ts) (ht : Tab W) (j : Nat) (hj : ts[j]? = some (Ra r bs ss p g)) (ok : g.Ok bs) : Calls Tryd.prog 20 #[.pointer (some ⟨p, 0, none⟩)] w fun e w' => e = .returned (.bool (decide g.Full)) ∧ Things W w' ts :=
  h.ask j hj fun U q => by
    obtain ⟨Z, rd, wt, h1, _⟩ := q.into
    exact s_full (ht.carry h.nw.fr id) ok h1.pw
theorem Things.here12 (h : Things W w ts) (j : Nat) (hj : ts[j]? = some (Ra r bs ss p g)) : p < w.heap.size := by
  obtain ⟨U, q, _⟩ := h.get j hj
  obtain ⟨Z, rd, wt, h1, _⟩ := q.into
  exact h1.pw.lt
/-- The page's place, as it lies in its block; which blocks are had. -/
theorem Things.at12 (h : Things W w ts) (j : Nat) (hj : ts[j]? = some (Ra r bs ss p g)) : w.cell? ⟨p, 1, none⟩ = some (.int .i64 g.base) ∧ ∀ i, (hi : i < 32) → w.cell? ⟨p, 4 + i, none⟩ = some (.bool (decide (g.Had i))) := by
  obtain ⟨U, q, _⟩ := h.get j hj
  obtain ⟨Z, rd, wt, h1, _⟩ := q.into
  refine ⟨h1.pw.c1, fun i hi => ?_⟩
  rw [h1.pw.had i hi, hads_get g i hi]
end
end Go.Proofs.YthndakhnhnipnaaDoor
