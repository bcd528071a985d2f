/-
  Several things side by side in memory, each in blocks of its own: whose a block is, is told by a label. Nothing of the program is named here.
  An arena as one thing in memory: the program's, and the document's.
  An arena and chains in it, as one thing in memory; the document's chain.
-/
import Derived.Test.YtejbdbjccjkfdaaGreatDoorLists
import Derived.Test.YtejbdbjccjkfdaaGreatDoorClBase
import Derived.Deep.RegionLaw
import Derived.LoopTactic
namespace Go.Proofs.YtejbdbjccjkfdaaGreatDoor
open Go.RowKit

/-- What a call leaves of a thing that lies in blocks of Z: it may have grown by new blocks, and nothing else has turned. -/
structure Gw (w w' : World) (Z Z' : Nat → Prop) : Prop where
  more : ∀ i, Z i → Z' i
  new : ∀ i, Z' i → Z i ∨ w.heap.size ≤ i
  lt : ∀ i, Z' i → i < w'.heap.size
  fr : Fr Z w w'
theorem Gw.same {w w' : World} {Z : Nat → Prop} (h : ∀ i, Z i → i < w.heap.size) (f : Fr Z w w') : Gw w w' Z Z := ⟨fun _ => id, fun _ => .inl, fun i hi => Nat.lt_of_lt_of_le (h i hi) f.size, f⟩
theorem Gw.trans {w w1 w2 : World} {Z Z1 Z2 : Nat → Prop} (h : Gw w w1 Z Z1) (k : Gw w1 w2 Z1 Z2) : Gw w w2 Z Z2 :=
  ⟨fun i hi => k.more i (h.more i hi), fun i hi => by
    rcases k.new i hi with e | e
    · exact h.new i e
    · exact .inr (Nat.le_trans h.fr.size e), k.lt, Fr.trans' h.fr k.fr fun i hi e => by
    rcases h.new i e with e | e
    · exact e
    · omega⟩
/-- Ahead of a call of one's own there were new blocks alone. -/
theorem Gw.ahead {w w1 w2 : World} {Z Z2 : Nat → Prop} (h : Fr (fun _ => False) w w1) (k : Gw w1 w2 Z Z2) : Gw w w2 Z Z2 :=
  ⟨k.more, fun i hi => by
    rcases k.new i hi with e | e
    · exact .inl e
    · exact .inr (Nat.le_trans h.size e), k.lt, Fr.trans' (h.mono fun _ _ e => e.elim) k.fr fun _ _ e => e⟩
theorem Gw.behind {w w1 w2 : World} {Z Z1 : Nat → Prop} (h : Gw w w1 Z Z1) (f : Fr (fun _ => False) w1 w2) : Gw w w2 Z Z1 :=
  ⟨h.more, h.new, fun i hi => Nat.lt_of_lt_of_le (h.lt i hi) f.size, Fr.trans' h.fr f fun _ _ e => e.elim⟩
/-- A thing that lies in blocks of Z alone. -/
structure Good (P : World → (Nat → Prop) → Prop) : Prop where
  carry : ∀ {w w' : World} {Z S : Nat → Prop}, P w Z → Fr S w w' → (∀ i, Z i → ¬ S i) → P w' Z
  mono : ∀ {w : World} {Z Z' : Nat → Prop}, P w Z → (∀ i, Z i → Z' i) → (∀ i, Z' i → i < w.heap.size) → P w Z'
theorem Good.kept {P : World → (Nat → Prop) → Prop} (h : Good P) {w w' : World} {Z : Nat → Prop} (p : P w Z) (f : Fr (fun _ => False) w w') : P w' Z := h.carry p f fun _ _ => id
/-- Labels: 0 is nobody's. All else is new since W. -/
structure Lb (W w : World) (o : Nat → Nat) : Prop where
  nw : Nw W w
  dom : ∀ i, o i ≠ 0 → W.heap.size ≤ i ∧ i < w.heap.size
def lab (o : Nat → Nat) (j : Nat) : Nat → Prop := fun i => o i = j
section
variable {W w w' : World} {o : Nat → Nat}
theorem Lb.start (h : Nw W w) : Lb W w (fun _ => 0) := ⟨h, fun _ e => (e rfl).elim⟩
theorem Lb.kept (h : Lb W w o) (f : Fr (fun _ => False) w w') : Lb W w' o := ⟨h.nw.kept f, fun i hi => by have := h.dom i hi; have := f.size; omega⟩
theorem Lb.lt (h : Lb W w o) {j : Nat} (hj : j ≠ 0) : ∀ i, lab o j i → i < w.heap.size := fun i hi => (h.dom i (by unfold lab at hi; omega)).2
theorem Lb.old (h : Lb W w o) {j : Nat} (hj : j ≠ 0) : ∀ i, lab o j i → W.heap.size ≤ i := fun i hi => (h.dom i (by unfold lab at hi; omega)).1
/-- One thing has turned: the others are as they were. -/
theorem Lb.step (h : Lb W w o) {j : Nat} (hj : j ≠ 0) {Z' : Nat → Prop} (g : Gw w w' (lab o j) Z') : ∃ o', Lb W w' o' ∧ (∀ P, Good P → P w' Z' → P w' (lab o' j)) ∧ (∀ k, k ≠ 0 → k ≠ j → ∀ P, Good P → P w (lab o k) → P w' (lab o' k)) ∧ (∀ i, w.heap.size ≤ i → ¬ Z' i → o' i = 0) ∧ ∀ i, o' i ≠ 0 → o' i = j ∨ o i = o' i := by
  classical
  have hs := g.fr.size
  refine ⟨fun i => if i < w.heap.size then o i else if Z' i then j else 0, ⟨h.nw.on g.fr (h.old hj), fun i hi => ?_⟩, fun P hP p => hP.mono p (fun i hi => ?_) fun i hi => ?_, fun k hk hkj P hP p => hP.mono (hP.carry p g.fr fun i hi e => hkj ?_) (fun i hi => ?_) fun i hi => ?_, fun i h1 h2 => ?_, fun i hi => ?_⟩
  · by_cases h1 : i < w.heap.size
    · simp only [if_pos h1] at hi
      have := h.dom i hi
      omega
    · simp only [if_neg h1] at hi
      by_cases h2 : Z' i
      · have := g.lt i h2; have := h.nw.le; omega
      · simp [h2] at hi
  · show (if i < w.heap.size then o i else if Z' i then j else 0) = j
    by_cases h1 : i < w.heap.size
    · rw [if_pos h1]
      rcases g.new i hi with e | e
      · exact e
      · omega
    · rw [if_neg h1, if_pos hi]
  · have hi : (if i < w.heap.size then o i else if Z' i then j else 0) = j := hi
    by_cases h1 : i < w.heap.size
    · omega
    · rw [if_neg h1] at hi
      by_cases h2 : Z' i
      · exact g.lt i h2
      · rw [if_neg h2] at hi; exact (hj hi.symm).elim
  · have h1 : o i = k := hi
    have h2 : o i = j := e
    omega
  · have h1 : o i = k := hi
    show (if i < w.heap.size then o i else if Z' i then j else 0) = k
    rw [if_pos (h.dom i (by omega)).2]
    exact h1
  · have hi : (if i < w.heap.size then o i else if Z' i then j else 0) = k := hi
    by_cases h1 : i < w.heap.size
    · omega
    · rw [if_neg h1] at hi
      by_cases h2 : Z' i
      · rw [if_pos h2] at hi; exact (hkj hi.symm).elim
      · rw [if_neg h2] at hi; exact (hk hi.symm).elim
  · show (if i < w.heap.size then o i else if Z' i then j else 0) = 0
    rw [if_neg (by omega), if_neg h2]
  · show (if i < w.heap.size then o i else if Z' i then j else 0) = j ∨ o i = (if i < w.heap.size then o i else if Z' i then j else 0)
    have hi : (if i < w.heap.size then o i else if Z' i then j else 0) ≠ 0 := hi
    by_cases h1 : i < w.heap.size
    · rw [if_pos h1]; exact .inr rfl
    · rw [if_neg h1] at hi ⊢
      by_cases h2 : Z' i
      · rw [if_pos h2]; exact .inl rfl
      · rw [if_neg h2] at hi; exact (hi rfl).elim
/-- Blocks that are nobody's are named. -/
theorem Lb.name (h : Lb W w o) {j : Nat} (hn : ∀ i, o i ≠ j) {Z : Nat → Prop} (hz : ∀ i, Z i → o i = 0 ∧ W.heap.size ≤ i ∧ i < w.heap.size) : ∃ o', Lb W w o' ∧ (∀ P, Good P → P w Z → P w (lab o' j)) ∧ (∀ k, k ≠ 0 → k ≠ j → ∀ P, Good P → P w (lab o k) → P w (lab o' k)) ∧ ∀ i, o' i ≠ 0 → o' i = j ∨ o i = o' i := by
  classical
  refine ⟨fun i => if Z i then j else o i, ⟨h.nw, fun i hi => ?_⟩, fun P hP p => hP.mono p (fun i hi => if_pos hi) fun i hi => ?_, fun k hk hkj P hP p => hP.mono p (fun i hi => ?_) fun i hi => ?_, fun i _ => ?_⟩
  · by_cases h1 : Z i
    · exact (hz i h1).2
    · simp only [if_neg h1] at hi; exact h.dom i hi
  · by_cases h1 : Z i
    · exact (hz i h1).2.2
    · have hi : (if Z i then j else o i) = j := hi
      rw [if_neg h1] at hi; exact (hn i hi).elim
  · have h1 : o i = k := hi
    show (if Z i then j else o i) = k
    rw [if_neg fun e => by have := (hz i e).1; omega]
    exact h1
  · have hi : (if Z i then j else o i) = k := hi
    by_cases h1 : Z i
    · exact (hz i h1).2.2
    · rw [if_neg h1] at hi; exact h.lt hk i hi
  · show (if Z i then j else o i) = j ∨ o i = (if Z i then j else o i)
    by_cases h1 : Z i
    · rw [if_pos h1]; exact .inl rfl
    · rw [if_neg h1]; exact .inr rfl
end
/-- Things side by side, all of them new since W. -/
def Things (W w : World) (ts : List (World → (Nat → Prop) → Prop)) : Prop :=
  ∃ o, Lb W w o ∧ (∀ i, o i ≤ ts.length) ∧ (∀ P ∈ ts, Good P) ∧ ∀ (j : Nat) (P : World → (Nat → Prop) → Prop), ts[j]? = some P → P w (lab o (j + 1))
section
variable {W w w' : World} {ts : List (World → (Nat → Prop) → Prop)} {P P' : World → (Nat → Prop) → Prop}
theorem Things.start (h : Nw W w) : Things W w [] := ⟨fun _ => 0, Lb.start h, fun _ => Nat.zero_le _, fun P hP => by simp at hP, fun j P hj => by simp at hj⟩
theorem Things.nw (h : Things W w ts) : Nw W w := by obtain ⟨o, h, _⟩ := h; exact h.nw
theorem Things.kept (h : Things W w ts) (f : Fr (fun _ => False) w w') : Things W w' ts := by
  obtain ⟨o, h1, h2, h3, h4⟩ := h
  exact ⟨o, h1.kept f, h2, h3, fun j P hj => (h3 P (List.mem_of_getElem? hj)).kept (h4 j P hj) f⟩
theorem Things.get (h : Things W w ts) (j : Nat) (hj : ts[j]? = some P) : ∃ U, P w U ∧ ∀ i, U i → W.heap.size ≤ i := by
  obtain ⟨o, h1, _, _, h4⟩ := h
  exact ⟨_, h4 j P hj, h1.old (by omega)⟩
/-- One of them has turned. -/
theorem Things.turn (h : Things W w ts) (j : Nat) (hj : ts[j]? = some P) : ∃ U, P w U ∧ (∀ i, U i → W.heap.size ≤ i ∧ i < w.heap.size) ∧ ∀ P' w' U', Good P' → P' w' U' → Gw w w' U U' → Things W w' (ts.set j P') := by
  obtain ⟨o, h1, h2, h3, h4⟩ := h
  refine ⟨_, h4 j P hj, fun i hi => ⟨h1.old (by omega) i hi, h1.lt (j := j + 1) (by omega) i hi⟩, fun P' w' U' hP hp g => ?_⟩
  have hjl := (List.getElem?_eq_some_iff.1 hj).1
  obtain ⟨o', l1, l2, l3, l4, l5⟩ := h1.step (j := j + 1) (by omega) g
  refine ⟨o', l1, fun i => ?_, fun R hR => ?_, fun m R hm => ?_⟩
  · rw [List.length_set]
    by_cases h0 : o' i = 0
    · omega
    · rcases l5 i h0 with e | e
      · omega
      · rw [← e]; exact h2 i
  · rcases List.mem_or_eq_of_mem_set hR with e | rfl
    · exact h3 R e
    · exact hP
  · rw [List.getElem?_set] at hm
    split at hm
    case isTrue e =>
      subst e
      simp only [Option.some.injEq] at hm
      subst hm
      exact l2 _ hP hp
    case isFalse e => exact l3 (m + 1) (by omega) (by omega) R (h3 R (List.mem_of_getElem? hm)) (h4 m R hm)
theorem Things.lift (h : Things W w ts) (j : Nat) (hj : ts[j]? = some P) (hP : Good P') {Pg : Program} {F : Nat} {args : Array Value} {R : Ending → Prop}
    (base : ∀ U, P w U → Calls Pg F args w fun e w' => R e ∧ ∃ U', P' w' U' ∧ Gw w w' U U') : Calls Pg F args w fun e w' => R e ∧ Things W w' (ts.set j P') := by
  obtain ⟨U, h1, _, h2⟩ := h.turn j hj
  exact (base U h1).mono fun e w' ⟨he, U', g1, g2⟩ => ⟨he, h2 P' w' U' hP g1 g2⟩
theorem Things.ask (h : Things W w ts) (j : Nat) (hj : ts[j]? = some P) {Pg : Program} {F : Nat} {args : Array Value} {R : Ending → Prop}
    (base : ∀ U, P w U → Calls Pg F args w fun e w' => R e ∧ Fr (fun _ => False) w w') : Calls Pg F args w fun e w' => R e ∧ Things W w' ts := by
  obtain ⟨U, h1, _⟩ := h.get j hj
  exact (base U h1).mono fun e w' ⟨he, f⟩ => ⟨he, h.kept f⟩
/-- One more has come, in new blocks. -/
theorem Things.more (h : Things W w ts) (hP : Good P') {Z : Nat → Prop} (hp : P' w' Z) (f : Fr (fun _ => False) w w') (hz : ∀ i, Z i → w.heap.size ≤ i ∧ i < w'.heap.size) : Things W w' (ts ++ [P']) := by
  obtain ⟨o, h1, h2, h3, h4⟩ := h
  obtain ⟨o', l1, l2, l3, l4⟩ := (h1.kept f).name (j := ts.length + 1) (fun i => by have := h2 i; omega) (Z := Z) fun i hi => ⟨Classical.byContradiction fun e => by have := (h1.dom i e).2; have := (hz i hi).1; omega, by have := (hz i hi).1; have := h1.nw.le; omega, (hz i hi).2⟩
  refine ⟨o', l1, fun i => ?_, fun R hR => ?_, fun m R hm => ?_⟩
  · rw [List.length_append, List.length_singleton]
    by_cases h0 : o' i = 0
    · omega
    · rcases l4 i h0 with e | e
      · omega
      · have := h2 i; omega
  · rw [List.mem_append, List.mem_singleton] at hR
    rcases hR with e | rfl
    · exact h3 R e
    · exact hP
  · by_cases hlt : m < ts.length
    · rw [List.getElem?_append_left hlt] at hm
      have hG := h3 R (List.mem_of_getElem? hm)
      exact l3 (m + 1) (by omega) (by omega) R hG (hG.kept (h4 m R hm) f)
    · rw [List.getElem?_append_right (by omega)] at hm
      have hm0 : m - ts.length = 0 := by
        have := (List.getElem?_eq_some_iff.1 hm).1
        simpa using this
      rw [hm0] at hm
      simp only [List.getElem?_cons_zero, Option.some.injEq] at hm
      subst hm
      rw [show m = ts.length by omega]
      exact l2 _ hP hp
/-- The last one is forgotten. -/
theorem Things.less {R : World → (Nat → Prop) → Prop} (h : Things W w (ts ++ [R])) : Things W w ts := by
  classical
  obtain ⟨o, h1, h2, h3, h4⟩ := h
  refine ⟨fun i => if o i = ts.length + 1 then 0 else o i, ⟨h1.nw, fun i hi => ?_⟩, fun i => ?_, fun Q hQ => h3 Q (List.mem_append_left _ hQ), fun j Q hj => ?_⟩
  · by_cases e : o i = ts.length + 1
    · simp [e] at hi
    · simp only [if_neg e] at hi; exact h1.dom i hi
  · show (if o i = ts.length + 1 then 0 else o i) ≤ ts.length
    have := h2 i
    simp only [List.length_append, List.length_singleton] at this
    split <;> omega
  · have hjl := (List.getElem?_eq_some_iff.1 hj).1
    have hG := h3 Q (List.mem_append_left _ (List.mem_of_getElem? hj))
    have hp := h4 j Q (by rw [List.getElem?_append_left hjl]; exact hj)
    refine hG.mono hp (fun i hi => ?_) fun i hi => ?_
    · have h5 : o i = j + 1 := hi
      show (if o i = ts.length + 1 then 0 else o i) = j + 1
      rw [if_neg (by omega)]; exact h5
    · have h5 : (if o i = ts.length + 1 then 0 else o i) = j + 1 := hi
      split at h5
      · omega
      · exact h1.lt (j := j + 1) (by omega) i h5
end
/-- A block by itself. -/
def Blk (B : Nat) (ob : Obj) (w : World) (Z : Nat → Prop) : Prop := w.heap[B]? = some ob ∧ Z B ∧ ∀ i, Z i → i < w.heap.size
theorem Blk.good (B : Nat) (ob : Obj) : Good (Blk B ob) :=
  ⟨fun h f hs => ⟨by rw [f.block B (h.2.2 B h.2.1) (hs B h.2.1)]; exact h.1, h.2.1, fun i hi => Nat.lt_of_lt_of_le (h.2.2 i hi) f.size⟩, fun h h1 h2 => ⟨h.1, h1 _ h.2.1, h2⟩⟩
theorem Blk.new (w : World) (ob : Obj) : Blk w.heap.size ob (w.alloc ob) (fun i => i = w.heap.size) := ⟨heap_alloc_new w ob, rfl, fun i hi => by simp only [World.size_alloc]; omega⟩
/-- Numbers where a slice says. -/
def Lv (ad : Option Addr) (l : List Int) (w : World) (Z : Nat → Prop) : Prop := NumsAt w ad l ∧ (∀ b off, ad = some ⟨b, off, none⟩ → 0 < l.length → Z b) ∧ ∀ i, Z i → i < w.heap.size
theorem Lv.good (ad : Option Addr) (l : List Int) : Good (Lv ad l) :=
  ⟨fun h f hs => ⟨h.1.carry f fun b off e h0 => hs b (h.2.1 b off e h0), h.2.1, fun i hi => Nat.lt_of_lt_of_le (h.2.2 i hi) f.size⟩, fun h h1 h2 => ⟨h.1, fun b off e h0 => h1 b (h.2.1 b off e h0), h2⟩⟩
theorem Lv.new {w : World} {ad : Option Addr} {l : List Int} (h : NumsAt w ad l) : Lv ad l w (fun b => (∃ off, ad = some ⟨b, off, none⟩) ∧ 0 < l.length) :=
  ⟨h, fun b off e h0 => ⟨⟨off, e⟩, h0⟩, fun i ⟨⟨off, e⟩, h0⟩ => by
    obtain ⟨b, off', e1, e2, _⟩ := h 0 h0
    rw [e] at e1
    simp only [Option.some.injEq, Addr.mk.injEq] at e1
    omega⟩
/-- A row of numbers of the call's own. -/
def Rw (base : Nat) (y : Value) (l : List Int) (w : World) (Z : Nat → Prop) : Prop := w.ownsRow base 3 1 y l.length (ic l) ∧ (∀ g, y.ownBlock = some g → Z g) ∧ ∀ i, Z i → i < w.heap.size
theorem row_turn {w w' : World} {base : Nat} {v : Value} {S : Nat → Prop} {e : TypeId} {size n : Nat} {xs : List Value} (h : w.ownsRow base e size v n xs) (f : Fr S w w') (hs : ∀ x, v.ownBlock = some x → ¬ S x) : w'.ownsRow base e size v n xs := by
  obtain ⟨h1, h2⟩ := h
  refine ⟨h1, ?_⟩
  rcases h2 with h2 | ⟨g, cap, cur, rfl, hb, hc, rest⟩
  · exact .inl h2
  · exact .inr ⟨g, cap, cur, rfl, hb, by rw [f.block g (Array.getElem?_eq_some_iff.1 hc).1 (hs g rfl)]; exact hc, rest⟩
theorem Rw.good (base : Nat) (y : Value) (l : List Int) : Good (Rw base y l) :=
  ⟨fun h f hs => ⟨row_turn h.1 f fun x e => hs x (h.2.1 x e), h.2.1, fun i hi => Nat.lt_of_lt_of_le (h.2.2 i hi) f.size⟩, fun h h1 h2 => ⟨h.1, fun g e => h1 g (h.2.1 g e), h2⟩⟩
theorem Rw.empty (base : Nat) (w : World) : Rw base (.slice none 0 0) [] w (fun _ => False) := ⟨⟨rfl, .inl ⟨rfl, rfl⟩⟩, fun g e => by simp [Value.ownBlock] at e, fun _ e => e.elim⟩
/-- One number more stands behind it. -/
theorem Rw.grow {base g m m2 cap : Nat} {y : Value} {l : List Int} {x : Int} {w w' : World} {Z : Nat → Prop} (h : Rw base y l w Z) {w0 : World} (f : Fr (fun _ => False) w w0) (hown : w'.ownsRow base 3 1 (.slice (some ⟨g, 0, none⟩) m cap) m2 (ic (l ++ [x]))) (hm : m2 = l.length + 1) (hg : w0.grownBy w' y.ownBlock) (hw : y.ownBlock = some g ∨ w.heap.size ≤ g) : ∃ Z', Rw base (.slice (some ⟨g, 0, none⟩) m cap) (l ++ [x]) w' Z' ∧ Gw w w' Z Z' := by
  have hs := f.size
  have hlt : ∀ i, (Z i ∨ i = g) → i < w'.heap.size := fun i hi => by
    rcases hi with hi | rfl
    · have := h.2.2 i hi; have := hg.size; omega
    · exact (hown.lt i rfl).2
  refine ⟨fun i => Z i ∨ i = g, ⟨by subst hm; rw [List.length_append]; exact hown, fun g' e => .inr (by simpa [Value.ownBlock] using e.symm), hlt⟩, ⟨fun _ => .inl, fun i hi => ?_, hlt, (f.mono fun _ _ e => e.elim).grown hg fun k e => .inl (h.2.1 k e)⟩⟩
  rcases hi with hi | rfl
  · exact .inl hi
  · rcases hw with e | e
    · exact .inl (h.2.1 i e)
    · exact .inr e
/-- Of things side by side one is a row: a number is put behind it. -/
theorem Things.push {W w : World} {ts : List (World → (Nat → Prop) → Prop)} (h : Things W w ts) (j : Nat) {base : Nat} {y : Value} {l : List Int} (hj : ts[j]? = some (Rw base y l)) : w.ownsRow base 3 1 y l.length (ic l) ∧ ∀ {w0 w' : World} {g m m2 cap : Nat} {x : Int}, Fr (fun _ => False) w w0 → w'.ownsRow base 3 1 (.slice (some ⟨g, 0, none⟩) m cap) m2 (ic (l ++ [x])) → m2 = l.length + 1 → w0.grownBy w' y.ownBlock → (y.ownBlock = some g ∨ w.heap.size ≤ g) → Things W w' (ts.set j (Rw base (.slice (some ⟨g, 0, none⟩) m cap) (l ++ [x]))) := by
  obtain ⟨U, h1, _, h2⟩ := h.turn j hj
  refine ⟨h1.1, fun f ho hm hg hw => ?_⟩
  obtain ⟨Z', r1, r2⟩ := h1.grow f ho hm hg hw
  exact h2 _ _ Z' (Rw.good _ _ _) r1 r2
/-- Of things side by side one is a list of numbers, or a row. -/
theorem Things.nums {W w : World} {ts : List (World → (Nat → Prop) → Prop)} (h : Things W w ts) (j : Nat) {ad : Option Addr} {l : List Int} (hj : ts[j]? = some (Lv ad l)) : NumsAt w ad l := by
  obtain ⟨U, h1, _⟩ := h.get j hj
  exact h1.1
theorem Things.row {W w : World} {ts : List (World → (Nat → Prop) → Prop)} (h : Things W w ts) (j : Nat) {base : Nat} {y : Value} {l : List Int} (hj : ts[j]? = some (Rw base y l)) : ∃ ad cap, y = .slice ad l.length cap ∧ NumsAt w ad l := by
  obtain ⟨U, h1, _⟩ := h.get j hj
  obtain ⟨ad, cap, e, hn, _⟩ := row_list h1.1
  exact ⟨ad, cap, e, hn⟩
end Go.Proofs.YtejbdbjccjkfdaaGreatDoor

namespace Go.Proofs.YtejbdbjccjkfdaaGreatDoor
open Go.RowKit
open An

/-- An arena (type T) at block a: its bytes are bs, its touches ss; all its blocks are of Z. -/
def Am (T : TypeId) (a : Nat) (bs : List UInt8) (ss : List Sp) (w : World) (Z : Nat → Prop) : Prop :=
  ∃ B b v, Ar w T B a b bs v ss ∧ (Z a ∧ Z b ∧ ∀ y, v.ownBlock = some y → Z y) ∧ ∀ i, Z i → i < w.heap.size
section
variable {w w' : World} {T : TypeId} {a : Nat} {Z : Nat → Prop} {bs bs' : List UInt8} {ss ss' : List Sp}
theorem Am.good (T : TypeId) (a : Nat) (bs : List UInt8) (ss : List Sp) : Good (Am T a bs ss) :=
  ⟨fun ⟨B, b, v, h, ⟨h1, h2, h3⟩, h4⟩ f hs => ⟨B, b, v, h.carry f (hs _ h1) (hs _ h2) (fun x e => hs _ (h3 x e)), ⟨h1, h2, h3⟩, fun i hi => Nat.lt_of_lt_of_le (h4 i hi) f.size⟩,
   fun ⟨B, b, v, h, ⟨h1, h2, h3⟩, _⟩ k1 k2 => ⟨B, b, v, h, ⟨k1 _ h1, k1 _ h2, fun x e => k1 _ (h3 x e)⟩, k2⟩⟩
theorem Am.kept (h : Am T a bs ss w Z) (f : Fr (fun _ => False) w w') : Am T a bs ss w' Z := (Am.good T a bs ss).kept h f
theorem Am.lt (h : Am T a bs ss w Z) : ∀ i, Z i → i < w.heap.size := by obtain ⟨_, _, _, _, _, h⟩ := h; exact h
theorem Am.here (h : Am T a bs ss w Z) : Z a := by obtain ⟨_, _, _, _, h, _⟩ := h; exact h.1
theorem Am.le (h : Am T a bs ss w Z) : bs.length ≤ 2097152 := by obtain ⟨_, _, _, h, _⟩ := h; exact h.le
theorem Am.noted {B b : Nat} {v : Value} (h1 : Z a ∧ Z b ∧ ∀ y, v.ownBlock = some y → Z y) (h2 : ∀ i, Z i → i < w.heap.size) (hn : Noted w w' T B a b bs' v ss') : ∃ Z', Am T a bs' ss' w' Z' ∧ Gw w w' Z Z' := by
  obtain ⟨v', h', f', hv⟩ := hn
  have hlt : ∀ i, (Z i ∨ v'.ownBlock = some i) → i < w'.heap.size := fun i hi => by
    rcases hi with hi | hi
    · exact Nat.lt_of_lt_of_le (h2 i hi) f'.size
    · exact (h'.own i hi).2
  refine ⟨fun i => Z i ∨ v'.ownBlock = some i, ⟨B, b, v', h', ⟨.inl h1.1, .inl h1.2.1, fun y e => .inr e⟩, hlt⟩, ⟨fun _ => .inl, fun i hi => ?_, hlt, f'.mono fun i _ e => ?_⟩⟩
  · rcases hi with hi | hi
    · exact .inl hi
    · rcases hv i hi with e | e
      · exact .inl (h1.2.2 i e)
      · exact .inr e
  · rcases e with rfl | rfl | e
    · exact h1.1
    · exact h1.2.1
    · exact h1.2.2 i e
theorem am_new (n : Nat) (w : World) (h : n ≤ 2097152) : Calls Tryz.prog 34 #[.int .i64 n] w fun e w' => ∃ a Z, e = .returned (.tuple #[.pointer (some ⟨a, 0, none⟩), .int .i64 0]) ∧ Am 144 a (List.replicate n 0) [] w' Z ∧ (∀ i, Z i → w.heap.size ≤ i) ∧ Fr (fun _ => False) w w' :=
  (new_ok n w h).mono fun e w' ⟨he, har, hf, hz⟩ => ⟨_, fun i => i = w.heap.size + 1 ∨ i = w.heap.size, he, ⟨_, _, _, har, ⟨.inl rfl, .inr rfl, fun y e => by cases e⟩, fun i hi => by omega⟩, fun i hi => by omega, hf⟩
theorem am_load (h : Am 144 a bs ss w Z) (p : Nat) (hin : p + 8 ≤ bs.length) (hk : ss.length ≤ 1000000) : Calls Tryz.prog 223 #[.pointer (some ⟨a, 0, none⟩), .int .i64 p] w fun e w' => e = .returned (.tuple #[.int .u64 (word ((bs.drop p).take 8) : Int), .int .i64 0]) ∧ ∃ Z', Am 144 a bs (ss ++ [((p : Int), (8 : Int), false)]) w' Z' ∧ Gw w w' Z Z' := by
  obtain ⟨B, b, v, h, h1, h2⟩ := h
  exact (load_ok h p hin hk).mono fun e w' ⟨he, hn⟩ => ⟨he, Am.noted h1 h2 hn⟩
theorem am_store (h : Am 144 a bs ss w Z) (p u : Nat) (hu : u < 18446744073709551616) (hin : p + 8 ≤ bs.length) (hk : ss.length ≤ 1000000) : Calls Tryz.prog 199 #[.pointer (some ⟨a, 0, none⟩), .int .i64 p, .int .u64 u] w fun e w' => e = .returned (.int .i64 0) ∧ ∃ Z', Am 144 a (over bs p (leb u 8)) (ss ++ [((p : Int), (8 : Int), true)]) w' Z' ∧ Gw w w' Z Z' := by
  obtain ⟨B, b, v, h, h1, h2⟩ := h
  exact (store_ok h p u hu hin hk).mono fun e w' ⟨he, hn⟩ => ⟨he, Am.noted h1 h2 hn⟩
theorem am_read (h : Am 144 a bs ss w Z) (p m : Nat) (hin : p + m ≤ bs.length) (hk : ss.length ≤ 1000000) : Calls Tryz.prog 30 #[.pointer (some ⟨a, 0, none⟩), .int .i64 p, .int .i64 m] w fun e w' => e = .returned (.tuple #[.string ⟨((bs.drop p).take m).toArray⟩, .int .i64 0]) ∧ ∃ Z', Am 144 a bs (noted ss p m false) w' Z' ∧ Gw w w' Z Z' := by
  obtain ⟨B, b, v, h, h1, h2⟩ := h
  exact (read_ok h p m hin hk).mono fun e w' ⟨he, hn⟩ => ⟨he, Am.noted h1 h2 hn⟩
theorem am_size (h : Am 144 a bs ss w Z) : Calls Tryz.prog 31 #[.pointer (some ⟨a, 0, none⟩)] w fun e w' => e = .returned (.int .i64 bs.length) ∧ w' = w := by
  obtain ⟨B, b, v, h, h1, h2⟩ := h
  exact size_any h
theorem rm_new (n : Nat) (w : World) (h : n ≤ 2097152) : Calls Tryz.prog 35 #[.int .i64 n] w fun e w' => ∃ a Z, e = .returned (.tuple #[.pointer (some ⟨a, 0, none⟩), .int .i64 0]) ∧ Am 78 a (List.replicate n 0) [] w' Z ∧ (∀ i, Z i → w.heap.size ≤ i) ∧ Fr (fun _ => False) w w' :=
  (rnew_ok n w h).mono fun e w' ⟨he, har, hf, hz⟩ => ⟨_, fun i => i = w.heap.size + 1 ∨ i = w.heap.size, he, ⟨_, _, _, har, ⟨.inl rfl, .inr rfl, fun y e => by cases e⟩, fun i hi => by omega⟩, fun i hi => by omega, hf⟩
theorem rm_store (h : Am 78 a bs ss w Z) (p u : Nat) (hu : u < 18446744073709551616) (hin : p + 8 ≤ bs.length) (hk : ss.length ≤ 1000000) : Calls Tryz.prog 203 #[.pointer (some ⟨a, 0, none⟩), .int .i64 p, .int .u64 u] w fun e w' => e = .returned (.int .i64 0) ∧ ∃ Z', Am 78 a (over bs p (leb u 8)) (ss ++ [((p : Int), (8 : Int), true)]) w' Z' ∧ Gw w w' Z Z' := by
  obtain ⟨B, b, v, h, h1, h2⟩ := h
  exact (rstore_ok h p u hu hin hk).mono fun e w' ⟨he, hn⟩ => ⟨he, Am.noted h1 h2 (noted8 ss p true ▸ hn)⟩
end
end Go.Proofs.YtejbdbjccjkfdaaGreatDoor

namespace Go.Proofs.YtejbdbjccjkfdaaGreatDoor
open Go.RowKit
open An

/-- What says a chain in memory: at block c, over the arena at block a. -/
structure Chain1 (Q : World → Nat → Nat → Ck → Prop) : Prop where
  carry : ∀ {w w' : World} {c a : Nat} {k : Ck} {S : Nat → Prop}, Q w c a k → Fr S w w' → ¬ S c → Q w' c a k
  lt : ∀ {w : World} {c a : Nat} {k : Ck}, Q w c a k → c < w.heap.size
/-- An arena (type T) at block a, and chains over it, each at a block of its own. -/
def Cs (T : TypeId) (Q : World → Nat → Nat → Ck → Prop) (a : Nat) (bs : List UInt8) (ss : List Sp) (L : List (Nat × Ck)) (w : World) (U : Nat → Prop) : Prop :=
  ∃ Z, Am T a bs ss w Z ∧ (∀ i, Z i → U i) ∧ (∀ p ∈ L, U p.1 ∧ ¬ Z p.1 ∧ Q w p.1 a p.2 ∧ p.2.Ok bs.length) ∧ (L.map Prod.fst).Nodup ∧ ∀ i, U i → i < w.heap.size
section
variable {T : TypeId} {Q : World → Nat → Nat → Ck → Prop} {a : Nat} {bs bs' : List UInt8} {ss ss' : List Sp} {L L' : List (Nat × Ck)} {w w' : World} {U Z Z' : Nat → Prop}
theorem Cs.good (hQ : Chain1 Q) (T : TypeId) (a : Nat) (bs : List UInt8) (ss : List Sp) (L : List (Nat × Ck)) : Good (Cs T Q a bs ss L) :=
  ⟨fun ⟨Z, h1, h2, h3, h4, h5⟩ f hs => ⟨Z, (Am.good T a bs ss).carry h1 f fun i hi => hs i (h2 i hi), h2, fun p hp => by
      obtain ⟨k1, k2, k3, k4⟩ := h3 p hp
      exact ⟨k1, k2, hQ.carry k3 f (hs _ k1), k4⟩, h4, fun i hi => Nat.lt_of_lt_of_le (h5 i hi) f.size⟩,
   fun ⟨Z, h1, h2, h3, h4, _⟩ k1 k2 => ⟨Z, h1, fun i hi => k1 i (h2 i hi), fun p hp => ⟨k1 _ (h3 p hp).1, (h3 p hp).2⟩, h4, k2⟩⟩
theorem Cs.kept (hQ : Chain1 Q) (h : Cs T Q a bs ss L w U) (f : Fr (fun _ => False) w w') : Cs T Q a bs ss L w' U := (Cs.good hQ T a bs ss L).kept h f
theorem Cs.lt (h : Cs T Q a bs ss L w U) : ∀ i, U i → i < w.heap.size := by obtain ⟨_, _, _, _, _, h⟩ := h; exact h
theorem Cs.le (h : Cs T Q a bs ss L w U) : bs.length ≤ 2097152 := by obtain ⟨_, h, _⟩ := h; exact h.le
theorem Cs.bare (h : Am T a bs ss w Z) : Cs T Q a bs ss [] w Z := ⟨Z, h, fun _ => id, fun p hp => by simp at hp, by simp, h.lt⟩
/-- A chain has come. -/
theorem Cs.more (hQ : Chain1 Q) (h : Cs T Q a bs ss L w U) {c : Nat} {k : Ck} (hc : w.heap.size ≤ c) (hq : Q w' c a k) (hk : k.Ok bs.length) (f : Fr (fun _ => False) w w') : Cs T Q a bs ss (L ++ [(c, k)]) w' (fun i => U i ∨ i = c) ∧ Gw w w' U (fun i => U i ∨ i = c) := by
  have hlt := hQ.lt hq
  have hU : ∀ i, (U i ∨ i = c) → i < w'.heap.size := fun i hi => by
    rcases hi with hi | rfl
    · exact Nat.lt_of_lt_of_le (h.lt i hi) f.size
    · exact hlt
  obtain ⟨Z, h1, h2, h3, h4, h5⟩ := h
  refine ⟨⟨Z, h1.kept f, fun i hi => .inl (h2 i hi), fun p hp => ?_, ?_, hU⟩, ⟨fun _ => .inl, fun i hi => ?_, hU, f.mono fun _ _ e => e.elim⟩⟩
  · rw [List.mem_append, List.mem_singleton] at hp
    rcases hp with hp | rfl
    · obtain ⟨k1, k2, k3, k4⟩ := h3 p hp
      exact ⟨.inl k1, k2, hQ.carry k3 f id, k4⟩
    · exact ⟨.inr rfl, fun e => by have := h1.lt _ e; omega, hq, hk⟩
  · rw [List.map_append, List.nodup_append]
    refine ⟨h4, by simp, fun x hx y hy => ?_⟩
    simp only [List.map_cons, List.map_nil, List.mem_singleton] at hy
    rw [List.mem_map] at hx
    obtain ⟨p, hp, rfl⟩ := hx
    have := h5 _ (h3 p hp).1
    omega
  · rcases hi with hi | rfl
    · exact .inl hi
    · exact .inr hc
/-- The chain of a number, with its arena; what it leaves is laid back. -/
theorem Cs.one (hQ : Chain1 Q) (h : Cs T Q a bs ss L w U) (i : Nat) {c : Nat} {k : Ck} (hi : L[i]? = some (c, k)) : ∃ Z, Am T a bs ss w Z ∧ Q w c a k ∧ k.Ok bs.length ∧ ¬ Z c ∧
    ∀ (w' : World) (Z' : Nat → Prop) (bs' : List UInt8) (ss' : List Sp) (k' : Ck), Am T a bs' ss' w' Z' → Q w' c a k' → k'.Ok bs.length → bs'.length = bs.length → (∀ i, Z' i → Z i ∨ w.heap.size ≤ i) → ¬ Z' c → Fr (fun i => i = c ∨ Z i) w w' → Cs T Q a bs' ss' (L.set i (c, k')) w' (fun j => U j ∨ Z' j) ∧ Gw w w' U (fun j => U j ∨ Z' j) := by
  obtain ⟨Z, h1, h2, h3, h4, h5⟩ := h
  obtain ⟨hil, hie⟩ := List.getElem?_eq_some_iff.1 hi
  obtain ⟨q1, q2, q3, q4⟩ := h3 (c, k) (hie ▸ List.getElem_mem hil)
  refine ⟨Z, h1, q3, q4, q2, fun w' Z' bs' ss' k' g1 g2 g3 g4 g5 g6 f => ?_⟩
  have hlt : ∀ j, (U j ∨ Z' j) → j < w'.heap.size := fun j hj => by
    rcases hj with hj | hj
    · exact Nat.lt_of_lt_of_le (h5 j hj) f.size
    · exact g1.lt j hj
  have hfst : (L.set i (c, k')).map Prod.fst = L.map Prod.fst := by
    rw [List.map_set]
    apply List.ext_getElem?
    intro j
    rw [List.getElem?_set]
    split
    case isTrue e => subst e; simp [hil, hie]
    case isFalse => rfl
  refine ⟨⟨Z', g1, fun _ => .inr, fun p hp => ?_, by rw [hfst]; exact h4, hlt⟩, ⟨fun _ => .inl, fun j hj => ?_, hlt, f.mono fun j _ e => ?_⟩⟩
  · obtain ⟨j, hj, rfl⟩ := List.getElem_of_mem hp
    rw [List.getElem_set]
    split
    case isTrue e => exact ⟨.inl q1, g6, g2, by rw [g4]; exact g3⟩
    case isFalse e =>
      rw [List.length_set] at hj
      obtain ⟨r1, r2, r3, r4⟩ := h3 L[j] (List.getElem_mem hj)
      have hne : L[j].1 ≠ c := fun e2 => e (by
        have hji : (L.map Prod.fst)[j]? = (L.map Prod.fst)[i]? := by simp [hj, hil, hie, e2]
        exact ((List.getElem?_inj (by simpa using hj) h4).1 hji).symm)
      refine ⟨.inl r1, fun e2 => ?_, hQ.carry r3 f fun e2 => ?_, by rw [g4]; exact r4⟩
      · rcases g5 _ e2 with e2 | e2
        · exact r2 e2
        · have := h5 _ r1; omega
      · rcases e2 with e2 | e2
        · exact hne e2
        · exact r2 e2
  · rcases hj with hj | hj
    · exact .inl hj
    · rcases g5 j hj with e | e
      · exact .inl (h2 j e)
      · exact .inr e
  · rcases e with rfl | e
    · exact q1
    · exact h2 j e
end
/-- What a call of a chain leaves: the arena, the chain, and all else as it was. -/
structure Left (T : TypeId) (Q : World → Nat → Nat → Ck → Prop) (w : World) (c a : Nat) (Z : Nat → Prop) (bs' : List UInt8) (ss' : List Sp) (k' : Ck) (Z' : Nat → Prop) (w' : World) : Prop where
  am : Am T a bs' ss' w' Z'
  q : Q w' c a k'
  new : ∀ i, Z' i → Z i ∨ w.heap.size ≤ i
  nz : ¬ Z' c
  fr : Fr (fun i => i = c ∨ Z i) w w'
section
variable {T : TypeId} {Q : World → Nat → Nat → Ck → Prop} {w w' w1 : World} {c a : Nat} {k k' : Ck} {Z Z' : Nat → Prop} {bs bs' : List UInt8} {ss ss' : List Sp}
/-- Nothing has turned. -/
theorem Left.same (hQ : Chain1 Q) (h : Am T a bs ss w Z) (q : Q w c a k) (hn : ¬ Z c) (f : Fr (fun _ => False) w w') : Left T Q w c a Z bs ss k Z w' := ⟨h.kept f, hQ.carry q f id, fun _ => .inl, hn, f.mono fun _ _ e => e.elim⟩
/-- The arena alone has turned. -/
theorem Left.arena (hQ : Chain1 Q) (q : Q w c a k) (hn : ¬ Z c) (h : Am T a bs' ss' w' Z') (g : Gw w w' Z Z') : Left T Q w c a Z bs' ss' k Z' w' := ⟨h, hQ.carry q g.fr hn, g.new, fun e => by
  have hc := hQ.lt q
  rcases g.new c e with e | e
  · exact hn e
  · omega, g.fr.mono fun _ _ e => .inr e⟩
/-- And then the chain's own block. -/
theorem Left.chain (h : Left T Q w c a Z bs' ss' k Z' w1) (f : Fr (fun i => i = c) w1 w') (q : Q w' c a k') : Left T Q w c a Z bs' ss' k' Z' w' := ⟨(Am.good T a bs' ss').carry h.am f fun _ hi e => h.nz (e ▸ hi), q, h.new, h.nz, h.fr.trans (f.mono fun _ _ e => .inl e)⟩
theorem Left.set (h : Left T Q w c a Z bs' ss' k Z' w1) {j : Nat} {u : Value} (q : Q (w1.setCell ⟨c, j, none⟩ u) c a k') : Left T Q w c a Z bs' ss' k' Z' (w1.setCell ⟨c, j, none⟩ u) := h.chain (Fr.setCell (S := fun i => i = c) (p := ⟨c, j, none⟩) (Fr.refl _ _) rfl _) q
/-- The chain's own block alone has turned. -/
theorem Left.own (h : Am T a bs ss w Z) (nz : ¬ Z c) (q : Q w' c a k') (f : Fr (fun i => i = c) w w') : Left T Q w c a Z bs ss k' Z w' := ⟨(Am.good T a bs ss).carry h f fun _ hi e => nz (e ▸ hi), q, fun _ => .inl, nz, f.mono fun _ _ e => .inl e⟩
/-- And then the arena once more. -/
theorem Left.arena2 (hQ : Chain1 Q) (h : Left T Q w c a Z bs ss k Z' w1) {Z2 : Nat → Prop} (h2 : Am T a bs' ss' w' Z2) (g : Gw w1 w' Z' Z2) : Left T Q w c a Z bs' ss' k Z2 w' := ⟨h2, hQ.carry h.q g.fr h.nz, fun i hi => by
  rcases g.new i hi with e | e
  · exact h.new i e
  · exact .inr (Nat.le_trans h.fr.size e), fun e => by
  rcases g.new c e with e | e
  · exact h.nz e
  · have := hQ.lt h.q; omega, Fr.trans' h.fr g.fr fun i hi e => by
  rcases h.new i e with e | e
  · exact .inr e
  · omega⟩
theorem Left.ahead (h : Left T Q w1 c a Z bs' ss' k' Z' w') (f : Fr (fun _ => False) w w1) : Left T Q w c a Z bs' ss' k' Z' w' := ⟨h.am, h.q, fun i hi => by
  rcases h.new i hi with e | e
  · exact .inl e
  · exact .inr (Nat.le_trans f.size e), h.nz, Fr.trans' (f.mono fun _ _ e => e.elim) h.fr fun _ _ e => e⟩
/-- Blocks turn that were new, and aren't the arena's. -/
theorem Left.other (hQ : Chain1 Q) (h : Left T Q w c a Z bs ss k Z' w1) (hc : c < w.heap.size) {S : Nat → Prop} (f : Fr S w1 w') (hs : ∀ i, S i → w.heap.size ≤ i ∧ ¬ Z' i) : Left T Q w c a Z bs ss k Z' w' := ⟨(Am.good T a bs ss).carry h.am f fun i hi e => (hs i e).2 hi, hQ.carry h.q f fun e => by have := (hs c e).1; omega, h.new, h.nz, Fr.trans' h.fr f fun i hi e => by have := (hs i e).1; omega⟩
theorem Left.kept (hQ : Chain1 Q) (h : Left T Q w c a Z bs ss k Z' w1) (f : Fr (fun _ => False) w1 w') : Left T Q w c a Z bs ss k Z' w' := ⟨h.am.kept f, hQ.carry h.q f id, h.new, h.nz, Fr.trans' h.fr f fun _ _ e => e.elim⟩
end
/-- The document's chain. -/
def Rch (w : World) (c a : Nat) (k : Ck) : Prop := w.heap[c]? = some (.cells #[.pointer (some ⟨a, 0, none⟩), .int .i64 k.base, .int .i64 k.unit, .int .i64 k.per, .int .i64 ((k.hd : Int) - 1)] 215 (0, 0))
theorem Rch.chain : Chain1 Rch := ⟨fun {w w' c a k S} h f hn => by unfold Rch at h ⊢; rw [f.block c (Array.getElem?_eq_some_iff.1 h).1 hn]; exact h, fun h => (Array.getElem?_eq_some_iff.1 h).1⟩
section
variable {w w' : World} {c a : Nat} {k : Ck}
theorem Rch.c0 (h : Rch w c a k) : w.cell? ⟨c, 0, none⟩ = some (.pointer (some ⟨a, 0, none⟩)) := by unfold Rch at h; simp [World.cell?, h]
theorem Rch.c1 (h : Rch w c a k) : w.cell? ⟨c, 1, none⟩ = some (.int .i64 k.base) := by unfold Rch at h; simp [World.cell?, h]
theorem Rch.c2 (h : Rch w c a k) : w.cell? ⟨c, 2, none⟩ = some (.int .i64 k.unit) := by unfold Rch at h; simp [World.cell?, h]
theorem Rch.c3 (h : Rch w c a k) : w.cell? ⟨c, 3, none⟩ = some (.int .i64 k.per) := by unfold Rch at h; simp [World.cell?, h]
theorem Rch.c4 (h : Rch w c a k) : w.cell? ⟨c, 4, none⟩ = some (.int .i64 ((k.hd : Int) - 1)) := by unfold Rch at h; simp [World.cell?, h]
theorem Rch.fz (h : Rch w c a k) (j : Nat) : w.frozen? ⟨c, j, none⟩ = false := by unfold Rch at h; simp [World.frozen?, h]
theorem Rch.head (h : Rch w c a k) {v : Nat} {x : Int} (hx : x = (v : Int) - 1) : Rch (w.setCell ⟨c, 4, none⟩ (.int .i64 x)) c a (k.to v) := by unfold Rch at h ⊢; subst hx; simp [World.setCell, Array.getElem?_modify, h, Ck.to]
theorem Rch.base (h : Rch w c a k) (x : Nat) : Rch (w.setCell ⟨c, 1, none⟩ (.int .i64 x)) c a ⟨x, k.unit, k.per, k.hd⟩ := by unfold Rch at h ⊢; simp [World.setCell, Array.getElem?_modify, h]
end
end Go.Proofs.YtejbdbjccjkfdaaGreatDoor
