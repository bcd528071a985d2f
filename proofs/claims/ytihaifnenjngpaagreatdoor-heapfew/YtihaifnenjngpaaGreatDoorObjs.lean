/-
  Several things side by side in memory, each in blocks of its own: whose a block is, is told by a label. Nothing of the program is named here.
-/
import Derived.Test.YtihaifnenjngpaaGreatDoorLists
namespace Go.Proofs.YtihaifnenjngpaaGreatDoor
open Go.RowKit

/-- What a call leaves of a thing that lies in blocks of Z: it may have grown by new blocks, and nothing else has turned. -/
structure Gw (w w' : World) (Z Z' : Nat → Prop) : Prop where
  more : ∀ i, Z i → Z' i
  new : ∀ i, Z' i → Z i ∨ w.heap.size ≤ i
  lt : ∀ i, Z' i → i < w'.heap.size
  fr : Fr Z w w'
theorem Gw.same {w w' : World} {Z : Nat → Prop} (h : ∀ i, Z i → i < w.heap.size) (f : Fr Z w w') : Gw w w' Z Z := ⟨fun _ => id, fun _ => .inl, fun i hi => Nat.lt_of_lt_of_le (h i hi) f.size, f⟩
theorem Gw.trans {w w1 w2 : World} {Z Z1 Z2 : Nat → Prop} (h : Gw w w1 Z Z1) (k : Gw w1 w2 Z1 Z2) : Gw w w2 Z Z2 :=
  ⟨fun i hi => k.more i (h.more i hi), fun i hi => by
    rcases k.new i hi with e | e
    · exact h.new i e
    · exact .inr (Nat.le_trans h.fr.size e), k.lt, Fr.trans' h.fr k.fr fun i hi e => by
    rcases h.new i e with e | e
    · exact e
    · omega⟩
/-- Ahead of a call of one's own there were new blocks alone. -/
theorem Gw.ahead {w w1 w2 : World} {Z Z2 : Nat → Prop} (h : Fr (fun _ => False) w w1) (k : Gw w1 w2 Z Z2) : Gw w w2 Z Z2 :=
  ⟨k.more, fun i hi => by
    rcases k.new i hi with e | e
    · exact .inl e
    · exact .inr (Nat.le_trans h.size e), k.lt, Fr.trans' (h.mono fun _ _ e => e.elim) k.fr fun _ _ e => e⟩
theorem Gw.behind {w w1 w2 : World} {Z Z1 : Nat → Prop} (h : Gw w w1 Z Z1) (f : Fr (fun _ => False) w1 w2) : Gw w w2 Z Z1 :=
  ⟨h.more, h.new, fun i hi => Nat.lt_of_lt_of_le (h.lt i hi) f.size, Fr.trans' h.fr f fun _ _ e => e.elim⟩
/-- A thing that lies in blocks of Z alone. -/
structure Good (P : World → (Nat → Prop) → Prop) : Prop where
  carry : ∀ {w w' : World} {Z S : Nat → Prop}, P w Z → Fr S w w' → (∀ i, Z i → ¬ S i) → P w' Z
  mono : ∀ {w : World} {Z Z' : Nat → Prop}, P w Z → (∀ i, Z i → Z' i) → (∀ i, Z' i → i < w.heap.size) → P w Z'
theorem Good.kept {P : World → (Nat → Prop) → Prop} (h : Good P) {w w' : World} {Z : Nat → Prop} (p : P w Z) (f : Fr (fun _ => False) w w') : P w' Z := h.carry p f fun _ _ => id
/-- Labels: 0 is nobody's. All else is new since W. -/
structure Lb (W w : World) (o : Nat → Nat) : Prop where
  nw : Nw W w
  dom : ∀ i, o i ≠ 0 → W.heap.size ≤ i ∧ i < w.heap.size
def lab (o : Nat → Nat) (j : Nat) : Nat → Prop := fun i => o i = j
section
variable {W w w' : World} {o : Nat → Nat}
theorem Lb.start (h : Nw W w) : Lb W w (fun _ => 0) := ⟨h, fun _ e => (e rfl).elim⟩
theorem Lb.kept (h : Lb W w o) (f : Fr (fun _ => False) w w') : Lb W w' o := ⟨h.nw.kept f, fun i hi => by have := h.dom i hi; have := f.size; omega⟩
theorem Lb.lt (h : Lb W w o) {j : Nat} (hj : j ≠ 0) : ∀ i, lab o j i → i < w.heap.size := fun i hi => (h.dom i (by unfold lab at hi; omega)).2
theorem Lb.old (h : Lb W w o) {j : Nat} (hj : j ≠ 0) : ∀ i, lab o j i → W.heap.size ≤ i := fun i hi => (h.dom i (by unfold lab at hi; omega)).1
/-- One thing has turned: the others are as they were. -/
theorem Lb.step (h : Lb W w o) {j : Nat} (hj : j ≠ 0) {Z' : Nat → Prop} (g : Gw w w' (lab o j) Z') : ∃ o', Lb W w' o' ∧ (∀ P, Good P → P w' Z' → P w' (lab o' j)) ∧ (∀ k, k ≠ 0 → k ≠ j → ∀ P, Good P → P w (lab o k) → P w' (lab o' k)) ∧ (∀ i, w.heap.size ≤ i → ¬ Z' i → o' i = 0) ∧ ∀ i, o' i ≠ 0 → o' i = j ∨ o i = o' i := by
  classical
  have hs := g.fr.size
  refine ⟨fun i => if i < w.heap.size then o i else if Z' i then j else 0, ⟨h.nw.on g.fr (h.old hj), fun i hi => ?_⟩, fun P hP p => hP.mono p (fun i hi => ?_) fun i hi => ?_, fun k hk hkj P hP p => hP.mono (hP.carry p g.fr fun i hi e => hkj ?_) (fun i hi => ?_) fun i hi => ?_, fun i h1 h2 => ?_, fun i hi => ?_⟩
  · by_cases h1 : i < w.heap.size
    · simp only [if_pos h1] at hi
      have := h.dom i hi
      omega
    · simp only [if_neg h1] at hi
      by_cases h2 : Z' i
      · have := g.lt i h2; have := h.nw.le; omega
      · simp [h2] at hi
  · show (if i < w.heap.size then o i else if Z' i then j else 0) = j
    by_cases h1 : i < w.heap.size
    · rw [if_pos h1]
      rcases g.new i hi with e | e
      · exact e
      · omega
    · rw [if_neg h1, if_pos hi]
  · have hi : (if i < w.heap.size then o i else if Z' i then j else 0) = j := hi
    by_cases h1 : i < w.heap.size
    · omega
    · rw [if_neg h1] at hi
      by_cases h2 : Z' i
      · exact g.lt i h2
      · rw [if_neg h2] at hi; exact (hj hi.symm).elim
  · have h1 : o i = k := hi
    have h2 : o i = j := e
    omega
  · have h1 : o i = k := hi
    show (if i < w.heap.size then o i else if Z' i then j else 0) = k
    rw [if_pos (h.dom i (by omega)).2]
    exact h1
  · have hi : (if i < w.heap.size then o i else if Z' i then j else 0) = k := hi
    by_cases h1 : i < w.heap.size
    · omega
    · rw [if_neg h1] at hi
      by_cases h2 : Z' i
      · rw [if_pos h2] at hi; exact (hkj hi.symm).elim
      · rw [if_neg h2] at hi; exact (hk hi.symm).elim
  · show (if i < w.heap.size then o i else if Z' i then j else 0) = 0
    rw [if_neg (by omega), if_neg h2]
  · show (if i < w.heap.size then o i else if Z' i then j else 0) = j ∨ o i = (if i < w.heap.size then o i else if Z' i then j else 0)
    have hi : (if i < w.heap.size then o i else if Z' i then j else 0) ≠ 0 := hi
    by_cases h1 : i < w.heap.size
    · rw [if_pos h1]; exact .inr rfl
    · rw [if_neg h1] at hi ⊢
      by_cases h2 : Z' i
      · rw [if_pos h2]; exact .inl rfl
      · rw [if_neg h2] at hi; exact (hi rfl).elim
/-- Blocks that are nobody's are named. -/
theorem Lb.name (h : Lb W w o) {j : Nat} (hn : ∀ i, o i ≠ j) {Z : Nat → Prop} (hz : ∀ i, Z i → o i = 0 ∧ W.heap.size ≤ i ∧ i < w.heap.size) : ∃ o', Lb W w o' ∧ (∀ P, Good P → P w Z → P w (lab o' j)) ∧ (∀ k, k ≠ 0 → k ≠ j → ∀ P, Good P → P w (lab o k) → P w (lab o' k)) ∧ ∀ i, o' i ≠ 0 → o' i = j ∨ o i = o' i := by
  classical
  refine ⟨fun i => if Z i then j else o i, ⟨h.nw, fun i hi => ?_⟩, fun P hP p => hP.mono p (fun i hi => if_pos hi) fun i hi => ?_, fun k hk hkj P hP p => hP.mono p (fun i hi => ?_) fun i hi => ?_, fun i _ => ?_⟩
  · by_cases h1 : Z i
    · exact (hz i h1).2
    · simp only [if_neg h1] at hi; exact h.dom i hi
  · by_cases h1 : Z i
    · exact (hz i h1).2.2
    · have hi : (if Z i then j else o i) = j := hi
      rw [if_neg h1] at hi; exact (hn i hi).elim
  · have h1 : o i = k := hi
    show (if Z i then j else o i) = k
    rw [if_neg fun e => by have := (hz i e).1; omega]
    exact h1
  · have hi : (if Z i then j else o i) = k := hi
    by_cases h1 : Z i
    · exact (hz i h1).2.2
    · rw [if_neg h1] at hi; exact h.lt hk i hi
  · show (if Z i then j else o i) = j ∨ o i = (if Z i then j else o i)
    by_cases h1 : Z i
    · rw [if_pos h1]; exact .inl rfl
    · rw [if_neg h1]; exact .inr rfl
end
/-- Things side by side, all of them new since W. -/
def Things (W w : World) (ts : List (World → (Nat → Prop) → Prop)) : Prop :=
  ∃ o, Lb W w o ∧ (∀ i, o i ≤ ts.length) ∧ (∀ P ∈ ts, Good P) ∧ ∀ (j : Nat) (P : World → (Nat → Prop) → Prop), ts[j]? = some P → P w (lab o (j + 1))
section
variable {W w w' : World} {ts : List (World → (Nat → Prop) → Prop)} {P P' : World → (Nat → Prop) → Prop}
theorem Things.start (h : Nw W w) : Things W w [] := ⟨fun _ => 0, Lb.start h, fun _ => Nat.zero_le _, fun P hP => by simp at hP, fun j P hj => by simp at hj⟩
theorem Things.nw (h : Things W w ts) : Nw W w := by obtain ⟨o, h, _⟩ := h; exact h.nw
theorem Things.kept (h : Things W w ts) (f : Fr (fun _ => False) w w') : Things W w' ts := by
  obtain ⟨o, h1, h2, h3, h4⟩ := h
  exact ⟨o, h1.kept f, h2, h3, fun j P hj => (h3 P (List.mem_of_getElem? hj)).kept (h4 j P hj) f⟩
theorem Things.get (h : Things W w ts) (j : Nat) (hj : ts[j]? = some P) : ∃ U, P w U ∧ ∀ i, U i → W.heap.size ≤ i := by
  obtain ⟨o, h1, _, _, h4⟩ := h
  exact ⟨_, h4 j P hj, h1.old (by omega)⟩
/-- One of them has turned. -/
theorem Things.turn (h : Things W w ts) (j : Nat) (hj : ts[j]? = some P) : ∃ U, P w U ∧ (∀ i, U i → W.heap.size ≤ i ∧ i < w.heap.size) ∧ ∀ P' w' U', Good P' → P' w' U' → Gw w w' U U' → Things W w' (ts.set j P') := by
  obtain ⟨o, h1, h2, h3, h4⟩ := h
  refine ⟨_, h4 j P hj, fun i hi => ⟨h1.old (by omega) i hi, h1.lt (j := j + 1) (by omega) i hi⟩, fun P' w' U' hP hp g => ?_⟩
  have hjl := (List.getElem?_eq_some_iff.1 hj).1
  obtain ⟨o', l1, l2, l3, l4, l5⟩ := h1.step (j := j + 1) (by omega) g
  refine ⟨o', l1, fun i => ?_, fun R hR => ?_, fun m R hm => ?_⟩
  · rw [List.length_set]
    by_cases h0 : o' i = 0
    · omega
    · rcases l5 i h0 with e | e
      · omega
      · rw [← e]; exact h2 i
  · rcases List.mem_or_eq_of_mem_set hR with e | rfl
    · exact h3 R e
    · exact hP
  · rw [List.getElem?_set] at hm
    split at hm
    case isTrue e =>
      subst e
      simp only [Option.some.injEq] at hm
      subst hm
      exact l2 _ hP hp
    case isFalse e => exact l3 (m + 1) (by omega) (by omega) R (h3 R (List.mem_of_getElem? hm)) (h4 m R hm)
theorem Things.lift (h : Things W w ts) (j : Nat) (hj : ts[j]? = some P) (hP : Good P') {Pg : Program} {F : Nat} {args : Array Value} {R : Ending → Prop}
    (base : ∀ U, P w U → Calls Pg F args w fun e w' => R e ∧ ∃ U', P' w' U' ∧ Gw w w' U U') : Calls Pg F args w fun e w' => R e ∧ Things W w' (ts.set j P') := by
  obtain ⟨U, h1, _, h2⟩ := h.turn j hj
  exact (base U h1).mono fun e w' ⟨he, U', g1, g2⟩ => ⟨he, h2 P' w' U' hP g1 g2⟩
theorem Things.ask (h : Things W w ts) (j : Nat) (hj : ts[j]? = some P) {Pg : Program} {F : Nat} {args : Array Value} {R : Ending → Prop}
    (base : ∀ U, P w U → Calls Pg F args w fun e w' => R e ∧ Fr (fun _ => False) w w') : Calls Pg F args w fun e w' => R e ∧ Things W w' ts := by
  obtain ⟨U, h1, _⟩ := h.get j hj
  exact (base U h1).mono fun e w' ⟨he, f⟩ => ⟨he, h.kept f⟩
/-- One more has come, in new blocks. -/
theorem Things.more (h : Things W w ts) (hP : Good P') {Z : Nat → Prop} (hp : P' w' Z) (f : Fr (fun _ => False) w w') (hz : ∀ i, Z i → w.heap.size ≤ i ∧ i < w'.heap.size) : Things W w' (ts ++ [P']) := by
  obtain ⟨o, h1, h2, h3, h4⟩ := h
  obtain ⟨o', l1, l2, l3, l4⟩ := (h1.kept f).name (j := ts.length + 1) (fun i => by have := h2 i; omega) (Z := Z) fun i hi => ⟨Classical.byContradiction fun e => by have := (h1.dom i e).2; have := (hz i hi).1; omega, by have := (hz i hi).1; have := h1.nw.le; omega, (hz i hi).2⟩
  refine ⟨o', l1, fun i => ?_, fun R hR => ?_, fun m R hm => ?_⟩
  · rw [List.length_append, List.length_singleton]
    by_cases h0 : o' i = 0
    · omega
    · rcases l4 i h0 with e | e
      · omega
      · have := h2 i; omega
  · rw [List.mem_append, List.mem_singleton] at hR
    rcases hR with e | rfl
    · exact h3 R e
    · exact hP
  · by_cases hlt : m < ts.length
    · rw [List.getElem?_append_left hlt] at hm
      have hG := h3 R (List.mem_of_getElem? hm)
      exact l3 (m + 1) (by omega) (by omega) R hG (hG.kept (h4 m R hm) f)
    · rw [List.getElem?_append_right (by omega)] at hm
      have hm0 : m - ts.length = 0 := by
        have := (List.getElem?_eq_some_iff.1 hm).1
        simpa using this
      rw [hm0] at hm
      simp only [List.getElem?_cons_zero, Option.some.injEq] at hm
      subst hm
      rw [show m = ts.length by omega]
      exact l2 _ hP hp
/-- The last one is forgotten. -/
theorem Things.less {R : World → (Nat → Prop) → Prop} (h : Things W w (ts ++ [R])) : Things W w ts := by
  classical
  obtain ⟨o, h1, h2, h3, h4⟩ := h
  refine ⟨fun i => if o i = ts.length + 1 then 0 else o i, ⟨h1.nw, fun i hi => ?_⟩, fun i => ?_, fun Q hQ => h3 Q (List.mem_append_left _ hQ), fun j Q hj => ?_⟩
  · by_cases e : o i = ts.length + 1
    · simp [e] at hi
    · simp only [if_neg e] at hi; exact h1.dom i hi
  · show (if o i = ts.length + 1 then 0 else o i) ≤ ts.length
    have := h2 i
    simp only [List.length_append, List.length_singleton] at this
    split <;> omega
  · have hjl := (List.getElem?_eq_some_iff.1 hj).1
    have hG := h3 Q (List.mem_append_left _ (List.mem_of_getElem? hj))
    have hp := h4 j Q (by rw [List.getElem?_append_left hjl]; exact hj)
    refine hG.mono hp (fun i hi => ?_) fun i hi => ?_
    · have h5 : o i = j + 1 := hi
      show (if o i = ts.length + 1 then 0 else o i) = j + 1
      rw [if_neg (by omega)]; exact h5
    · have h5 : (if o i = ts.length + 1 then 0 else o i) = j + 1 := hi
      split at h5
      · omega
      · exact h1.lt (j := j + 1) (by omega) i h5
end
/-- A block by itself. -/
def Blk (B : Nat) (ob : Obj) (w : World) (Z : Nat → Prop) : Prop := w.heap[B]? = some ob ∧ Z B ∧ ∀ i, Z i → i < w.heap.size
theorem Blk.good (B : Nat) (ob : Obj) : Good (Blk B ob) :=
  ⟨fun h f hs => ⟨by rw [f.block B (h.2.2 B h.2.1) (hs B h.2.1)]; exact h.1, h.2.1, fun i hi => Nat.lt_of_lt_of_le (h.2.2 i hi) f.size⟩, fun h h1 h2 => ⟨h.1, h1 _ h.2.1, h2⟩⟩
theorem Blk.new (w : World) (ob : Obj) : Blk w.heap.size ob (w.alloc ob) (fun i => i = w.heap.size) := ⟨heap_alloc_new w ob, rfl, fun i hi => by simp only [World.size_alloc]; omega⟩
/-- Numbers where a slice says. -/
def Lv (ad : Option Addr) (l : List Int) (w : World) (Z : Nat → Prop) : Prop := NumsAt w ad l ∧ (∀ b off, ad = some ⟨b, off, none⟩ → 0 < l.length → Z b) ∧ ∀ i, Z i → i < w.heap.size
theorem Lv.good (ad : Option Addr) (l : List Int) : Good (Lv ad l) :=
  ⟨fun h f hs => ⟨h.1.carry f fun b off e h0 => hs b (h.2.1 b off e h0), h.2.1, fun i hi => Nat.lt_of_lt_of_le (h.2.2 i hi) f.size⟩, fun h h1 h2 => ⟨h.1, fun b off e h0 => h1 b (h.2.1 b off e h0), h2⟩⟩
theorem Lv.new {w : World} {ad : Option Addr} {l : List Int} (h : NumsAt w ad l) : Lv ad l w (fun b => (∃ off, ad = some ⟨b, off, none⟩) ∧ 0 < l.length) :=
  ⟨h, fun b off e h0 => ⟨⟨off, e⟩, h0⟩, fun i ⟨⟨off, e⟩, h0⟩ => by
    obtain ⟨b, off', e1, e2, _⟩ := h 0 h0
    rw [e] at e1
    simp only [Option.some.injEq, Addr.mk.injEq] at e1
    omega⟩
/-- A row of numbers of the call's own. -/
def Rw (base : Nat) (y : Value) (l : List Int) (w : World) (Z : Nat → Prop) : Prop := w.ownsRow base 3 1 y l.length (ic l) ∧ (∀ g, y.ownBlock = some g → Z g) ∧ ∀ i, Z i → i < w.heap.size
theorem row_turn {w w' : World} {base : Nat} {v : Value} {S : Nat → Prop} {e : TypeId} {size n : Nat} {xs : List Value} (h : w.ownsRow base e size v n xs) (f : Fr S w w') (hs : ∀ x, v.ownBlock = some x → ¬ S x) : w'.ownsRow base e size v n xs := by
  obtain ⟨h1, h2⟩ := h
  refine ⟨h1, ?_⟩
  rcases h2 with h2 | ⟨g, cap, cur, rfl, hb, hc, rest⟩
  · exact .inl h2
  · exact .inr ⟨g, cap, cur, rfl, hb, by rw [f.block g (Array.getElem?_eq_some_iff.1 hc).1 (hs g rfl)]; exact hc, rest⟩
theorem Rw.good (base : Nat) (y : Value) (l : List Int) : Good (Rw base y l) :=
  ⟨fun h f hs => ⟨row_turn h.1 f fun x e => hs x (h.2.1 x e), h.2.1, fun i hi => Nat.lt_of_lt_of_le (h.2.2 i hi) f.size⟩, fun h h1 h2 => ⟨h.1, fun g e => h1 g (h.2.1 g e), h2⟩⟩
theorem Rw.empty (base : Nat) (w : World) : Rw base (.slice none 0 0) [] w (fun _ => False) := ⟨⟨rfl, .inl ⟨rfl, rfl⟩⟩, fun g e => by simp [Value.ownBlock] at e, fun _ e => e.elim⟩
/-- One number more stands behind it. -/
theorem Rw.grow {base g m m2 cap : Nat} {y : Value} {l : List Int} {x : Int} {w w' : World} {Z : Nat → Prop} (h : Rw base y l w Z) {w0 : World} (f : Fr (fun _ => False) w w0) (hown : w'.ownsRow base 3 1 (.slice (some ⟨g, 0, none⟩) m cap) m2 (ic (l ++ [x]))) (hm : m2 = l.length + 1) (hg : w0.grownBy w' y.ownBlock) (hw : y.ownBlock = some g ∨ w.heap.size ≤ g) : ∃ Z', Rw base (.slice (some ⟨g, 0, none⟩) m cap) (l ++ [x]) w' Z' ∧ Gw w w' Z Z' := by
  have hs := f.size
  have hlt : ∀ i, (Z i ∨ i = g) → i < w'.heap.size := fun i hi => by
    rcases hi with hi | rfl
    · have := h.2.2 i hi; have := hg.size; omega
    · exact (hown.lt i rfl).2
  refine ⟨fun i => Z i ∨ i = g, ⟨by subst hm; rw [List.length_append]; exact hown, fun g' e => .inr (by simpa [Value.ownBlock] using e.symm), hlt⟩, ⟨fun _ => .inl, fun i hi => ?_, hlt, (f.mono fun _ _ e => e.elim).grown hg fun k e => .inl (h.2.1 k e)⟩⟩
  rcases hi with hi | rfl
  · exact .inl hi
  · rcases hw with e | e
    · exact .inl (h.2.1 i e)
    · exact .inr e
/-- Of things side by side one is a row: a number is put behind it. -/
theorem Things.push {W w : World} {ts : List (World → (Nat → Prop) → Prop)} (h : Things W w ts) (j : Nat) {base : Nat} {y : Value} {l : List Int} (hj : ts[j]? = some (Rw base y l)) : w.ownsRow base 3 1 y l.length (ic l) ∧ ∀ {w0 w' : World} {g m m2 cap : Nat} {x : Int}, Fr (fun _ => False) w w0 → w'.ownsRow base 3 1 (.slice (some ⟨g, 0, none⟩) m cap) m2 (ic (l ++ [x])) → m2 = l.length + 1 → w0.grownBy w' y.ownBlock → (y.ownBlock = some g ∨ w.heap.size ≤ g) → Things W w' (ts.set j (Rw base (.slice (some ⟨g, 0, none⟩) m cap) (l ++ [x]))) := by
  obtain ⟨U, h1, _, h2⟩ := h.turn j hj
  refine ⟨h1.1, fun f ho hm hg hw => ?_⟩
  obtain ⟨Z', r1, r2⟩ := h1.grow f ho hm hg hw
  exact h2 _ _ Z' (Rw.good _ _ _) r1 r2
/-- Of things side by side one is a list of numbers, or a row. -/
theorem Things.nums {W w : World} {ts : List (World → (Nat → Prop) → Prop)} (h : Things W w ts) (j : Nat) {ad : Option Addr} {l : List Int} (hj : ts[j]? = some (Lv ad l)) : NumsAt w ad l := by
  obtain ⟨U, h1, _⟩ := h.get j hj
  exact h1.1
theorem Things.row {W w : World} {ts : List (World → (Nat → Prop) → Prop)} (h : Things W w ts) (j : Nat) {base : Nat} {y : Value} {l : List Int} (hj : ts[j]? = some (Rw base y l)) : ∃ ad cap, y = .slice ad l.length cap ∧ NumsAt w ad l := by
  obtain ⟨U, h1, _⟩ := h.get j hj
  obtain ⟨ad, cap, e, hn, _⟩ := row_list h1.1
  exact ⟨ad, cap, e, hn⟩
end Go.Proofs.YtihaifnenjngpaaGreatDoor
