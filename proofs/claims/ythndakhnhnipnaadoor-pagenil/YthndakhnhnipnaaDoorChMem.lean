/-
  An arena and chains in it, as one thing in memory; the document's chain.
-/
import Derived.Test.YthndakhnhnipnaaDoorAnMem
import Derived.Test.YthndakhnhnipnaaDoorChBase
import Derived.Deep.RegionLaw
import Derived.LoopTactic
namespace Go.Proofs.YthndakhnhnipnaaDoor
open Go.RowKit
open An

/-- What says a chain in memory: at block c, over the arena at block a. -/
structure Chain1 (Q : World → Nat → Nat → Ck → Prop) : Prop where
  carry : ∀ {w w' : World} {c a : Nat} {k : Ck} {S : Nat → Prop}, Q w c a k → Fr S w w' → ¬ S c → Q w' c a k
  lt : ∀ {w : World} {c a : Nat} {k : Ck}, Q w c a k → c < w.heap.size
/-- An arena (type T) at block a, and chains over it, each at a block of its own. -/
def Cs (T : TypeId) (Q : World → Nat → Nat → Ck → Prop) (a : Nat) (bs : List UInt8) (ss : List Sp) (L : List (Nat × Ck)) (w : World) (U : Nat → Prop) : Prop :=
  ∃ Z, Am T a bs ss w Z ∧ (∀ i, Z i → U i) ∧ (∀ p ∈ L, U p.1 ∧ ¬ Z p.1 ∧ Q w p.1 a p.2 ∧ p.2.Ok bs.length) ∧ (L.map Prod.fst).Nodup ∧ ∀ i, U i → i < w.heap.size
section
variable {T : TypeId} {Q : World → Nat → Nat → Ck → Prop} {a : Nat} {bs bs' : List UInt8} {ss ss' : List Sp} {L L' : List (Nat × Ck)} {w w' : World} {U Z Z' : Nat → Prop}
theorem Cs.good (hQ : Chain1 Q) (T : TypeId) (a : Nat) (bs : List UInt8) (ss : List Sp) (L : List (Nat × Ck)) : Good (Cs T Q a bs ss L) :=
  ⟨fun ⟨Z, h1, h2, h3, h4, h5⟩ f hs => ⟨Z, (Am.good T a bs ss).carry h1 f fun i hi => hs i (h2 i hi), h2, fun p hp => by
      obtain ⟨k1, k2, k3, k4⟩ := h3 p hp
      exact ⟨k1, k2, hQ.carry k3 f (hs _ k1), k4⟩, h4, fun i hi => Nat.lt_of_lt_of_le (h5 i hi) f.size⟩,
   fun ⟨Z, h1, h2, h3, h4, _⟩ k1 k2 => ⟨Z, h1, fun i hi => k1 i (h2 i hi), fun p hp => ⟨k1 _ (h3 p hp).1, (h3 p hp).2⟩, h4, k2⟩⟩
theorem Cs.kept (hQ : Chain1 Q) (h : Cs T Q a bs ss L w U) (f : Fr (fun _ => False) w w') : Cs T Q a bs ss L w' U := (Cs.good hQ T a bs ss L).kept h f
theorem Cs.lt (h : Cs T Q a bs ss L w U) : ∀ i, U i → i < w.heap.size := by obtain ⟨_, _, _, _, _, h⟩ := h; exact h
theorem Cs.le (h : Cs T Q a bs ss L w U) : bs.length ≤ 2097152 := by obtain ⟨_, h, _⟩ := h; exact h.le
theorem Cs.bare (h : Am T a bs ss w Z) : Cs T Q a bs ss [] w Z := ⟨Z, h, fun _ => id, fun p hp => by simp at hp, by simp, h.lt⟩
/-- A chain has come. -/
theorem Cs.more (hQ : Chain1 Q) (h : Cs T Q a bs ss L w U) {c : Nat} {k : Ck} (hc : w.heap.size ≤ c) (hq : Q w' c a k) (hk : k.Ok bs.length) (f : Fr (fun _ => False) w w') : Cs T Q a bs ss (L ++ [(c, k)]) w' (fun i => U i ∨ i = c) ∧ Gw w w' U (fun i => U i ∨ i = c) := by
  have hlt := hQ.lt hq
  have hU : ∀ i, (U i ∨ i = c) → i < w'.heap.size := fun i hi => by
    rcases hi with hi | rfl
    · exact Nat.lt_of_lt_of_le (h.lt i hi) f.size
    · exact hlt
  obtain ⟨Z, h1, h2, h3, h4, h5⟩ := h
  refine ⟨⟨Z, h1.kept f, fun i hi => .inl (h2 i hi), fun p hp => ?_, ?_, hU⟩, ⟨fun _ => .inl, fun i hi => ?_, hU, f.mono fun _ _ e => e.elim⟩⟩
  · rw [List.mem_append, List.mem_singleton] at hp
    rcases hp with hp | rfl
    · obtain ⟨k1, k2, k3, k4⟩ := h3 p hp
      exact ⟨.inl k1, k2, hQ.carry k3 f id, k4⟩
    · exact ⟨.inr rfl, fun e => by have := h1.lt _ e; omega, hq, hk⟩
  · rw [List.map_append, List.nodup_append]
    refine ⟨h4, by simp, fun x hx y hy => ?_⟩
    simp only [List.map_cons, List.map_nil, List.mem_singleton] at hy
    rw [List.mem_map] at hx
    obtain ⟨p, hp, rfl⟩ := hx
    have := h5 _ (h3 p hp).1
    omega
  · rcases hi with hi | rfl
    · exact .inl hi
    · exact .inr hc
/-- The chain of a number, with its arena; what it leaves is laid back. -/
theorem Cs.one (hQ : Chain1 Q) (h : Cs T Q a bs ss L w U) (i : Nat) {c : Nat} {k : Ck} (hi : L[i]? = some (c, k)) : ∃ Z, Am T a bs ss w Z ∧ Q w c a k ∧ k.Ok bs.length ∧ ¬ Z c ∧
    ∀ (w' : World) (Z' : Nat → Prop) (bs' : List UInt8) (ss' : List Sp) (k' : Ck), Am T a bs' ss' w' Z' → Q w' c a k' → k'.Ok bs.length → bs'.length = bs.length → (∀ i, Z' i → Z i ∨ w.heap.size ≤ i) → ¬ Z' c → Fr (fun i => i = c ∨ Z i) w w' → Cs T Q a bs' ss' (L.set i (c, k')) w' (fun j => U j ∨ Z' j) ∧ Gw w w' U (fun j => U j ∨ Z' j) := by
  obtain ⟨Z, h1, h2, h3, h4, h5⟩ := h
  obtain ⟨hil, hie⟩ := List.getElem?_eq_some_iff.1 hi
  obtain ⟨q1, q2, q3, q4⟩ := h3 (c, k) (hie ▸ List.getElem_mem hil)
  refine ⟨Z, h1, q3, q4, q2, fun w' Z' bs' ss' k' g1 g2 g3 g4 g5 g6 f => ?_⟩
  have hlt : ∀ j, (U j ∨ Z' j) → j < w'.heap.size := fun j hj => by
    rcases hj with hj | hj
    · exact Nat.lt_of_lt_of_le (h5 j hj) f.size
    · exact g1.lt j hj
  have hfst : (L.set i (c, k')).map Prod.fst = L.map Prod.fst := by
    rw [List.map_set]
    apply List.ext_getElem?
    intro j
    rw [List.getElem?_set]
    split
    case isTrue e => subst e; simp [hil, hie]
    case isFalse => rfl
  refine ⟨⟨Z', g1, fun _ => .inr, fun p hp => ?_, by rw [hfst]; exact h4, hlt⟩, ⟨fun _ => .inl, fun j hj => ?_, hlt, f.mono fun j _ e => ?_⟩⟩
  · obtain ⟨j, hj, rfl⟩ := List.getElem_of_mem hp
    rw [List.getElem_set]
    split
    case isTrue e => exact ⟨.inl q1, g6, g2, by rw [g4]; exact g3⟩
    case isFalse e =>
      rw [List.length_set] at hj
      obtain ⟨r1, r2, r3, r4⟩ := h3 L[j] (List.getElem_mem hj)
      have hne : L[j].1 ≠ c := fun e2 => e (by
        have hji : (L.map Prod.fst)[j]? = (L.map Prod.fst)[i]? := by simp [hj, hil, hie, e2]
        exact ((List.getElem?_inj (by simpa using hj) h4).1 hji).symm)
      refine ⟨.inl r1, fun e2 => ?_, hQ.carry r3 f fun e2 => ?_, by rw [g4]; exact r4⟩
      · rcases g5 _ e2 with e2 | e2
        · exact r2 e2
        · have := h5 _ r1; omega
      · rcases e2 with e2 | e2
        · exact hne e2
        · exact r2 e2
  · rcases hj with hj | hj
    · exact .inl hj
    · rcases g5 j hj with e | e
      · exact .inl (h2 j e)
      · exact .inr e
  · rcases e with rfl | e
    · exact q1
    · exact h2 j e
end
/-- What a call of a chain leaves: the arena, the chain, and all else as it was. -/
structure Left (T : TypeId) (Q : World → Nat → Nat → Ck → Prop) (w : World) (c a : Nat) (Z : Nat → Prop) (bs' : List UInt8) (ss' : List Sp) (k' : Ck) (Z' : Nat → Prop) (w' : World) : Prop where
  am : Am T a bs' ss' w' Z'
  q : Q w' c a k'
  new : ∀ i, Z' i → Z i ∨ w.heap.size ≤ i
  nz : ¬ Z' c
  fr : Fr (fun i => i = c ∨ Z i) w w'
section
variable {T : TypeId} {Q : World → Nat → Nat → Ck → Prop} {w w' w1 : World} {c a : Nat} {k k' : Ck} {Z Z' : Nat → Prop} {bs bs' : List UInt8} {ss ss' : List Sp}
/-- Nothing has turned. -/
theorem Left.same (hQ : Chain1 Q) (h : Am T a bs ss w Z) (q : Q w c a k) (hn : ¬ Z c) (f : Fr (fun _ => False) w w') : Left T Q w c a Z bs ss k Z w' := ⟨h.kept f, hQ.carry q f id, fun _ => .inl, hn, f.mono fun _ _ e => e.elim⟩
/-- The arena alone has turned. -/
theorem Left.arena (hQ : Chain1 Q) (q : Q w c a k) (hn : ¬ Z c) (h : Am T a bs' ss' w' Z') (g : Gw w w' Z Z') : Left T Q w c a Z bs' ss' k Z' w' := ⟨h, hQ.carry q g.fr hn, g.new, fun e => by
  have hc := hQ.lt q
  rcases g.new c e with e | e
  · exact hn e
  · omega, g.fr.mono fun _ _ e => .inr e⟩
/-- And then the chain's own block. -/
theorem Left.chain (h : Left T Q w c a Z bs' ss' k Z' w1) (f : Fr (fun i => i = c) w1 w') (q : Q w' c a k') : Left T Q w c a Z bs' ss' k' Z' w' := ⟨(Am.good T a bs' ss').carry h.am f fun _ hi e => h.nz (e ▸ hi), q, h.new, h.nz, h.fr.trans (f.mono fun _ _ e => .inl e)⟩
theorem Left.set (h : Left T Q w c a Z bs' ss' k Z' w1) {j : Nat} {u : Value} (q : Q (w1.setCell ⟨c, j, none⟩ u) c a k') : Left T Q w c a Z bs' ss' k' Z' (w1.setCell ⟨c, j, none⟩ u) := h.chain (Fr.setCell (S := fun i => i = c) (p := ⟨c, j, none⟩) (Fr.refl _ _) rfl _) q
/-- The chain's own block alone has turned. -/
theorem Left.own (h : Am T a bs ss w Z) (nz : ¬ Z c) (q : Q w' c a k') (f : Fr (fun i => i = c) w w') : Left T Q w c a Z bs ss k' Z w' := ⟨(Am.good T a bs ss).carry h f fun _ hi e => nz (e ▸ hi), q, fun _ => .inl, nz, f.mono fun _ _ e => .inl e⟩
/-- And then the arena once more. -/
theorem Left.arena2 (hQ : Chain1 Q) (h : Left T Q w c a Z bs ss k Z' w1) {Z2 : Nat → Prop} (h2 : Am T a bs' ss' w' Z2) (g : Gw w1 w' Z' Z2) : Left T Q w c a Z bs' ss' k Z2 w' := ⟨h2, hQ.carry h.q g.fr h.nz, fun i hi => by
  rcases g.new i hi with e | e
  · exact h.new i e
  · exact .inr (Nat.le_trans h.fr.size e), fun e => by
  rcases g.new c e with e | e
  · exact h.nz e
  · have := hQ.lt h.q; omega, Fr.trans' h.fr g.fr fun i hi e => by
  rcases h.new i e with e | e
  · exact .inr e
  · omega⟩
theorem Left.ahead (h : Left T Q w1 c a Z bs' ss' k' Z' w') (f : Fr (fun _ => False) w w1) : Left T Q w c a Z bs' ss' k' Z' w' := ⟨h.am, h.q, fun i hi => by
  rcases h.new i hi with e | e
  · exact .inl e
  · exact .inr (Nat.le_trans f.size e), h.nz, Fr.trans' (f.mono fun _ _ e => e.elim) h.fr fun _ _ e => e⟩
/-- Blocks turn that were new, and aren't the arena's. -/
theorem Left.other (hQ : Chain1 Q) (h : Left T Q w c a Z bs ss k Z' w1) (hc : c < w.heap.size) {S : Nat → Prop} (f : Fr S w1 w') (hs : ∀ i, S i → w.heap.size ≤ i ∧ ¬ Z' i) : Left T Q w c a Z bs ss k Z' w' := ⟨(Am.good T a bs ss).carry h.am f fun i hi e => (hs i e).2 hi, hQ.carry h.q f fun e => by have := (hs c e).1; omega, h.new, h.nz, Fr.trans' h.fr f fun i hi e => by have := (hs i e).1; omega⟩
theorem Left.kept (hQ : Chain1 Q) (h : Left T Q w c a Z bs ss k Z' w1) (f : Fr (fun _ => False) w1 w') : Left T Q w c a Z bs ss k Z' w' := ⟨h.am.kept f, hQ.carry h.q f id, h.new, h.nz, Fr.trans' h.fr f fun _ _ e => e.elim⟩
end
/-- The document's chain. -/
def Rch (w : World) (c a : Nat) (k : Ck) : Prop := w.heap[c]? = some (.cells #[.pointer (some ⟨a, 0, none⟩), .int .i64 k.base, .int .i64 k.unit, .int .i64 k.per, .int .i64 ((k.hd : Int) - 1)] 88 (0, 0))
theorem Rch.chain : Chain1 Rch := ⟨fun {w w' c a k S} h f hn => by unfold Rch at h ⊢; rw [f.block c (Array.getElem?_eq_some_iff.1 h).1 hn]; exact h, fun h => (Array.getElem?_eq_some_iff.1 h).1⟩
section
variable {w w' : World} {c a : Nat} {k : Ck}
theorem Rch.c0 (h : Rch w c a k) : w.cell? ⟨c, 0, none⟩ = some (.pointer (some ⟨a, 0, none⟩)) := by unfold Rch at h; simp [World.cell?, h]
theorem Rch.c1 (h : Rch w c a k) : w.cell? ⟨c, 1, none⟩ = some (.int .i64 k.base) := by unfold Rch at h; simp [World.cell?, h]
theorem Rch.c2 (h : Rch w c a k) : w.cell? ⟨c, 2, none⟩ = some (.int .i64 k.unit) := by unfold Rch at h; simp [World.cell?, h]
theorem Rch.c3 (h : Rch w c a k) : w.cell? ⟨c, 3, none⟩ = some (.int .i64 k.per) := by unfold Rch at h; simp [World.cell?, h]
theorem Rch.c4 (h : Rch w c a k) : w.cell? ⟨c, 4, none⟩ = some (.int .i64 ((k.hd : Int) - 1)) := by unfold Rch at h; simp [World.cell?, h]
theorem Rch.c4s (h : Rch w c a k) {x : Nat} (h0 : k.hd = x + 1) : w.cell? ⟨c, 4, none⟩ = some (.int .i64 x) := by rw [h.c4, h0, show ((x + 1 : Nat) : Int) - 1 = x by omega]
theorem Rch.fz (h : Rch w c a k) (j : Nat) : w.frozen? ⟨c, j, none⟩ = false := by unfold Rch at h; simp [World.frozen?, h]
theorem Rch.head (h : Rch w c a k) {v : Nat} {x : Int} (hx : x = (v : Int) - 1) : Rch (w.setCell ⟨c, 4, none⟩ (.int .i64 x)) c a (k.to v) := by unfold Rch at h ⊢; subst hx; simp [World.setCell, Array.getElem?_modify, h, Ck.to]
theorem Rch.base (h : Rch w c a k) (x : Nat) : Rch (w.setCell ⟨c, 1, none⟩ (.int .i64 x)) c a ⟨x, k.unit, k.per, k.hd⟩ := by unfold Rch at h ⊢; simp [World.setCell, Array.getElem?_modify, h]
end
end Go.Proofs.YthndakhnhnipnaaDoor
