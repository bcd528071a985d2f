/-
  An arena as one thing in memory: the program's, and the document's.
  An arena and chains in it, as one thing in memory; the document's chain.
  Lists of numbers, more: one more put behind a row, and where it lies; two lists held against each other.
  What the document's own chain does.
  What the document's own chain does: All, Take, Move.
-/
import Derived.Test.YtihaifnenjngpaaGreatDoorLists
import Derived.Test.YtihaifnenjngpaaGreatDoorObjs
import Derived.Test.YtihaifnenjngpaaGreatDoorClBase
import Derived.Deep.RegionLaw
import Derived.LoopTactic
import Derived.Deep.QuietTactic
import Derived.BigQuiet
import Derived.Deep.RegionHeld3
import Derived.BigRegion
namespace Go.Proofs.YtihaifnenjngpaaGreatDoor
open Go.RowKit
open An

/-- An arena (type T) at block a: its bytes are bs, its touches ss; all its blocks are of Z. -/
def Am (T : TypeId) (a : Nat) (bs : List UInt8) (ss : List Sp) (w : World) (Z : Nat → Prop) : Prop :=
  ∃ B b v, Ar w T B a b bs v ss ∧ (Z a ∧ Z b ∧ ∀ y, v.ownBlock = some y → Z y) ∧ ∀ i, Z i → i < w.heap.size
section
variable {w w' : World} {T : TypeId} {a : Nat} {Z : Nat → Prop} {bs bs' : List UInt8} {ss ss' : List Sp}
theorem Am.good (T : TypeId) (a : Nat) (bs : List UInt8) (ss : List Sp) : Good (Am T a bs ss) :=
  ⟨fun ⟨B, b, v, h, ⟨h1, h2, h3⟩, h4⟩ f hs => ⟨B, b, v, h.carry f (hs _ h1) (hs _ h2) (fun x e => hs _ (h3 x e)), ⟨h1, h2, h3⟩, fun i hi => Nat.lt_of_lt_of_le (h4 i hi) f.size⟩,
   fun ⟨B, b, v, h, ⟨h1, h2, h3⟩, _⟩ k1 k2 => ⟨B, b, v, h, ⟨k1 _ h1, k1 _ h2, fun x e => k1 _ (h3 x e)⟩, k2⟩⟩
theorem Am.kept (h : Am T a bs ss w Z) (f : Fr (fun _ => False) w w') : Am T a bs ss w' Z := (Am.good T a bs ss).kept h f
theorem Am.lt (h : Am T a bs ss w Z) : ∀ i, Z i → i < w.heap.size := by obtain ⟨_, _, _, _, _, h⟩ := h; exact h
theorem Am.here (h : Am T a bs ss w Z) : Z a := by obtain ⟨_, _, _, _, h, _⟩ := h; exact h.1
theorem Am.le (h : Am T a bs ss w Z) : bs.length ≤ 2097152 := by obtain ⟨_, _, _, h, _⟩ := h; exact h.le
theorem Am.noted {B b : Nat} {v : Value} (h1 : Z a ∧ Z b ∧ ∀ y, v.ownBlock = some y → Z y) (h2 : ∀ i, Z i → i < w.heap.size) (hn : Noted w w' T B a b bs' v ss') : ∃ Z', Am T a bs' ss' w' Z' ∧ Gw w w' Z Z' := by
  obtain ⟨v', h', f', hv⟩ := hn
  have hlt : ∀ i, (Z i ∨ v'.ownBlock = some i) → i < w'.heap.size := fun i hi => by
    rcases hi with hi | hi
    · exact Nat.lt_of_lt_of_le (h2 i hi) f'.size
    · exact (h'.own i hi).2
  refine ⟨fun i => Z i ∨ v'.ownBlock = some i, ⟨B, b, v', h', ⟨.inl h1.1, .inl h1.2.1, fun y e => .inr e⟩, hlt⟩, ⟨fun _ => .inl, fun i hi => ?_, hlt, f'.mono fun i _ e => ?_⟩⟩
  · rcases hi with hi | hi
    · exact .inl hi
    · rcases hv i hi with e | e
      · exact .inl (h1.2.2 i e)
      · exact .inr e
  · rcases e with rfl | rfl | e
    · exact h1.1
    · exact h1.2.1
    · exact h1.2.2 i e
theorem am_new (n : Nat) (w : World) (h : n ≤ 2097152) : Calls Tryz.prog 45 #[.int .i64 n] w fun e w' => ∃ a Z, e = .returned (.tuple #[.pointer (some ⟨a, 0, none⟩), .int .i64 0]) ∧ Am 128 a (List.replicate n 0) [] w' Z ∧ (∀ i, Z i → w.heap.size ≤ i) ∧ Fr (fun _ => False) w w' :=
  (new_ok n w h).mono fun e w' ⟨he, har, hf, hz⟩ => ⟨_, fun i => i = w.heap.size + 1 ∨ i = w.heap.size, he, ⟨_, _, _, har, ⟨.inl rfl, .inr rfl, fun y e => by cases e⟩, fun i hi => by omega⟩, fun i hi => by omega, hf⟩
theorem am_load (h : Am 128 a bs ss w Z) (p : Nat) (hin : p + 8 ≤ bs.length) (hk : ss.length ≤ 1000000) : Calls Tryz.prog 236 #[.pointer (some ⟨a, 0, none⟩), .int .i64 p] w fun e w' => e = .returned (.tuple #[.int .u64 (word ((bs.drop p).take 8) : Int), .int .i64 0]) ∧ ∃ Z', Am 128 a bs (ss ++ [((p : Int), (8 : Int), false)]) w' Z' ∧ Gw w w' Z Z' := by
  obtain ⟨B, b, v, h, h1, h2⟩ := h
  exact (load_ok h p hin hk).mono fun e w' ⟨he, hn⟩ => ⟨he, Am.noted h1 h2 hn⟩
theorem am_store (h : Am 128 a bs ss w Z) (p u : Nat) (hu : u < 18446744073709551616) (hin : p + 8 ≤ bs.length) (hk : ss.length ≤ 1000000) : Calls Tryz.prog 225 #[.pointer (some ⟨a, 0, none⟩), .int .i64 p, .int .u64 u] w fun e w' => e = .returned (.int .i64 0) ∧ ∃ Z', Am 128 a (over bs p (leb u 8)) (ss ++ [((p : Int), (8 : Int), true)]) w' Z' ∧ Gw w w' Z Z' := by
  obtain ⟨B, b, v, h, h1, h2⟩ := h
  exact (store_ok h p u hu hin hk).mono fun e w' ⟨he, hn⟩ => ⟨he, Am.noted h1 h2 hn⟩
theorem am_size (h : Am 128 a bs ss w Z) : Calls Tryz.prog 25 #[.pointer (some ⟨a, 0, none⟩)] w fun e w' => e = .returned (.int .i64 bs.length) ∧ w' = w := by
  obtain ⟨B, b, v, h, h1, h2⟩ := h
  exact size_any h
theorem rm_new (n : Nat) (w : World) (h : n ≤ 2097152) : Calls Tryz.prog 48 #[.int .i64 n] w fun e w' => ∃ a Z, e = .returned (.tuple #[.pointer (some ⟨a, 0, none⟩), .int .i64 0]) ∧ Am 68 a (List.replicate n 0) [] w' Z ∧ (∀ i, Z i → w.heap.size ≤ i) ∧ Fr (fun _ => False) w w' :=
  (rnew_ok n w h).mono fun e w' ⟨he, har, hf, hz⟩ => ⟨_, fun i => i = w.heap.size + 1 ∨ i = w.heap.size, he, ⟨_, _, _, har, ⟨.inl rfl, .inr rfl, fun y e => by cases e⟩, fun i hi => by omega⟩, fun i hi => by omega, hf⟩
theorem rm_store (h : Am 68 a bs ss w Z) (p u : Nat) (hu : u < 18446744073709551616) (hin : p + 8 ≤ bs.length) (hk : ss.length ≤ 1000000) : Calls Tryz.prog 209 #[.pointer (some ⟨a, 0, none⟩), .int .i64 p, .int .u64 u] w fun e w' => e = .returned (.int .i64 0) ∧ ∃ Z', Am 68 a (over bs p (leb u 8)) (ss ++ [((p : Int), (8 : Int), true)]) w' Z' ∧ Gw w w' Z Z' := by
  obtain ⟨B, b, v, h, h1, h2⟩ := h
  exact (rstore_ok h p u hu hin hk).mono fun e w' ⟨he, hn⟩ => ⟨he, Am.noted h1 h2 (noted8 ss p true ▸ hn)⟩
end
end Go.Proofs.YtihaifnenjngpaaGreatDoor

namespace Go.Proofs.YtihaifnenjngpaaGreatDoor
open Go.RowKit
open An

/-- What says a chain in memory: at block c, over the arena at block a. -/
structure Chain1 (Q : World → Nat → Nat → Ck → Prop) : Prop where
  carry : ∀ {w w' : World} {c a : Nat} {k : Ck} {S : Nat → Prop}, Q w c a k → Fr S w w' → ¬ S c → Q w' c a k
  lt : ∀ {w : World} {c a : Nat} {k : Ck}, Q w c a k → c < w.heap.size
/-- An arena (type T) at block a, and chains over it, each at a block of its own. -/
def Cs (T : TypeId) (Q : World → Nat → Nat → Ck → Prop) (a : Nat) (bs : List UInt8) (ss : List Sp) (L : List (Nat × Ck)) (w : World) (U : Nat → Prop) : Prop :=
  ∃ Z, Am T a bs ss w Z ∧ (∀ i, Z i → U i) ∧ (∀ p ∈ L, U p.1 ∧ ¬ Z p.1 ∧ Q w p.1 a p.2 ∧ p.2.Ok bs.length) ∧ (L.map Prod.fst).Nodup ∧ ∀ i, U i → i < w.heap.size
section
variable {T : TypeId} {Q : World → Nat → Nat → Ck → Prop} {a : Nat} {bs bs' : List UInt8} {ss ss' : List Sp} {L L' : List (Nat × Ck)} {w w' : World} {U Z Z' : Nat → Prop}
theorem Cs.good (hQ : Chain1 Q) (T : TypeId) (a : Nat) (bs : List UInt8) (ss : List Sp) (L : List (Nat × Ck)) : Good (Cs T Q a bs ss L) :=
  ⟨fun ⟨Z, h1, h2, h3, h4, h5⟩ f hs => ⟨Z, (Am.good T a bs ss).carry h1 f fun i hi => hs i (h2 i hi), h2, fun p hp => by
      obtain ⟨k1, k2, k3, k4⟩ := h3 p hp
      exact ⟨k1, k2, hQ.carry k3 f (hs _ k1), k4⟩, h4, fun i hi => Nat.lt_of_lt_of_le (h5 i hi) f.size⟩,
   fun ⟨Z, h1, h2, h3, h4, _⟩ k1 k2 => ⟨Z, h1, fun i hi => k1 i (h2 i hi), fun p hp => ⟨k1 _ (h3 p hp).1, (h3 p hp).2⟩, h4, k2⟩⟩
theorem Cs.kept (hQ : Chain1 Q) (h : Cs T Q a bs ss L w U) (f : Fr (fun _ => False) w w') : Cs T Q a bs ss L w' U := (Cs.good hQ T a bs ss L).kept h f
theorem Cs.lt (h : Cs T Q a bs ss L w U) : ∀ i, U i → i < w.heap.size := by obtain ⟨_, _, _, _, _, h⟩ := h; exact h
theorem Cs.le (h : Cs T Q a bs ss L w U) : bs.length ≤ 2097152 := by obtain ⟨_, h, _⟩ := h; exact h.le
theorem Cs.bare (h : Am T a bs ss w Z) : Cs T Q a bs ss [] w Z := ⟨Z, h, fun _ => id, fun p hp => by simp at hp, by simp, h.lt⟩
/-- A chain has come. -/
theorem Cs.more (hQ : Chain1 Q) (h : Cs T Q a bs ss L w U) {c : Nat} {k : Ck} (hc : w.heap.size ≤ c) (hq : Q w' c a k) (hk : k.Ok bs.length) (f : Fr (fun _ => False) w w') : Cs T Q a bs ss (L ++ [(c, k)]) w' (fun i => U i ∨ i = c) ∧ Gw w w' U (fun i => U i ∨ i = c) := by
  have hlt := hQ.lt hq
  have hU : ∀ i, (U i ∨ i = c) → i < w'.heap.size := fun i hi => by
    rcases hi with hi | rfl
    · exact Nat.lt_of_lt_of_le (h.lt i hi) f.size
    · exact hlt
  obtain ⟨Z, h1, h2, h3, h4, h5⟩ := h
  refine ⟨⟨Z, h1.kept f, fun i hi => .inl (h2 i hi), fun p hp => ?_, ?_, hU⟩, ⟨fun _ => .inl, fun i hi => ?_, hU, f.mono fun _ _ e => e.elim⟩⟩
  · rw [List.mem_append, List.mem_singleton] at hp
    rcases hp with hp | rfl
    · obtain ⟨k1, k2, k3, k4⟩ := h3 p hp
      exact ⟨.inl k1, k2, hQ.carry k3 f id, k4⟩
    · exact ⟨.inr rfl, fun e => by have := h1.lt _ e; omega, hq, hk⟩
  · rw [List.map_append, List.nodup_append]
    refine ⟨h4, by simp, fun x hx y hy => ?_⟩
    simp only [List.map_cons, List.map_nil, List.mem_singleton] at hy
    rw [List.mem_map] at hx
    obtain ⟨p, hp, rfl⟩ := hx
    have := h5 _ (h3 p hp).1
    omega
  · rcases hi with hi | rfl
    · exact .inl hi
    · exact .inr hc
/-- The chain of a number, with its arena; what it leaves is laid back. -/
theorem Cs.one (hQ : Chain1 Q) (h : Cs T Q a bs ss L w U) (i : Nat) {c : Nat} {k : Ck} (hi : L[i]? = some (c, k)) : ∃ Z, Am T a bs ss w Z ∧ Q w c a k ∧ k.Ok bs.length ∧ ¬ Z c ∧
    ∀ (w' : World) (Z' : Nat → Prop) (bs' : List UInt8) (ss' : List Sp) (k' : Ck), Am T a bs' ss' w' Z' → Q w' c a k' → k'.Ok bs.length → bs'.length = bs.length → (∀ i, Z' i → Z i ∨ w.heap.size ≤ i) → ¬ Z' c → Fr (fun i => i = c ∨ Z i) w w' → Cs T Q a bs' ss' (L.set i (c, k')) w' (fun j => U j ∨ Z' j) ∧ Gw w w' U (fun j => U j ∨ Z' j) := by
  obtain ⟨Z, h1, h2, h3, h4, h5⟩ := h
  obtain ⟨hil, hie⟩ := List.getElem?_eq_some_iff.1 hi
  obtain ⟨q1, q2, q3, q4⟩ := h3 (c, k) (hie ▸ List.getElem_mem hil)
  refine ⟨Z, h1, q3, q4, q2, fun w' Z' bs' ss' k' g1 g2 g3 g4 g5 g6 f => ?_⟩
  have hlt : ∀ j, (U j ∨ Z' j) → j < w'.heap.size := fun j hj => by
    rcases hj with hj | hj
    · exact Nat.lt_of_lt_of_le (h5 j hj) f.size
    · exact g1.lt j hj
  have hfst : (L.set i (c, k')).map Prod.fst = L.map Prod.fst := by
    rw [List.map_set]
    apply List.ext_getElem?
    intro j
    rw [List.getElem?_set]
    split
    case isTrue e => subst e; simp [hil, hie]
    case isFalse => rfl
  refine ⟨⟨Z', g1, fun _ => .inr, fun p hp => ?_, by rw [hfst]; exact h4, hlt⟩, ⟨fun _ => .inl, fun j hj => ?_, hlt, f.mono fun j _ e => ?_⟩⟩
  · obtain ⟨j, hj, rfl⟩ := List.getElem_of_mem hp
    rw [List.getElem_set]
    split
    case isTrue e => exact ⟨.inl q1, g6, g2, by rw [g4]; exact g3⟩
    case isFalse e =>
      rw [List.length_set] at hj
      obtain ⟨r1, r2, r3, r4⟩ := h3 L[j] (List.getElem_mem hj)
      have hne : L[j].1 ≠ c := fun e2 => e (by
        have hji : (L.map Prod.fst)[j]? = (L.map Prod.fst)[i]? := by simp [hj, hil, hie, e2]
        exact ((List.getElem?_inj (by simpa using hj) h4).1 hji).symm)
      refine ⟨.inl r1, fun e2 => ?_, hQ.carry r3 f fun e2 => ?_, by rw [g4]; exact r4⟩
      · rcases g5 _ e2 with e2 | e2
        · exact r2 e2
        · have := h5 _ r1; omega
      · rcases e2 with e2 | e2
        · exact hne e2
        · exact r2 e2
  · rcases hj with hj | hj
    · exact .inl hj
    · rcases g5 j hj with e | e
      · exact .inl (h2 j e)
      · exact .inr e
  · rcases e with rfl | e
    · exact q1
    · exact h2 j e
end
/-- What a call of a chain leaves: the arena, the chain, and all else as it was. -/
structure Left (T : TypeId) (Q : World → Nat → Nat → Ck → Prop) (w : World) (c a : Nat) (Z : Nat → Prop) (bs' : List UInt8) (ss' : List Sp) (k' : Ck) (Z' : Nat → Prop) (w' : World) : Prop where
  am : Am T a bs' ss' w' Z'
  q : Q w' c a k'
  new : ∀ i, Z' i → Z i ∨ w.heap.size ≤ i
  nz : ¬ Z' c
  fr : Fr (fun i => i = c ∨ Z i) w w'
section
variable {T : TypeId} {Q : World → Nat → Nat → Ck → Prop} {w w' w1 : World} {c a : Nat} {k k' : Ck} {Z Z' : Nat → Prop} {bs bs' : List UInt8} {ss ss' : List Sp}
/-- Nothing has turned. -/
theorem Left.same (hQ : Chain1 Q) (h : Am T a bs ss w Z) (q : Q w c a k) (hn : ¬ Z c) (f : Fr (fun _ => False) w w') : Left T Q w c a Z bs ss k Z w' := ⟨h.kept f, hQ.carry q f id, fun _ => .inl, hn, f.mono fun _ _ e => e.elim⟩
/-- The arena alone has turned. -/
theorem Left.arena (hQ : Chain1 Q) (q : Q w c a k) (hn : ¬ Z c) (h : Am T a bs' ss' w' Z') (g : Gw w w' Z Z') : Left T Q w c a Z bs' ss' k Z' w' := ⟨h, hQ.carry q g.fr hn, g.new, fun e => by
  have hc := hQ.lt q
  rcases g.new c e with e | e
  · exact hn e
  · omega, g.fr.mono fun _ _ e => .inr e⟩
/-- And then the chain's own block. -/
theorem Left.chain (h : Left T Q w c a Z bs' ss' k Z' w1) (f : Fr (fun i => i = c) w1 w') (q : Q w' c a k') : Left T Q w c a Z bs' ss' k' Z' w' := ⟨(Am.good T a bs' ss').carry h.am f fun _ hi e => h.nz (e ▸ hi), q, h.new, h.nz, h.fr.trans (f.mono fun _ _ e => .inl e)⟩
theorem Left.set (h : Left T Q w c a Z bs' ss' k Z' w1) {j : Nat} {u : Value} (q : Q (w1.setCell ⟨c, j, none⟩ u) c a k') : Left T Q w c a Z bs' ss' k' Z' (w1.setCell ⟨c, j, none⟩ u) := h.chain (Fr.setCell (S := fun i => i = c) (p := ⟨c, j, none⟩) (Fr.refl _ _) rfl _) q
/-- The chain's own block alone has turned. -/
theorem Left.own (h : Am T a bs ss w Z) (nz : ¬ Z c) (q : Q w' c a k') (f : Fr (fun i => i = c) w w') : Left T Q w c a Z bs ss k' Z w' := ⟨(Am.good T a bs ss).carry h f fun _ hi e => nz (e ▸ hi), q, fun _ => .inl, nz, f.mono fun _ _ e => .inl e⟩
/-- And then the arena once more. -/
theorem Left.arena2 (hQ : Chain1 Q) (h : Left T Q w c a Z bs ss k Z' w1) {Z2 : Nat → Prop} (h2 : Am T a bs' ss' w' Z2) (g : Gw w1 w' Z' Z2) : Left T Q w c a Z bs' ss' k Z2 w' := ⟨h2, hQ.carry h.q g.fr h.nz, fun i hi => by
  rcases g.new i hi with e | e
  · exact h.new i e
  · exact .inr (Nat.le_trans h.fr.size e), fun e => by
  rcases g.new c e with e | e
  · exact h.nz e
  · have := hQ.lt h.q; omega, Fr.trans' h.fr g.fr fun i hi e => by
  rcases h.new i e with e | e
  · exact .inr e
  · omega⟩
theorem Left.ahead (h : Left T Q w1 c a Z bs' ss' k' Z' w') (f : Fr (fun _ => False) w w1) : Left T Q w c a Z bs' ss' k' Z' w' := ⟨h.am, h.q, fun i hi => by
  rcases h.new i hi with e | e
  · exact .inl e
  · exact .inr (Nat.le_trans f.size e), h.nz, Fr.trans' (f.mono fun _ _ e => e.elim) h.fr fun _ _ e => e⟩
/-- Blocks turn that were new, and aren't the arena's. -/
theorem Left.other (hQ : Chain1 Q) (h : Left T Q w c a Z bs ss k Z' w1) (hc : c < w.heap.size) {S : Nat → Prop} (f : Fr S w1 w') (hs : ∀ i, S i → w.heap.size ≤ i ∧ ¬ Z' i) : Left T Q w c a Z bs ss k Z' w' := ⟨(Am.good T a bs ss).carry h.am f fun i hi e => (hs i e).2 hi, hQ.carry h.q f fun e => by have := (hs c e).1; omega, h.new, h.nz, Fr.trans' h.fr f fun i hi e => by have := (hs i e).1; omega⟩
theorem Left.kept (hQ : Chain1 Q) (h : Left T Q w c a Z bs ss k Z' w1) (f : Fr (fun _ => False) w1 w') : Left T Q w c a Z bs ss k Z' w' := ⟨h.am.kept f, hQ.carry h.q f id, h.new, h.nz, Fr.trans' h.fr f fun _ _ e => e.elim⟩
end
/-- The document's chain. -/
def Rch (w : World) (c a : Nat) (k : Ck) : Prop := w.heap[c]? = some (.cells #[.pointer (some ⟨a, 0, none⟩), .int .i64 k.base, .int .i64 k.unit, .int .i64 k.per, .int .i64 ((k.hd : Int) - 1)] 203 (0, 0))
theorem Rch.chain : Chain1 Rch := ⟨fun {w w' c a k S} h f hn => by unfold Rch at h ⊢; rw [f.block c (Array.getElem?_eq_some_iff.1 h).1 hn]; exact h, fun h => (Array.getElem?_eq_some_iff.1 h).1⟩
section
variable {w w' : World} {c a : Nat} {k : Ck}
theorem Rch.c0 (h : Rch w c a k) : w.cell? ⟨c, 0, none⟩ = some (.pointer (some ⟨a, 0, none⟩)) := by unfold Rch at h; simp [World.cell?, h]
theorem Rch.c1 (h : Rch w c a k) : w.cell? ⟨c, 1, none⟩ = some (.int .i64 k.base) := by unfold Rch at h; simp [World.cell?, h]
theorem Rch.c2 (h : Rch w c a k) : w.cell? ⟨c, 2, none⟩ = some (.int .i64 k.unit) := by unfold Rch at h; simp [World.cell?, h]
theorem Rch.c3 (h : Rch w c a k) : w.cell? ⟨c, 3, none⟩ = some (.int .i64 k.per) := by unfold Rch at h; simp [World.cell?, h]
theorem Rch.c4 (h : Rch w c a k) : w.cell? ⟨c, 4, none⟩ = some (.int .i64 ((k.hd : Int) - 1)) := by unfold Rch at h; simp [World.cell?, h]
theorem Rch.fz (h : Rch w c a k) (j : Nat) : w.frozen? ⟨c, j, none⟩ = false := by unfold Rch at h; simp [World.frozen?, h]
theorem Rch.head (h : Rch w c a k) {v : Nat} {x : Int} (hx : x = (v : Int) - 1) : Rch (w.setCell ⟨c, 4, none⟩ (.int .i64 x)) c a (k.to v) := by unfold Rch at h ⊢; subst hx; simp [World.setCell, Array.getElem?_modify, h, Ck.to]
theorem Rch.base (h : Rch w c a k) (x : Nat) : Rch (w.setCell ⟨c, 1, none⟩ (.int .i64 x)) c a ⟨x, k.unit, k.per, k.hd⟩ := by unfold Rch at h ⊢; simp [World.setCell, Array.getElem?_modify, h]
end
end Go.Proofs.YtihaifnenjngpaaGreatDoor

namespace Go.Proofs.YtihaifnenjngpaaGreatDoor
open Go.RowKit

def nI (l : List Nat) : List Int := l.map fun n : Nat => (n : Int)
theorem nI_length (l : List Nat) : (nI l).length = l.length := by simp [nI]
theorem nI_snoc (l : List Nat) (x : Nat) : nI (l ++ [x]) = nI l ++ [(x : Int)] := by simp [nI]
/-- One number is put behind a row of the call's own: where the row lies then. -/
theorem push1s {w : World} {ops : Array Oper} {rest : List Oper} {o : Oper} {a : Act} {Q : Exit → Act → World → Prop} (hgd : o.guard = none) (s x : Operand)
    (ho : o.op = .call { callee := .builtin .append, args := #[s, x], argTypes := #[24, 24] })
    (base : Nat) (y : Value) (ys : List Int) (z : Int) (hs : a.eval s = y) (hown : w.ownsRow base 3 1 y ys.length (ic ys))
    (B : Nat) (hx : a.eval x = .slice (some ⟨B, 0, none⟩) 1 1) (hz : w.cell? ⟨B, 0, none⟩ = some (.int .i64 z)) (hl : ys.length < 100000) (hbase : base ≤ w.heap.size)
    (h : ∀ g cap w', w'.ownsRow base 3 1 (.slice (some ⟨g, 0, none⟩) (ys.length + 1) cap) (ys.length + 1) (ic (ys ++ [z])) → w.grownBy w' y.ownBlock → (y.ownBlock = some g ∨ g = w.heap.size) → wpList Tryz.prog ops Q rest (a.put o.dst (.slice (some ⟨g, 0, none⟩) (ys.length + 1) cap)) w') : wpList Tryz.prog ops Q (o :: rest) a w := by
  obtain ⟨i0, hi, hz0, hz1, hz2⟩ := info_parts Tryz.infoInt
  refine wpList_append_sep hgd s x 24 ho base 3 i0 (.int .i64 0) 1 8 Tryz.underlying24 hi hz0 hz1 hz2 rfl (by decide) y ys.length (ic ys) hs hown ⟨B, 0, none⟩ 1 1 (by decide) [.int .i64 z] hx rfl ?_ ?_ (by unfold maxLen; omega) (by omega) hbase ?_
  · intro j u hj
    match j, hj with
    | 0, hj => simp at hj; subst hj; simpa [Addr.add] using hz
  · intro u hu; simp at hu; subst hu; rfl
  · intro g cap w' hown' hg hw
    refine h g cap w' ?_ hg hw
    rw [ic_snoc]
    exact hown'
end Go.Proofs.YtihaifnenjngpaaGreatDoor

namespace Go.Proofs.YtihaifnenjngpaaGreatDoor
open Go.RowKit
open An

section
variable {w : World} {a c : Nat} {Z : Nat → Prop} {bs : List UInt8} {ss : List Sp} {k : Ck}
theorem Am.b0 {T : TypeId} (h : Am T a bs ss w Z) : ∃ b, w.cell? ⟨a, 0, none⟩ = some (.slice (some ⟨b, 0, none⟩) bs.length bs.length) := by
  obtain ⟨B, b, v, h, _⟩ := h
  exact ⟨b, h.c0⟩
theorem wrapI (x : Int) (h0 : -9223372036854775808 ≤ x) (h1 : x ≤ 9223372036854775807) : IntKind.i64.wrap x = x := by rw [IntKind.wrap_i64]; omega
theorem wrapU (x : Int) (h0 : 0 ≤ x) (h1 : x ≤ 18446744073709551615) : IntKind.u64.wrap x = x := by rw [IntKind.wrap_u64]; omega
/-- Where a block lies, as it is reckoned. -/
theorem Ck.Ok.reck {n : Nat} (h : k.Ok n) (hn : n ≤ 2097152) {x : Nat} (hx : x < k.per) : IntKind.i64.wrap ((x : Int) * (k.unit : Int)) = ((x * k.unit : Nat) : Int) ∧ IntKind.i64.wrap ((k.base : Int) + ((x * k.unit : Nat) : Int)) = (k.pos x : Int) := by
  have h1 := h.at hx
  unfold Ck.pos at h1 ⊢
  generalize e : x * k.unit = m at *
  rw [← Int.natCast_mul, e, wrapI _ (by omega) (by omega), wrapI _ (by omega) (by omega)]
  exact ⟨rfl, by omega⟩
set_option maxRecDepth 20000 in
set_option maxHeartbeats 1000000 in
theorem r_push_ok (q : Rch w c a k) (g : Am 68 a bs ss w Z) (ok : k.Ok bs.length) (nz : ¬ Z c) (hk : ss.length ≤ 1000000) {x : Nat} (hx : x < k.per) : Calls Tryz.prog 166 #[.pointer (some ⟨c, 0, none⟩), .int .i64 x] w fun e w' => e = .returned (.int .i64 0) ∧ ∃ Z', Left 68 Rch w c a Z (over bs (k.pos x) (leb k.hd 8)) (ss ++ [((k.pos x : Int), (8 : Int), true)]) (k.to (x + 1)) Z' w' := by
  have c0 := q.c0
  have c1 := q.c1
  have c2 := q.c2
  have c3 := q.c3
  have c4 := q.c4
  have hh := ok.hd
  have hp := ok.p1
  obtain ⟨r1, r2⟩ := ok.reck g.le hx
  have r3 := wrapI ((k.hd : Int) - 1 + 1) (by omega) (by omega)
  have r4 := wrapU (k.hd : Int) (by omega) (by omega)
  have r5 : (k.hd : Int) - 1 + 1 = k.hd := by omega
  rw [r5] at r3
  have HS : Hid (∀ w0, Fr (fun _ => False) w w0 → Calls Tryz.prog 209 #[.pointer (some ⟨a, 0, none⟩), .int .i64 (k.pos x), .int .u64 k.hd] w0 fun e w' => e = .returned (.int .i64 0) ∧ ∃ Z', Left 68 Rch w c a Z (over bs (k.pos x) (leb k.hd 8)) (ss ++ [((k.pos x : Int), (8 : Int), true)]) k Z' w') :=
    fun w0 f => (rm_store (g.kept f) (k.pos x) k.hd (by omega) (ok.at hx) hk).mono fun e w' ⟨he, Z', h1, h2⟩ => ⟨he, Z', (Left.arena Rch.chain (Rch.chain.carry q f id) nz h1 h2).ahead f⟩
  have hx' : (x : Int) < k.per := by omega
  clear q g ok nz hk hx hh hp r5
  generalize k.pos x = ps at *
  generalize x * k.unit = m at *
  go_enter Tryz.func166, Tryz.ntmps166
  go_wp2_with fail
  go_region_held3 (fun w' => w'.cell? ⟨c, 0, none⟩ = some (.pointer (some ⟨a, 0, none⟩)) ∧ w'.cell? ⟨c, 1, none⟩ = some (.int .i64 k.base) ∧ w'.cell? ⟨c, 2, none⟩ = some (.int .i64 k.unit) ∧ w'.cell? ⟨c, 4, none⟩ = some (.int .i64 ((k.hd : Int) - 1))) (first | go_keep | exact ⟨by assumption, by assumption, by assumption, by assumption⟩) (first | (go_at_call 209; refine (HS.out _ (Fr.refl _ _).drew).mono ?_; rintro e w1 ⟨rfl, Z', hL⟩; have HL := hid hL; have d0 := hL.q.c0; have d1 := hL.q.c1; have d2 := hL.q.c2; have d4 := hL.q.c4; have fz := hL.q.fz; clear hL))
  clear HS c0 c1 c2 c3 c4
  go_wp2
  go_ret
  exact ⟨by simp, Z', HL.out.set (HL.out.q.head (by omega))⟩
end
end Go.Proofs.YtihaifnenjngpaaGreatDoor

namespace Go.Proofs.YtihaifnenjngpaaGreatDoor
open Go.RowKit
open An

section
variable {w : World} {a c : Nat} {Z : Nat → Prop} {bs : List UInt8} {ss : List Sp} {k : Ck}
/-- Amid All, in memory: the row that grows lies apart from the arena. -/
structure InAll (Q : World → Nat → Nat → Ck → Prop) (T : TypeId) (w : World) (c a : Nat) (Z : Nat → Prop) (bs : List UInt8) (ss : List Sp) (k : Ck) (os : List Nat) (n v : Nat) (t : List Sp) (Zr : Nat → Prop) (y : Value) (wr : World) : Prop where
  amid : Amid k bs ss os n v t
  left : Left T Q w c a Z bs t k Zr wr
  row : wr.ownsRow w.heap.size 3 1 y (nI os).length (ic (nI os))
  apart : ∀ g, y.ownBlock = some g → ¬ Zr g
  t : t.length ≤ ss.length + os.length
theorem InAll.end {Q : World → Nat → Nat → Ck → Prop} {T : TypeId} {n v : Nat} {t : List Sp} {os : List Nat} {Zr : Nat → Prop} {wr : World} {yad : Option Addr} {m ycap : Nat} (h : InAll Q T w c a Z bs ss k os n v t Zr (.slice yad m ycap) wr) : NumsAt wr yad (nI os) ∧ ∀ b off, yad = some ⟨b, off, none⟩ → w.heap.size ≤ b ∧ ¬ Zr b := by
  obtain ⟨yad', ycap', e, h1, h2⟩ := row_list h.row
  simp only [Value.slice.injEq] at e
  obtain ⟨rfl, _, rfl⟩ := e
  exact ⟨h1, fun b off e => ⟨h2 b off e, h.apart b (by rw [e]; rfl)⟩⟩
theorem own_turn {w w' : World} {base : Nat} {v : Value} {S : Nat → Prop} {e : TypeId} {size n : Nat} {xs : List Value} (h : w.ownsRow base e size v n xs) (f : Fr S w w') (hs : ∀ x, v.ownBlock = some x → ¬ S x) : w'.ownsRow base e size v n xs := by
  obtain ⟨h1, h2⟩ := h
  refine ⟨h1, ?_⟩
  rcases h2 with h2 | ⟨g, cap, cur, rfl, hb, hc, rest⟩
  · exact .inl h2
  · exact .inr ⟨g, cap, cur, rfl, hb, by rw [f.block g (Array.getElem?_eq_some_iff.1 hc).1 (hs g rfl)]; exact hc, rest⟩
theorem InAll.grow {Q : World → Nat → Nat → Ck → Prop} (hQ : Chain1 Q) (hc : c < w.heap.size) {T : TypeId} {n v x : Nat} {t : List Sp} {os : List Nat} {Zr : Nat → Prop} {wr w2 : World} {y : Value} (h : InAll Q T w c a Z bs ss k os n v t Zr y wr) {ob : Obj} {g m m2 cap : Nat}
    (hown : w2.ownsRow w.heap.size 3 1 (.slice (some ⟨g, 0, none⟩) m cap) m2 (ic (nI os ++ [(x : Int)]))) (hm : m2 = os.length + 1) (hg : (wr.alloc ob).grownBy w2 y.ownBlock) (hw : y.ownBlock = some g ∨ g = wr.heap.size + 1) :
    Left T Q w c a Z bs t k Zr w2 ∧ w2.ownsRow w.heap.size 3 1 (.slice (some ⟨g, 0, none⟩) m cap) (nI (os ++ [x])).length (ic (nI (os ++ [x]))) ∧ ¬ Zr g ∧ g < w2.heap.size := by
  have hs := h.left.fr.size
  refine ⟨h.left.other hQ hc (S := fun i => y.ownBlock = some i) (((Fr.refl _ wr).alloc ob).grown hg fun k e => .inl e) fun i e => ⟨(h.row.lt i e).1, h.apart i e⟩, ?_, ?_, (hown.lt g rfl).2⟩
  · subst hm; rw [nI_snoc, List.length_append, nI_length]; exact hown
  · rcases hw with e | e
    · exact h.apart g e
    · intro e2
      have := h.left.am.lt g e2
      omega
theorem InAll.next {Q : World → Nat → Nat → Ck → Prop} {T : TypeId} {n x : Nat} {t : List Sp} {os : List Nat} {Zr Z2 : Nat → Prop} {w2 w3 : World} {g m cap : Nat} (hA : Amid k bs ss os (n + 1) (x + 1) t) (hw : wd bs (k.pos x) ≤ k.per) (ht : t.length ≤ ss.length + os.length)
    (h1 : Left T Q w c a Z bs (t ++ [((k.pos x : Int), (8 : Int), false)]) k Z2 w3) (h2 : w2.ownsRow w.heap.size 3 1 (.slice (some ⟨g, 0, none⟩) m cap) (nI (os ++ [x])).length (ic (nI (os ++ [x])))) (h3 : ¬ Zr g ∧ g < w2.heap.size) (h4 : Gw w2 w3 Zr Z2) :
    InAll Q T w c a Z bs ss k (os ++ [x]) n (wd bs (k.pos x)) (t ++ [((k.pos x : Int), (8 : Int), false)]) Z2 (.slice (some ⟨g, 0, none⟩) m cap) w3 := by
  refine ⟨hA.next hw, h1, ?_, fun g' e => ?_, by simp only [List.length_append, List.length_singleton]; omega⟩
  · refine own_turn h2 h4.fr fun x e => ?_
    have : g = x := by simpa [Value.ownBlock] using e
    exact this ▸ h3.1
  · have : g = g' := by simpa [Value.ownBlock] using e
    subst this
    intro e2
    rcases h4.new g e2 with e3 | e3
    · exact h3.1 e3
    · omega
end
end Go.Proofs.YtihaifnenjngpaaGreatDoor
