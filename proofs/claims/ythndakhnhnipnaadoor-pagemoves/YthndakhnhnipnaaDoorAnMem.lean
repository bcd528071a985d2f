/-
  An arena as one thing in memory: the program's, and the document's.
-/
import Derived.Test.YthndakhnhnipnaaDoorAnUni
import Derived.Test.YthndakhnhnipnaaDoorObjs
namespace Go.Proofs.YthndakhnhnipnaaDoor
open Go.RowKit
open An

/-- An arena (type T) at block a: its bytes are bs, its touches ss; all its blocks are of Z. -/
def Am (T : TypeId) (a : Nat) (bs : List UInt8) (ss : List Sp) (w : World) (Z : Nat → Prop) : Prop :=
  ∃ B b v, Ar w T B a b bs v ss ∧ (Z a ∧ Z b ∧ ∀ y, v.ownBlock = some y → Z y) ∧ ∀ i, Z i → i < w.heap.size
section
variable {w w' : World} {T : TypeId} {a : Nat} {Z : Nat → Prop} {bs bs' : List UInt8} {ss ss' : List Sp}
theorem Am.good (T : TypeId) (a : Nat) (bs : List UInt8) (ss : List Sp) : Good (Am T a bs ss) :=
  ⟨fun ⟨B, b, v, h, ⟨h1, h2, h3⟩, h4⟩ f hs => ⟨B, b, v, h.carry f (hs _ h1) (hs _ h2) (fun x e => hs _ (h3 x e)), ⟨h1, h2, h3⟩, fun i hi => Nat.lt_of_lt_of_le (h4 i hi) f.size⟩,
   fun ⟨B, b, v, h, ⟨h1, h2, h3⟩, _⟩ k1 k2 => ⟨B, b, v, h, ⟨k1 _ h1, k1 _ h2, fun x e => k1 _ (h3 x e)⟩, k2⟩⟩
theorem Am.kept (h : Am T a bs ss w Z) (f : Fr (fun _ => False) w w') : Am T a bs ss w' Z := (Am.good T a bs ss).kept h f
theorem Am.lt (h : Am T a bs ss w Z) : ∀ i, Z i → i < w.heap.size := by obtain ⟨_, _, _, _, _, h⟩ := h; exact h
theorem Am.here (h : Am T a bs ss w Z) : Z a := by obtain ⟨_, _, _, _, h, _⟩ := h; exact h.1
theorem Am.le (h : Am T a bs ss w Z) : bs.length ≤ 2097152 := by obtain ⟨_, _, _, h, _⟩ := h; exact h.le
theorem Am.noted {B b : Nat} {v : Value} (h1 : Z a ∧ Z b ∧ ∀ y, v.ownBlock = some y → Z y) (h2 : ∀ i, Z i → i < w.heap.size) (hn : Noted w w' T B a b bs' v ss') : ∃ Z', Am T a bs' ss' w' Z' ∧ Gw w w' Z Z' := by
  obtain ⟨v', h', f', hv⟩ := hn
  have hlt : ∀ i, (Z i ∨ v'.ownBlock = some i) → i < w'.heap.size := fun i hi => by
    rcases hi with hi | hi
    · exact Nat.lt_of_lt_of_le (h2 i hi) f'.size
    · exact (h'.own i hi).2
  refine ⟨fun i => Z i ∨ v'.ownBlock = some i, ⟨B, b, v', h', ⟨.inl h1.1, .inl h1.2.1, fun y e => .inr e⟩, hlt⟩, ⟨fun _ => .inl, fun i hi => ?_, hlt, f'.mono fun i _ e => ?_⟩⟩
  · rcases hi with hi | hi
    · exact .inl hi
    · rcases hv i hi with e | e
      · exact .inl (h1.2.2 i e)
      · exact .inr e
  · rcases e with rfl | rfl | e
    · exact h1.1
    · exact h1.2.1
    · exact h1.2.2 i e
theorem am_new (n : Nat) (w : World) (h : n ≤ 2097152) : Calls Tryd.prog 7 #[.int .i64 n] w fun e w' => ∃ a Z, e = .returned (.tuple #[.pointer (some ⟨a, 0, none⟩), .int .i64 0]) ∧ Am 70 a (List.replicate n 0) [] w' Z ∧ (∀ i, Z i → w.heap.size ≤ i) ∧ Fr (fun _ => False) w w' :=
  (new_ok n w h).mono fun e w' ⟨he, har, hf, hz⟩ => ⟨_, fun i => i = w.heap.size + 1 ∨ i = w.heap.size, he, ⟨_, _, _, har, ⟨.inl rfl, .inr rfl, fun y e => by cases e⟩, fun i hi => by omega⟩, fun i hi => by omega, hf⟩
theorem am_load (h : Am 70 a bs ss w Z) (p : Nat) (hin : p + 8 ≤ bs.length) (hk : ss.length ≤ 1000000) : Calls Tryd.prog 84 #[.pointer (some ⟨a, 0, none⟩), .int .i64 p] w fun e w' => e = .returned (.tuple #[.int .u64 (word ((bs.drop p).take 8) : Int), .int .i64 0]) ∧ ∃ Z', Am 70 a bs (ss ++ [((p : Int), (8 : Int), false)]) w' Z' ∧ Gw w w' Z Z' := by
  obtain ⟨B, b, v, h, h1, h2⟩ := h
  exact (load_ok h p hin hk).mono fun e w' ⟨he, hn⟩ => ⟨he, Am.noted h1 h2 hn⟩
theorem am_store (h : Am 70 a bs ss w Z) (p u : Nat) (hu : u < 18446744073709551616) (hin : p + 8 ≤ bs.length) (hk : ss.length ≤ 1000000) : Calls Tryd.prog 76 #[.pointer (some ⟨a, 0, none⟩), .int .i64 p, .int .u64 u] w fun e w' => e = .returned (.int .i64 0) ∧ ∃ Z', Am 70 a (over bs p (leb u 8)) (ss ++ [((p : Int), (8 : Int), true)]) w' Z' ∧ Gw w w' Z Z' := by
  obtain ⟨B, b, v, h, h1, h2⟩ := h
  exact (store_ok h p u hu hin hk).mono fun e w' ⟨he, hn⟩ => ⟨he, Am.noted h1 h2 hn⟩
/-- Store at whatever place. -/
theorem am_put (h : Am 70 a bs ss w Z) (x u : Int) (hx : x ≤ 9223372036854775807) (hu0 : 0 ≤ u) (hu1 : u ≤ 18446744073709551615) (hk : ss.length ≤ 1000000) : Calls Tryd.prog 76 #[.pointer (some ⟨a, 0, none⟩), .int .i64 x, .int .u64 u] w fun e w' => e = .returned (.int .i64 (errE (inB x 8 bs.length))) ∧ ∃ Z', Am 70 a (layB (inB x 8 bs.length) bs x (leb u.toNat 8)) (notS (inB x 8 bs.length) ss x 8 true) w' Z' ∧ Gw w w' Z Z' := by
  obtain ⟨B, b, v, h, h1, h2⟩ := h
  exact (u_store h x u hx hu0 hu1 hk).mono fun e w' ⟨he, hn⟩ => ⟨he, Am.noted h1 h2 hn⟩
theorem am_read (h : Am 70 a bs ss w Z) (p m : Nat) (hin : p + m ≤ bs.length) (hk : ss.length ≤ 1000000) : Calls Tryd.prog 26 #[.pointer (some ⟨a, 0, none⟩), .int .i64 p, .int .i64 m] w fun e w' => e = .returned (.tuple #[.string ⟨((bs.drop p).take m).toArray⟩, .int .i64 0]) ∧ ∃ Z', Am 70 a bs (noted ss p m false) w' Z' ∧ Gw w w' Z Z' := by
  obtain ⟨B, b, v, h, h1, h2⟩ := h
  exact (read_ok h p m hin hk).mono fun e w' ⟨he, hn⟩ => ⟨he, Am.noted h1 h2 hn⟩
theorem am_size (h : Am 70 a bs ss w Z) : Calls Tryd.prog 64 #[.pointer (some ⟨a, 0, none⟩)] w fun e w' => e = .returned (.int .i64 bs.length) ∧ w' = w := by
  obtain ⟨B, b, v, h, h1, h2⟩ := h
  exact size_any h
theorem am_touched (h : Am 70 a bs ss w Z) (hk : ss.length ≤ 1000002) : Calls Tryd.prog 25 #[.pointer (some ⟨a, 0, none⟩)] w fun e w' => ∃ ad cap, e = .returned (.slice ad ss.length cap) ∧ w'.ownsRow w.heap.size 92 3 (.slice ad ss.length cap) ss.length (spcs ss) ∧ Fr (fun _ => False) w w' := by
  obtain ⟨B, b, v, h, h1, h2⟩ := h
  exact touched_any h hk
theorem rm_new (n : Nat) (w : World) (h : n ≤ 2097152) : Calls Tryd.prog 8 #[.int .i64 n] w fun e w' => ∃ a Z, e = .returned (.tuple #[.pointer (some ⟨a, 0, none⟩), .int .i64 0]) ∧ Am 56 a (List.replicate n 0) [] w' Z ∧ (∀ i, Z i → w.heap.size ≤ i) ∧ Fr (fun _ => False) w w' :=
  (rnew_ok n w h).mono fun e w' ⟨he, har, hf, hz⟩ => ⟨_, fun i => i = w.heap.size + 1 ∨ i = w.heap.size, he, ⟨_, _, _, har, ⟨.inl rfl, .inr rfl, fun y e => by cases e⟩, fun i hi => by omega⟩, fun i hi => by omega, hf⟩
theorem rm_load (h : Am 56 a bs ss w Z) (p : Nat) (hin : p + 8 ≤ bs.length) (hk : ss.length ≤ 1000000) : Calls Tryd.prog 71 #[.pointer (some ⟨a, 0, none⟩), .int .i64 p] w fun e w' => e = .returned (.tuple #[.int .u64 (word ((bs.drop p).take 8) : Int), .int .i64 0]) ∧ ∃ Z', Am 56 a bs (ss ++ [((p : Int), (8 : Int), false)]) w' Z' ∧ Gw w w' Z Z' := by
  obtain ⟨B, b, v, h, h1, h2⟩ := h
  exact (rload_ok h p hin hk).mono fun e w' ⟨he, hn⟩ => ⟨he, Am.noted h1 h2 (noted8 ss p false ▸ hn)⟩
theorem rm_store (h : Am 56 a bs ss w Z) (p u : Nat) (hu : u < 18446744073709551616) (hin : p + 8 ≤ bs.length) (hk : ss.length ≤ 1000000) : Calls Tryd.prog 72 #[.pointer (some ⟨a, 0, none⟩), .int .i64 p, .int .u64 u] w fun e w' => e = .returned (.int .i64 0) ∧ ∃ Z', Am 56 a (over bs p (leb u 8)) (ss ++ [((p : Int), (8 : Int), true)]) w' Z' ∧ Gw w w' Z Z' := by
  obtain ⟨B, b, v, h, h1, h2⟩ := h
  exact (rstore_ok h p u hu hin hk).mono fun e w' ⟨he, hn⟩ => ⟨he, Am.noted h1 h2 (noted8 ss p true ▸ hn)⟩
theorem rm_put (h : Am 56 a bs ss w Z) (x u : Int) (hx : x ≤ 9223372036854775807) (hu0 : 0 ≤ u) (hu1 : u ≤ 18446744073709551615) (hk : ss.length ≤ 1000000) : Calls Tryd.prog 72 #[.pointer (some ⟨a, 0, none⟩), .int .i64 x, .int .u64 u] w fun e w' => e = .returned (.int .i64 (errE (inB x 8 bs.length))) ∧ ∃ Z', Am 56 a (layB (inB x 8 bs.length) bs x (leb u.toNat 8)) (notS (inB x 8 bs.length) ss x 8 true) w' Z' ∧ Gw w w' Z Z' := by
  obtain ⟨B, b, v, h, h1, h2⟩ := h
  exact (ru_store h x u hx hu0 hu1 hk).mono fun e w' ⟨he, hn⟩ => ⟨he, Am.noted h1 h2 hn⟩
end
end Go.Proofs.YthndakhnhnipnaaDoor
