/-
  An arena as one thing in memory: the program's, and the document's.
  An arena as one thing in memory, more: bytes cleared, written, copied.
-/
import Derived.Test.YtcajdbklchjkkaaAnUni
import Derived.Test.YtcajdbklchjkkaaObjs
namespace Go.Proofs.Ytcajdbklchjkkaa
open Go.RowKit
open An

/-- An arena (type T) at block a: its bytes are bs, its touches ss; all its blocks are of Z. -/
def Am (T : TypeId) (a : Nat) (bs : List UInt8) (ss : List Sp) (w : World) (Z : Nat → Prop) : Prop :=
  ∃ B b v, Ar w T B a b bs v ss ∧ (Z a ∧ Z b ∧ ∀ y, v.ownBlock = some y → Z y) ∧ ∀ i, Z i → i < w.heap.size
section
variable {w w' : World} {T : TypeId} {a : Nat} {Z : Nat → Prop} {bs bs' : List UInt8} {ss ss' : List Sp}
theorem Am.good (T : TypeId) (a : Nat) (bs : List UInt8) (ss : List Sp) : Good (Am T a bs ss) :=
  ⟨fun ⟨B, b, v, h, ⟨h1, h2, h3⟩, h4⟩ f hs => ⟨B, b, v, h.carry f (hs _ h1) (hs _ h2) (fun x e => hs _ (h3 x e)), ⟨h1, h2, h3⟩, fun i hi => Nat.lt_of_lt_of_le (h4 i hi) f.size⟩,
   fun ⟨B, b, v, h, ⟨h1, h2, h3⟩, _⟩ k1 k2 => ⟨B, b, v, h, ⟨k1 _ h1, k1 _ h2, fun x e => k1 _ (h3 x e)⟩, k2⟩⟩
theorem Am.kept (h : Am T a bs ss w Z) (f : Fr (fun _ => False) w w') : Am T a bs ss w' Z := (Am.good T a bs ss).kept h f
theorem Am.lt (h : Am T a bs ss w Z) : ∀ i, Z i → i < w.heap.size := by obtain ⟨_, _, _, _, _, h⟩ := h; exact h
theorem Am.here (h : Am T a bs ss w Z) : Z a := by obtain ⟨_, _, _, _, h, _⟩ := h; exact h.1
theorem Am.le (h : Am T a bs ss w Z) : bs.length ≤ 2097152 := by obtain ⟨_, _, _, h, _⟩ := h; exact h.le
theorem Am.noted {B b : Nat} {v : Value} (h1 : Z a ∧ Z b ∧ ∀ y, v.ownBlock = some y → Z y) (h2 : ∀ i, Z i → i < w.heap.size) (hn : Noted w w' T B a b bs' v ss') : ∃ Z', Am T a bs' ss' w' Z' ∧ Gw w w' Z Z' := by
  obtain ⟨v', h', f', hv⟩ := hn
  have hlt : ∀ i, (Z i ∨ v'.ownBlock = some i) → i < w'.heap.size := fun i hi => by
    rcases hi with hi | hi
    · exact Nat.lt_of_lt_of_le (h2 i hi) f'.size
    · exact (h'.own i hi).2
  refine ⟨fun i => Z i ∨ v'.ownBlock = some i, ⟨B, b, v', h', ⟨.inl h1.1, .inl h1.2.1, fun y e => .inr e⟩, hlt⟩, ⟨fun _ => .inl, fun i hi => ?_, hlt, f'.mono fun i _ e => ?_⟩⟩
  · rcases hi with hi | hi
    · exact .inl hi
    · rcases hv i hi with e | e
      · exact .inl (h1.2.2 i e)
      · exact .inr e
  · rcases e with rfl | rfl | e
    · exact h1.1
    · exact h1.2.1
    · exact h1.2.2 i e
theorem am_new (n : Nat) (w : World) (h : n ≤ 2097152) : Calls Try.prog 9 #[.int .i64 n] w fun e w' => ∃ a Z, e = .returned (.tuple #[.pointer (some ⟨a, 0, none⟩), .int .i64 0]) ∧ Am 77 a (List.replicate n 0) [] w' Z ∧ (∀ i, Z i → w.heap.size ≤ i) ∧ Fr (fun _ => False) w w' :=
  (new_ok n w h).mono fun e w' ⟨he, har, hf, hz⟩ => ⟨_, fun i => i = w.heap.size + 1 ∨ i = w.heap.size, he, ⟨_, _, _, har, ⟨.inl rfl, .inr rfl, fun y e => by cases e⟩, fun i hi => by omega⟩, fun i hi => by omega, hf⟩
theorem am_read (h : Am 77 a bs ss w Z) (p m : Nat) (hin : p + m ≤ bs.length) (hk : ss.length ≤ 1000000) : Calls Try.prog 15 #[.pointer (some ⟨a, 0, none⟩), .int .i64 p, .int .i64 m] w fun e w' => e = .returned (.tuple #[.string ⟨((bs.drop p).take m).toArray⟩, .int .i64 0]) ∧ ∃ Z', Am 77 a bs (noted ss p m false) w' Z' ∧ Gw w w' Z Z' := by
  obtain ⟨B, b, v, h, h1, h2⟩ := h
  exact (read_ok h p m hin hk).mono fun e w' ⟨he, hn⟩ => ⟨he, Am.noted h1 h2 hn⟩
theorem am_size (h : Am 77 a bs ss w Z) : Calls Try.prog 57 #[.pointer (some ⟨a, 0, none⟩)] w fun e w' => e = .returned (.int .i64 bs.length) ∧ w' = w := by
  obtain ⟨B, b, v, h, h1, h2⟩ := h
  exact size_any h
theorem am_touched (h : Am 77 a bs ss w Z) (hk : ss.length ≤ 1000002) : Calls Try.prog 14 #[.pointer (some ⟨a, 0, none⟩)] w fun e w' => ∃ ad cap, e = .returned (.slice ad ss.length cap) ∧ w'.ownsRow w.heap.size 65 3 (.slice ad ss.length cap) ss.length (spcs ss) ∧ Fr (fun _ => False) w w' := by
  obtain ⟨B, b, v, h, h1, h2⟩ := h
  exact touched_any h hk
theorem rm_new (n : Nat) (w : World) (h : n ≤ 2097152) : Calls Try.prog 10 #[.int .i64 n] w fun e w' => ∃ a Z, e = .returned (.tuple #[.pointer (some ⟨a, 0, none⟩), .int .i64 0]) ∧ Am 51 a (List.replicate n 0) [] w' Z ∧ (∀ i, Z i → w.heap.size ≤ i) ∧ Fr (fun _ => False) w w' :=
  (rnew_ok n w h).mono fun e w' ⟨he, har, hf, hz⟩ => ⟨_, fun i => i = w.heap.size + 1 ∨ i = w.heap.size, he, ⟨_, _, _, har, ⟨.inl rfl, .inr rfl, fun y e => by cases e⟩, fun i hi => by omega⟩, fun i hi => by omega, hf⟩
end
end Go.Proofs.Ytcajdbklchjkkaa

namespace Go.Proofs.Ytcajdbklchjkkaa
open Go.RowKit
open An

section
variable {w : World} {a : Nat} {Z : Nat → Prop} {bs : List UInt8} {ss : List Sp}
theorem am_zero (h : Am 77 a bs ss w Z) (p m : Nat) (hin : p + m ≤ bs.length) (hk : ss.length ≤ 1000000) : Calls Try.prog 47 #[.pointer (some ⟨a, 0, none⟩), .int .i64 p, .int .i64 m] w fun e w' => e = .returned (.int .i64 0) ∧ ∃ Z', Am 77 a (over bs p (List.replicate m 0)) (noted ss p m true) w' Z' ∧ Gw w w' Z Z' := by
  obtain ⟨B, b, v, h, h1, h2⟩ := h
  exact (zero_ok h p m hin hk).mono fun e w' ⟨he, hn⟩ => ⟨he, Am.noted h1 h2 hn⟩
theorem am_write (h : Am 77 a bs ss w Z) (p : Nat) (s : ByteArray) (hin : p + s.size ≤ bs.length) (hk : ss.length ≤ 1000000) : Calls Try.prog 18 #[.pointer (some ⟨a, 0, none⟩), .int .i64 p, .string s] w fun e w' => e = .returned (.int .i64 0) ∧ ∃ Z', Am 77 a (over bs p s.data.toList) (noted ss p s.size true) w' Z' ∧ Gw w w' Z Z' := by
  obtain ⟨B, b, v, h, h1, h2⟩ := h
  exact (write_ok h p s hin hk).mono fun e w' ⟨he, hn⟩ => ⟨he, Am.noted h1 h2 hn⟩
theorem rm_zero (h : Am 51 a bs ss w Z) (p m : Nat) (hin : p + m ≤ bs.length) (hk : ss.length ≤ 1000000) : Calls Try.prog 52 #[.pointer (some ⟨a, 0, none⟩), .int .i64 p, .int .i64 m] w fun e w' => e = .returned (.int .i64 0) ∧ ∃ Z', Am 51 a (over bs p (List.replicate m 0)) (noted ss p m true) w' Z' ∧ Gw w w' Z Z' := by
  obtain ⟨B, b, v, h, h1, h2⟩ := h
  exact (rzero_ok h p m hin hk).mono fun e w' ⟨he, hn⟩ => ⟨he, Am.noted h1 h2 hn⟩
end
end Go.Proofs.Ytcajdbklchjkkaa
