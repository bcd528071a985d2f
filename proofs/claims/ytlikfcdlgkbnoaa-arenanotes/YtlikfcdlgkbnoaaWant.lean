/-
  An arena that the call made, and beside it a list of spans that the call makes for itself.
-/
import Derived.Test.YtlikfcdlgkbnoaaSame
import Derived.Test.YtlikfcdlgkbnoaaSizes
namespace Go.Proofs.Ytlikfcdlgkbnoaa
open Go.RowKit

def MW (W w : World) (T : TypeId) (B a b : Nat) (bs : List UInt8) (ss : List Sp) (vw : Value) (ks : List Sp) : Prop :=
  ∃ v, Ar w T B a b bs v ss ∧ W.heap.size ≤ a ∧ W.heap.size ≤ b ∧ Fr (fun _ => False) W w ∧ w.ownsRow W.heap.size 58 3 vw ks.length (spcs ks) ∧
    (∀ y, vw.ownBlock = some y → y ≠ a ∧ y ≠ b ∧ v.ownBlock ≠ some y)

theorem MW.start {W w : World} {T : TypeId} {B a b : Nat} {bs : List UInt8} {ss : List Sp} (h : Mine W w T B a b bs ss) : MW W w T B a b bs ss (.slice none 0 0) [] := by
  obtain ⟨v, h1, h2, h3, h4⟩ := h
  exact ⟨v, h1, h2, h3, h4, World.ownsRow_nil _ _ _ _, fun y hy => by cases hy⟩

theorem MW.mine {W w : World} {T : TypeId} {B a b : Nat} {bs : List UInt8} {ss : List Sp} {vw : Value} {ks : List Sp} (h : MW W w T B a b bs ss vw ks) : Mine W w T B a b bs ss := by
  obtain ⟨v, h1, h2, h3, h4, h5, h6⟩ := h
  exact ⟨v, h1, h2, h3, h4⟩

theorem MW.noted {W w w' : World} {T : TypeId} {B a b : Nat} {bs bs' : List UInt8} {v : Value} {ss ss' : List Sp} {vw : Value} {ks : List Sp}
    (h1 : Ar w T B a b bs v ss) (h2 : W.heap.size ≤ a) (h3 : W.heap.size ≤ b) (h4 : Fr (fun _ => False) W w) (h5 : w.ownsRow W.heap.size 58 3 vw ks.length (spcs ks))
    (h6 : ∀ y, vw.ownBlock = some y → y ≠ a ∧ y ≠ b ∧ v.ownBlock ≠ some y) (hn : Noted w w' T B a b bs' v ss') : MW W w' T B a b bs' ss' vw ks := by
  have hm := Mine.noted h1 h2 h3 h4 hn
  obtain ⟨v', h', f', r'⟩ := hn
  have hfr := hm.frame
  refine ⟨v', h', h2, h3, hfr, owned_fr h5 f' ?_, ?_⟩
  · intro y hy hs
    have := h6 y hy
    rcases hs with hs | hs | hs
    · exact this.1 hs
    · exact this.2.1 hs
    · exact this.2.2 hs
  · intro y hy
    have := h6 y hy
    refine ⟨this.1, this.2.1, fun e => ?_⟩
    rcases r' y e with hs | hs
    · exact this.2.2 hs
    · have := (h5.lt y hy).2; omega

theorem MW.append {W w w1 : World} {T : TypeId} {B a b : Nat} {bs : List UInt8} {ss : List Sp} {vw : Value} {ks : List Sp} {o : Obj} {g cap : Nat} {s : Sp} (h : MW W w T B a b bs ss vw ks)
    (hown : w1.ownsRow W.heap.size 58 3 (.slice (some ⟨g, 0, none⟩) (ks.length + 1) cap) (ks.length + 1) (spcs ks ++ [.int .i64 s.1, .int .i64 s.2.1, .bool s.2.2]))
    (hgrow : (w.alloc o).grownBy w1 vw.ownBlock) (hsep : vw.ownBlock = some g ∨ g = w.heap.size + 1) : MW W w1 T B a b bs ss (.slice (some ⟨g, 0, none⟩) (ks.length + 1) cap) (ks ++ [s]) := by
  obtain ⟨v, h1, h2, h3, h4, h5, h6⟩ := h
  have hB := h1.lB
  have hla := h1.la
  have hlb := h1.lb
  have f1 : Fr (fun y => vw.ownBlock = some y) w w1 := ((Fr.refl _ w).alloc o).grown hgrow (fun y hy => .inl hy)
  refine ⟨v, h1.carry f1 (fun e => (h6 a e).1 rfl) (fun e => (h6 b e).2.1 rfl) (fun y hy e => (h6 y e).2.2 hy), h2, h3, h4.trans' f1 ?_, ?_, ?_⟩
  · intro i hi e
    have := (h5.lt i e).1
    omega
  · rw [spcs_append, List.length_append]; exact hown
  · intro y hy
    simp only [Value.ownBlock, Option.some.injEq] at hy
    subst hy
    rcases hsep with hs | hs
    · exact h6 g hs
    · subst hs
      refine ⟨by omega, by omega, fun e => ?_⟩
      have := (h1.own _ e).2
      omega

section
variable {W w : World} {B a b : Nat} {bs : List UInt8} {ss : List Sp} {vw : Value} {ks : List Sp}
theorem w_read (h : MW W w 61 B a b bs ss vw ks) (p m : Nat) (hin : p + m ≤ bs.length) (hk : ss.length ≤ 1000000) :
    Calls Try.prog 16 #[.pointer (some ⟨a, 0, none⟩), .int .i64 p, .int .i64 m] w fun e w' => ∃ r, e = .returned (.tuple #[.string r, .int .i64 0]) ∧ MW W w' 61 B a b bs (noted ss p m false) vw ks := by
  obtain ⟨v, h1, h2, h3, h4, h5, h6⟩ := h
  exact (read_ok h1 p m hin hk).mono fun e w' ⟨he, hn⟩ => ⟨_, he, MW.noted h1 h2 h3 h4 h5 h6 hn⟩
theorem w_zero (h : MW W w 61 B a b bs ss vw ks) (p m : Nat) (hin : p + m ≤ bs.length) (hk : ss.length ≤ 1000000) :
    Calls Try.prog 22 #[.pointer (some ⟨a, 0, none⟩), .int .i64 p, .int .i64 m] w fun e w' => e = .returned (.int .i64 0) ∧ ∃ bs', bs'.length = bs.length ∧ MW W w' 61 B a b bs' (noted ss p m true) vw ks := by
  obtain ⟨v, h1, h2, h3, h4, h5, h6⟩ := h
  exact (zero_ok h1 p m hin hk).mono fun e w' ⟨he, hn⟩ => ⟨he, _, over_length _ _ _ (by simpa using hin), MW.noted h1 h2 h3 h4 h5 h6 hn⟩
theorem w_write (h : MW W w 61 B a b bs ss vw ks) (p : Nat) (s : ByteArray) (hin : p + s.size ≤ bs.length) (hk : ss.length ≤ 1000000) :
    Calls Try.prog 19 #[.pointer (some ⟨a, 0, none⟩), .int .i64 p, .string s] w fun e w' => e = .returned (.int .i64 0) ∧ ∃ bs', MW W w' 61 B a b bs' (noted ss p s.size true) vw ks := by
  obtain ⟨v, h1, h2, h3, h4, h5, h6⟩ := h
  exact (write_ok h1 p s hin hk).mono fun e w' ⟨he, hn⟩ => ⟨he, _, MW.noted h1 h2 h3 h4 h5 h6 hn⟩
theorem w_touched (h : MW W w 61 B a b bs ss vw ks) (hk : ss.length ≤ 1000002) :
    Calls Try.prog 15 #[.pointer (some ⟨a, 0, none⟩)] w fun e w' => ∃ ad cap, e = .returned (.slice ad ss.length cap) ∧ w'.ownsRow w.heap.size 58 3 (.slice ad ss.length cap) ss.length (spcs ss) ∧
      w'.ownsRow W.heap.size 58 3 vw ks.length (spcs ks) ∧ Mine W w' 61 B a b bs ss := by
  obtain ⟨v, h1, h2, h3, h4, h5, h6⟩ := h
  exact (touched_any h1 hk).mono fun e w' ⟨ad, cap, he, ho, hf⟩ => ⟨ad, cap, he, ho, owned_fr h5 hf (fun _ _ h => h), Mine.fr ⟨v, h1, h2, h3, h4⟩ hf⟩
end
end Go.Proofs.Ytlikfcdlgkbnoaa
