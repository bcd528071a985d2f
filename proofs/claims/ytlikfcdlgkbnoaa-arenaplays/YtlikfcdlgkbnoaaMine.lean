/-
  The same contracts for an arena that the call itself has made: what was there before stays as it was.
-/
import Derived.Test.YtlikfcdlgkbnoaaWords
import Derived.Test.YtlikfcdlgkbnoaaTouched
namespace Go.Proofs.Ytlikfcdlgkbnoaa
open Go.RowKit

/-- In w there is an arena that was made behind W; all that W had is as it was. -/
def Mine (W w : World) (T : TypeId) (B a b : Nat) (bs : List UInt8) (ss : List Sp) : Prop :=
  ∃ v, Ar w T B a b bs v ss ∧ W.heap.size ≤ a ∧ W.heap.size ≤ b ∧ Fr (fun _ => False) W w

theorem Mine.noted {W w w' : World} {T : TypeId} {B a b : Nat} {bs bs' : List UInt8} {v : Value} {ss ss' : List Sp} (h : Ar w T B a b bs v ss) (ha : W.heap.size ≤ a) (hb : W.heap.size ≤ b) (hf : Fr (fun _ => False) W w)
    (hn : Noted w w' T B a b bs' v ss') : Mine W w' T B a b bs' ss' := by
  obtain ⟨v', h', f', _⟩ := hn
  refine ⟨v', h', ha, hb, hf.trans' f' ?_⟩
  intro i hi hs
  rcases hs with hs | hs | hs
  · omega
  · omega
  · have h1 := (h.own i hs).1
    have h2 := h.la
    omega
theorem Mine.fr {W w w' : World} {T : TypeId} {B a b : Nat} {bs : List UInt8} {ss : List Sp} (h : Mine W w T B a b bs ss) (hf : Fr (fun _ => False) w w') : Mine W w' T B a b bs ss := by
  obtain ⟨v, h1, h2, h3, h4⟩ := h
  exact ⟨v, h1.carry hf (fun h => h) (fun h => h) (fun _ _ h => h), h2, h3, h4.trans hf⟩
theorem Mine.frame {W w : World} {T : TypeId} {B a b : Nat} {bs : List UInt8} {ss : List Sp} (h : Mine W w T B a b bs ss) : Fr (fun _ => False) W w := by
  obtain ⟨v, h1, h2, h3, h4⟩ := h
  exact h4
theorem Mine.le {W w : World} {T : TypeId} {B a b : Nat} {bs : List UInt8} {ss : List Sp} (h : Mine W w T B a b bs ss) : bs.length ≤ 2097152 := by
  obtain ⟨v, h1, h2, h3, h4⟩ := h
  exact h1.le

theorem m_new (n : Nat) (W w : World) (hW : Fr (fun _ => False) W w) (h : n ≤ 2097152) :
    Calls Try.prog 10 #[.int .i64 n] w fun e w' => ∃ a b B, e = .returned (.tuple #[.pointer (some ⟨a, 0, none⟩), .int .i64 0]) ∧ Mine W w' 61 B a b (List.replicate n 0) [] :=
  (new_ok n w h).mono fun e w' ⟨he, har, hf, _⟩ => ⟨_, _, _, he, _, har, by have := hW.size; omega, hW.size, hW.trans hf⟩

section
variable {W w : World} {B a b : Nat} {bs : List UInt8} {ss : List Sp}
theorem m_read (h : Mine W w 61 B a b bs ss) (p m : Nat) (hin : p + m ≤ bs.length) (hk : ss.length ≤ 1000000) :
    Calls Try.prog 16 #[.pointer (some ⟨a, 0, none⟩), .int .i64 p, .int .i64 m] w fun e w' => e = .returned (.tuple #[.string ⟨((bs.drop p).take m).toArray⟩, .int .i64 0]) ∧ Mine W w' 61 B a b bs (noted ss p m false) := by
  obtain ⟨v, h1, h2, h3, h4⟩ := h
  exact (read_ok h1 p m hin hk).mono fun e w' ⟨he, hn⟩ => ⟨he, Mine.noted h1 h2 h3 h4 hn⟩
theorem m_write (h : Mine W w 61 B a b bs ss) (p : Nat) (s : ByteArray) (hin : p + s.size ≤ bs.length) (hk : ss.length ≤ 1000000) :
    Calls Try.prog 19 #[.pointer (some ⟨a, 0, none⟩), .int .i64 p, .string s] w fun e w' => e = .returned (.int .i64 0) ∧ Mine W w' 61 B a b (over bs p s.data.toList) (noted ss p s.size true) := by
  obtain ⟨v, h1, h2, h3, h4⟩ := h
  exact (write_ok h1 p s hin hk).mono fun e w' ⟨he, hn⟩ => ⟨he, Mine.noted h1 h2 h3 h4 hn⟩
theorem m_zero (h : Mine W w 61 B a b bs ss) (p m : Nat) (hin : p + m ≤ bs.length) (hk : ss.length ≤ 1000000) :
    Calls Try.prog 22 #[.pointer (some ⟨a, 0, none⟩), .int .i64 p, .int .i64 m] w fun e w' => e = .returned (.int .i64 0) ∧ Mine W w' 61 B a b (over bs p (List.replicate m 0)) (noted ss p m true) := by
  obtain ⟨v, h1, h2, h3, h4⟩ := h
  exact (zero_ok h1 p m hin hk).mono fun e w' ⟨he, hn⟩ => ⟨he, Mine.noted h1 h2 h3 h4 hn⟩
theorem m_copy (h : Mine W w 61 B a b bs ss) (p q m : Nat) (hin : p + m ≤ bs.length) (hin2 : q + m ≤ bs.length) (hk : ss.length < 1000000) :
    Calls Try.prog 20 #[.pointer (some ⟨a, 0, none⟩), .int .i64 p, .int .i64 q, .int .i64 m] w fun e w' => e = .returned (.int .i64 0) ∧
      Mine W w' 61 B a b (over bs p ((bs.drop q).take m)) (noted (noted ss q m false) p m true) := by
  obtain ⟨v, h1, h2, h3, h4⟩ := h
  exact (copy_ok h1 p q m hin hin2 hk).mono fun e w' ⟨he, hn⟩ => ⟨he, Mine.noted h1 h2 h3 h4 hn⟩
theorem m_load (h : Mine W w 61 B a b bs ss) (p : Nat) (hin : p + 8 ≤ bs.length) (hk : ss.length ≤ 1000000) :
    Calls Try.prog 18 #[.pointer (some ⟨a, 0, none⟩), .int .i64 p] w fun e w' => e = .returned (.tuple #[.int .u64 (word ((bs.drop p).take 8)), .int .i64 0]) ∧
      Mine W w' 61 B a b bs (ss ++ [((p : Int), (8 : Int), false)]) := by
  obtain ⟨v, h1, h2, h3, h4⟩ := h
  exact (load_ok h1 p hin hk).mono fun e w' ⟨he, hn⟩ => ⟨he, Mine.noted h1 h2 h3 h4 hn⟩
theorem m_store (h : Mine W w 61 B a b bs ss) (p u : Nat) (hu : u < 18446744073709551616) (hin : p + 8 ≤ bs.length) (hk : ss.length ≤ 1000000) :
    Calls Try.prog 17 #[.pointer (some ⟨a, 0, none⟩), .int .i64 p, .int .u64 u] w fun e w' => e = .returned (.int .i64 0) ∧
      Mine W w' 61 B a b (over bs p (leb u 8)) (ss ++ [((p : Int), (8 : Int), true)]) := by
  obtain ⟨v, h1, h2, h3, h4⟩ := h
  exact (store_ok h1 p u hu hin hk).mono fun e w' ⟨he, hn⟩ => ⟨he, Mine.noted h1 h2 h3 h4 hn⟩
theorem m_forget (h : Mine W w 61 B a b bs ss) :
    Calls Try.prog 21 #[.pointer (some ⟨a, 0, none⟩)] w fun e w' => e = .returned (.tuple #[]) ∧ Mine W w' 61 B a b bs [] := by
  obtain ⟨v, h1, h2, h3, h4⟩ := h
  exact (forget_any h1).mono fun e w' ⟨he, hn⟩ => ⟨he, Mine.noted h1 h2 h3 h4 hn⟩
theorem m_size (h : Mine W w 61 B a b bs ss) :
    Calls Try.prog 23 #[.pointer (some ⟨a, 0, none⟩)] w fun e w' => e = .returned (.int .i64 bs.length) ∧ w' = w := by
  obtain ⟨v, h1, h2, h3, h4⟩ := h
  exact size_any h1
theorem m_touched (h : Mine W w 61 B a b bs ss) (hk : ss.length ≤ 1000002) :
    Calls Try.prog 15 #[.pointer (some ⟨a, 0, none⟩)] w fun e w' => ∃ ad cap, e = .returned (.slice ad ss.length cap) ∧ w'.ownsRow w.heap.size 58 3 (.slice ad ss.length cap) ss.length (spcs ss) ∧
      Mine W w' 61 B a b bs ss := by
  obtain ⟨v, h1, h2, h3, h4⟩ := h
  exact (touched_any h1 hk).mono fun e w' ⟨ad, cap, he, ho, hf⟩ => ⟨ad, cap, he, ho, Mine.fr ⟨v, h1, h2, h3, h4⟩ hf⟩
theorem m_load_no (h : Mine W w 61 B a b bs ss) (x : Int) (hx : x ≤ 9223372036854775807) (hin : inB x 8 bs.length = false) :
    Calls Try.prog 18 #[.pointer (some ⟨a, 0, none⟩), .int .i64 x] w fun e w' => e = .returned (.tuple #[.int .u64 0, .int .i64 4]) ∧ w' = w := by
  obtain ⟨v, h1, h2, h3, h4⟩ := h
  exact load_no h1 x hx hin
theorem m_store_no (h : Mine W w 61 B a b bs ss) (x u : Int) (hx : x ≤ 9223372036854775807) (hin : inB x 8 bs.length = false) :
    Calls Try.prog 17 #[.pointer (some ⟨a, 0, none⟩), .int .i64 x, .int .u64 u] w fun e w' => e = .returned (.int .i64 4) ∧ w' = w := by
  obtain ⟨v, h1, h2, h3, h4⟩ := h
  exact store_no h1 x u hx hin
theorem m_read_no (h : Mine W w 61 B a b bs ss) (x n : Int) (hx : x ≤ 9223372036854775807) (hin : inB x n bs.length = false) :
    Calls Try.prog 16 #[.pointer (some ⟨a, 0, none⟩), .int .i64 x, .int .i64 n] w fun e w' => e = .returned (.tuple #[.string ⟨#[]⟩, .int .i64 4]) ∧ w' = w := by
  obtain ⟨v, h1, h2, h3, h4⟩ := h
  exact read_no h1 x n hx hin
theorem m_write_no (h : Mine W w 61 B a b bs ss) (x : Int) (s : ByteArray) (hx : x ≤ 9223372036854775807) (hin : inB x s.size bs.length = false) :
    Calls Try.prog 19 #[.pointer (some ⟨a, 0, none⟩), .int .i64 x, .string s] w fun e w' => e = .returned (.int .i64 4) ∧ w' = w := by
  obtain ⟨v, h1, h2, h3, h4⟩ := h
  exact write_no h1 x s hx hin
theorem m_zero_no (h : Mine W w 61 B a b bs ss) (x n : Int) (hx : x ≤ 9223372036854775807) (hin : inB x n bs.length = false) :
    Calls Try.prog 22 #[.pointer (some ⟨a, 0, none⟩), .int .i64 x, .int .i64 n] w fun e w' => e = .returned (.int .i64 4) ∧ w' = w := by
  obtain ⟨v, h1, h2, h3, h4⟩ := h
  exact zero_no h1 x n hx hin
theorem m_copy_no (h : Mine W w 61 B a b bs ss) (x y n : Int) (hx : x ≤ 9223372036854775807) (hy : y ≤ 9223372036854775807) (hin : (inB x n bs.length && inB y n bs.length) = false) :
    Calls Try.prog 20 #[.pointer (some ⟨a, 0, none⟩), .int .i64 x, .int .i64 y, .int .i64 n] w fun e w' => e = .returned (.int .i64 4) ∧ w' = w := by
  obtain ⟨v, h1, h2, h3, h4⟩ := h
  by_cases h0 : inB x n bs.length = true
  · exact copy_no2 h1 x y n hx hy h0 (by rw [h0] at hin; simpa using hin)
  · exact copy_no1 h1 x y n hx (by simpa using h0)
end
end Go.Proofs.Ytlikfcdlgkbnoaa
