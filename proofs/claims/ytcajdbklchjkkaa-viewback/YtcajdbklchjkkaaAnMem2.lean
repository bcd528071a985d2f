/-
  An arena as one thing in memory, more: bytes cleared, written, copied.
-/
import Derived.Test.YtcajdbklchjkkaaAnMem
namespace Go.Proofs.Ytcajdbklchjkkaa
open Go.RowKit
open An

section
variable {w : World} {a : Nat} {Z : Nat → Prop} {bs : List UInt8} {ss : List Sp}
theorem am_zero (h : Am 77 a bs ss w Z) (p m : Nat) (hin : p + m ≤ bs.length) (hk : ss.length ≤ 1000000) : Calls Try.prog 47 #[.pointer (some ⟨a, 0, none⟩), .int .i64 p, .int .i64 m] w fun e w' => e = .returned (.int .i64 0) ∧ ∃ Z', Am 77 a (over bs p (List.replicate m 0)) (noted ss p m true) w' Z' ∧ Gw w w' Z Z' := by
  obtain ⟨B, b, v, h, h1, h2⟩ := h
  exact (zero_ok h p m hin hk).mono fun e w' ⟨he, hn⟩ => ⟨he, Am.noted h1 h2 hn⟩
theorem am_write (h : Am 77 a bs ss w Z) (p : Nat) (s : ByteArray) (hin : p + s.size ≤ bs.length) (hk : ss.length ≤ 1000000) : Calls Try.prog 18 #[.pointer (some ⟨a, 0, none⟩), .int .i64 p, .string s] w fun e w' => e = .returned (.int .i64 0) ∧ ∃ Z', Am 77 a (over bs p s.data.toList) (noted ss p s.size true) w' Z' ∧ Gw w w' Z Z' := by
  obtain ⟨B, b, v, h, h1, h2⟩ := h
  exact (write_ok h p s hin hk).mono fun e w' ⟨he, hn⟩ => ⟨he, Am.noted h1 h2 hn⟩
theorem rm_zero (h : Am 51 a bs ss w Z) (p m : Nat) (hin : p + m ≤ bs.length) (hk : ss.length ≤ 1000000) : Calls Try.prog 52 #[.pointer (some ⟨a, 0, none⟩), .int .i64 p, .int .i64 m] w fun e w' => e = .returned (.int .i64 0) ∧ ∃ Z', Am 51 a (over bs p (List.replicate m 0)) (noted ss p m true) w' Z' ∧ Gw w w' Z Z' := by
  obtain ⟨B, b, v, h, h1, h2⟩ := h
  exact (rzero_ok h p m hin hk).mono fun e w' ⟨he, hn⟩ => ⟨he, Am.noted h1 h2 hn⟩
end
end Go.Proofs.Ytcajdbklchjkkaa
