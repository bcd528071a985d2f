/-
  What the laws on chains ask besides: sizes as they are reckoned, and the awake ones.
-/
import Derived.Test.YtjgkcaibapffhaaChAwake
import Derived.Test.YtjgkcaibapffhaaChOpen
namespace Go.Proofs.Ytjgkcaibapffhaa
open Go.RowKit
open An

theorem modU (x : Int) (n : Nat) (hn : 0 < n) : ∃ m : Nat, m < n ∧ Int.tmod (IntKind.u64.wrap x) n = m ∧ IntKind.u64.wrap x % n = m := by
  have h : 0 ≤ IntKind.u64.wrap x := by rw [IntKind.wrap_u64]; omega
  have h1 := Int.emod_nonneg (IntKind.u64.wrap x) (b := (n : Int)) (by omega)
  have h2 := Int.emod_lt_of_pos (IntKind.u64.wrap x) (b := (n : Int)) (by omega)
  refine ⟨(IntKind.u64.wrap x % n).toNat, by omega, ?_, by omega⟩
  rw [Int.tmod_eq_emod_of_nonneg h]
  omega
/-- How many bytes a block has, how many blocks there are, and the arena, as the laws reckon them. -/
structure Sizes (u p : Int) (U Pn N : Nat) (plus : Nat) : Prop where
  u0 : 8 ≤ U
  u1 : U ≤ 512
  p0 : 1 ≤ Pn
  p1 : Pn ≤ 64
  n : N = U * Pn + plus
  n1 : N ≤ 40000
theorem sizes (u p : Int) (plus : Nat) (q : Int) (hq : q = plus) (hp : plus ≤ 64) : ∃ mu mp U Pn M N : Nat, Sizes u p U Pn N plus ∧ (mu < 505 ∧ mp < 64) ∧ (Int.tmod (IntKind.u64.wrap u) 505 = mu ∧ IntKind.u64.wrap u % 505 = mu) ∧ (Int.tmod (IntKind.u64.wrap p) 64 = mp ∧ IntKind.u64.wrap p % 64 = mp) ∧ (IntKind.i64.wrap mu = mu ∧ IntKind.i64.wrap mp = mp) ∧ (IntKind.i64.wrap (8 + mu) = U ∧ IntKind.i64.wrap (1 + mp) = Pn) ∧ IntKind.i64.wrap ((U : Int) * (Pn : Int)) = M ∧ IntKind.i64.wrap ((M : Int) + q) = N ∧ M = U * Pn := by
  obtain ⟨mu, h1, h2, h3⟩ := modU u 505 (by omega)
  obtain ⟨mp, k1, k2, k3⟩ := modU p 64 (by omega)
  have hm : (8 + mu) * (1 + mp) ≤ 512 * 64 := Nat.mul_le_mul (by omega) (by omega)
  refine ⟨mu, mp, 8 + mu, 1 + mp, (8 + mu) * (1 + mp), (8 + mu) * (1 + mp) + plus, ⟨by omega, by omega, by omega, by omega, rfl, by omega⟩, ⟨h1, k1⟩, ⟨h2, h3⟩, ⟨k2, k3⟩, ⟨wrapI _ (by omega) (by omega), wrapI _ (by omega) (by omega)⟩, ⟨by rw [wrapI _ (by omega) (by omega)]; omega, by rw [wrapI _ (by omega) (by omega)]; omega⟩, ?_, ?_, rfl⟩
  · rw [← Int.natCast_mul]; exact wrapI _ (by omega) (by omega)
  · rw [wrapI _ (by omega) (by omega)]; omega
theorem Sizes.ok {u p : Int} {U Pn N plus : Nat} (h : Sizes u p U Pn N plus) {x : Nat} (hx : x ≤ plus) : NewOk (List.replicate N (0 : UInt8)).length x U Pn := by
  have h0 := h.u0; have h1 := h.u1; have h2 := h.p0; have h3 := h.p1; have h4 := h.n
  refine ⟨⟨by omega, by omega⟩, ⟨by omega, by omega⟩, by omega, ?_⟩
  rw [List.length_replicate, h4, ← Int.natCast_mul]
  omega
theorem awake_t {W w : World} {ts : List (World → (Nat → Prop) → Prop)} (h : Things W w ts) : Calls Try.prog 9 #[] w fun e w' => e = .returned (.bool true) ∧ Things W w' ts :=
  (awake_any (Nw.start w)).mono fun _ _ ⟨he, f⟩ => ⟨he, h.kept f.fr⟩
end Go.Proofs.Ytjgkcaibapffhaa
