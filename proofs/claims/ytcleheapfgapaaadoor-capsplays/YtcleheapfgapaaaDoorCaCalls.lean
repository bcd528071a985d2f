/-
  What the calls of package caps do, each for every state of a table and every argument: the contracts that the laws' walks ask.
-/
import Derived.Test.YtcleheapfgapaaaDoorCaRef2
import Derived.Test.YtcleheapfgapaaaDoorCaCount
namespace Go.Proofs.YtcleheapfgapaaaDoor
open Go.RowKit

/-- What lies in memory from the start (tables that the calls look into). -/
def Gr (w : World) : Prop := Sf.Tab w
theorem Gr.fr {w w' : World} (h : Gr w) (f : Fr (fun _ => False) w w') : Gr w' := Sf.Tab.carry h f id
theorem Gr.pos {w : World} (h : Gr w) : 0 < w.heap.size := Sf.Tab.pos h
/-- The program's table at block a; its blocks are those of Z. -/
structure Km (w : World) (a : Nat) (Z : Nat → Prop) (c : Ct) : Prop where
  any : ∃ o ob s sb, Kt w a o ob s sb c ∧ Z a ∧ Z o ∧ Z ob ∧ Z s ∧ Z sb
  zlt : ∀ i, Z i → i < w.heap.size
  ok : c.Ok
section
variable {w w' : World} {a : Nat} {Z : Nat → Prop} {c c' : Ct}
theorem Km.carry {S : Nat → Prop} (h : Km w a Z c) (f : Fr S w w') (hn : ∀ i, Z i → ¬ S i) (h0 : ¬ S 0) : Km w' a Z c := by
  obtain ⟨o, ob, s, sb, k, z1, z2, z3, z4, z5⟩ := h.any
  exact ⟨⟨o, ob, s, sb, k.carry f (hn _ z1) (hn _ z2) (hn _ z3) (hn _ z4) (hn _ z5) h0, z1, z2, z3, z4, z5⟩, fun i hi => by have := h.zlt i hi; have := f.size; omega, h.ok⟩
theorem Km.turned {S : Nat → Prop} (h : Km w a Z c) {o ob s sb : Nat} (hz : Z a ∧ Z o ∧ Z ob ∧ Z s ∧ Z sb) (k : Kt w' a o ob s sb c') (f : Fr S w w') : Km w' a Z c' := ⟨⟨o, ob, s, sb, k, hz⟩, fun i hi => by have := h.zlt i hi; have := f.size; omega, k.ok⟩
theorem q_new {t n : Int} (h : (0 ≤ t ∧ t ≤ 7) ∧ 1 ≤ n ∧ n ≤ 17592186044416) (w : World) (g : Gr w) : Calls Tryd.prog 9 #[.int .i64 t, .int .i64 n] w fun e w' => ∃ a Z, e = .returned (.tuple #[.pointer (some ⟨a, 0, none⟩), .int .i64 0]) ∧ (∀ i, Z i → w.heap.size ≤ i) ∧ Km w' a Z (newC t n) ∧ Fr (fun _ => False) w w' :=
  (k_new h w g).mono fun _ _ ⟨a, o, ob, s, sb, he, ⟨⟨z1, z2, z3⟩, z4, z5⟩, k, f⟩ => ⟨a, fun i => i = a ∨ i = o ∨ i = ob ∨ i = s ∨ i = sb, he, fun i hi => by omega, ⟨⟨o, ob, s, sb, k, .inl rfl, .inr (.inl rfl), .inr (.inr (.inl rfl)), .inr (.inr (.inr (.inl rfl))), .inr (.inr (.inr (.inr rfl)))⟩, fun i hi => by have := k.lta; have := k.sho.lta; have := k.sho.ltb; have := k.shs.lta; have := k.shs.ltb; omega, k.ok⟩, f⟩
theorem q_new_no {t n : Int} (h : ¬ ((0 ≤ t ∧ t ≤ 7) ∧ 1 ≤ n ∧ n ≤ 17592186044416)) (w : World) : Calls Tryd.prog 9 #[.int .i64 t, .int .i64 n] w fun e w' => e = .returned (.tuple #[.pointer none, .int .i64 12]) ∧ Fr (fun _ => False) w w' := k_new_no h w
theorem q_grant (h : Km w a Z c) (x : Int) : Calls Tryd.prog 13 #[.pointer (some ⟨a, 0, none⟩), .int .i64 x] w fun e w' => ∃ Z', e = .returned (.tuple #[.int .u64 (grV c x), .int .i64 (grE c x)]) ∧ Km w' a Z' (grS c x) ∧ (∀ i, Z' i → Z i ∨ w.heap.size ≤ i) ∧ Fr Z w w' := by
  obtain ⟨o, ob, s, sb, k, z1, z2, z3, z4, z5⟩ := h.any
  exact (k_grant k x).mono fun _ _ ⟨he, k', f⟩ => ⟨Z, he, h.turned ⟨z1, z2, z3, z4, z5⟩ k' f, fun i hi => .inl hi, f.mono fun i _ e => by rcases e with rfl | rfl <;> assumption⟩
theorem q_find (h : Km w a Z c) {b : Int} (b0 : 0 ≤ b) (b1 : b ≤ 18446744073709551615) {q : Int} (hq : -9223372036854775808 ≤ q ∧ q ≤ 9223372036854775807) : Calls Tryd.prog 15 #[.pointer (some ⟨a, 0, none⟩), .int .u64 b, .int .i64 q] w fun e w' => e = .returned (.tuple #[.int .i64 (fiV c b q), .int .i64 (fiE c b q)]) ∧ Fr (fun _ => False) w w' := by
  obtain ⟨o, ob, s, sb, k, _⟩ := h.any
  exact k_find k b0 b1 hq
theorem q_restrict (h : Km w a Z c) {b : Int} (b0 : 0 ≤ b) (b1 : b ≤ 18446744073709551615) (q : Int) : Calls Tryd.prog 17 #[.pointer (some ⟨a, 0, none⟩), .int .u64 b, .int .i64 q] w fun e w' => ∃ Z', e = .returned (.tuple #[.int .u64 (reV c b q), .int .i64 (reE c b q)]) ∧ Km w' a Z' (reS c b q) ∧ (∀ i, Z' i → Z i ∨ w.heap.size ≤ i) ∧ Fr Z w w' := by
  obtain ⟨o, ob, s, sb, k, z1, z2, z3, z4, z5⟩ := h.any
  exact (k_restrict k b0 b1 q).mono fun _ _ ⟨he, k', f⟩ => ⟨Z, he, h.turned ⟨z1, z2, z3, z4, z5⟩ k' f, fun i hi => .inl hi, f.mono fun i _ e => by rcases e with rfl | rfl <;> assumption⟩
theorem q_revoke (h : Km w a Z c) (x : Int) : Calls Tryd.prog 19 #[.pointer (some ⟨a, 0, none⟩), .int .i64 x] w fun e w' => ∃ Z', e = .returned (.int .i64 (rvN c x : Int)) ∧ Km w' a Z' (rvS c x) ∧ (∀ i, Z' i → Z i ∨ w.heap.size ≤ i) ∧ Fr Z w w' := by
  obtain ⟨o, ob, s, sb, k, z1, z2, z3, z4, z5⟩ := h.any
  exact (k_revoke k x).mono fun _ _ ⟨he, k', f⟩ => ⟨Z, he, h.turned ⟨z1, z2, z3, z4, z5⟩ k' f, fun i hi => .inl hi, f.mono fun i _ e => by rcases e with rfl | rfl | rfl <;> assumption⟩
theorem q_serial (h : Km w a Z c) : Calls Tryd.prog 22 #[.pointer (some ⟨a, 0, none⟩)] w fun e w' => e = .returned (.int .i64 c.nx) ∧ Fr (fun _ => False) w w' := by
  obtain ⟨o, ob, s, sb, k, _⟩ := h.any
  exact k_serial k
theorem q_count (h : Km w a Z c) : Calls Tryd.prog 23 #[.pointer (some ⟨a, 0, none⟩)] w fun e w' => e = .returned (.int .i64 (c.L.length : Int)) ∧ Fr (fun _ => False) w w' := by
  obtain ⟨o, ob, s, sb, k, _⟩ := h.any
  exact k_count k
theorem q_copy (h : Km w a Z c) : Calls Tryd.prog 21 #[.pointer (some ⟨a, 0, none⟩)] w fun e w' => ∃ a' Z', e = .returned (.pointer (some ⟨a', 0, none⟩)) ∧ (∀ i, Z' i → w.heap.size ≤ i) ∧ Km w' a' Z' c ∧ Fr (fun _ => False) w w' := by
  obtain ⟨o, ob, s, sb, k, _⟩ := h.any
  exact (k_copy k).mono fun _ _ ⟨a, o, ob, s, sb, he, ⟨⟨z1, z2, z3⟩, z4, z5⟩, k, f⟩ => ⟨a, fun i => i = a ∨ i = o ∨ i = ob ∨ i = s ∨ i = sb, he, fun i hi => by omega, ⟨⟨o, ob, s, sb, k, .inl rfl, .inr (.inl rfl), .inr (.inr (.inl rfl)), .inr (.inr (.inr (.inl rfl))), .inr (.inr (.inr (.inr rfl)))⟩, fun i hi => by have := k.lta; have := k.sho.lta; have := k.sho.ltb; have := k.shs.lta; have := k.shs.ltb; omega, k.ok⟩, f⟩
end
end Go.Proofs.YtcleheapfgapaaaDoor
