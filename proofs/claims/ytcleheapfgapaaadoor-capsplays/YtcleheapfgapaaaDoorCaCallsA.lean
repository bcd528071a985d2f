/-
  What the small calls of package caps do: of, has, key.
-/
import Derived.Test.YtcleheapfgapaaaDoorCaCells
import Derived.Test.YtcleheapfgapaaaDoorCaMem
namespace Go.Proofs.YtcleheapfgapaaaDoor
open Go.RowKit

/-- A slot's three cells in a block of their own. -/
structure Hb (w : World) (B : Nat) (t : TypeId) (x r n : Int) : Prop where
  heap : w.heap[B]? = some (.cells #[.int .i64 x, .int .i64 r, .int .i64 n] t (0, 0))
section
variable {w w' : World} {B : Nat} {t : TypeId} {x r n : Int}
theorem Hb.new (w : World) (t : TypeId) (x r n : Int) : Hb (w.alloc (.cells #[.int .i64 x, .int .i64 r, .int .i64 n] t)) w.heap.size t x r n := ⟨heap_alloc_new w _⟩
theorem Hb.lt (h : Hb w B t x r n) : B < w.heap.size := (Array.getElem?_eq_some_iff.1 h.heap).1
theorem Hb.carry {S : Nat → Prop} (h : Hb w B t x r n) (f : Fr S w w') (hn : ¬ S B) : Hb w' B t x r n := ⟨by rw [f.block B h.lt hn]; exact h.heap⟩
theorem Hb.g (h : Hb w B t x r n) (k : Nat) : w.frozen? ⟨B, k, none⟩ = false := by simp [World.frozen?, h.heap]
theorem Hb.put (h : Hb w B t x r n) (x' r' n' : Int) : Hb (((w.setCell ⟨B, 0, none⟩ (.int .i64 x')).setCell ⟨B, 1, none⟩ (.int .i64 r')).setCell ⟨B, 2, none⟩ (.int .i64 n')) B t x' r' n' := ⟨by simp [World.setCell, Array.getElem?_modify, h.heap]⟩
theorem Hb.c0 (h : Hb w B t x r n) : w.cell? ⟨B, 0, none⟩ = some (.int .i64 x) := by simp [World.cell?, h.heap]
theorem Hb.c1 (h : Hb w B t x r n) : w.cell? ⟨B, 1, none⟩ = some (.int .i64 r) := by simp [World.cell?, h.heap]
theorem Hb.c2 (h : Hb w B t x r n) : w.cell? ⟨B, 2, none⟩ = some (.int .i64 n) := by simp [World.cell?, h.heap]
end
set_option maxRecDepth 20000 in
theorem k_of (x r n q : Int) (w : World) : Calls Tryd.prog 43 #[.agg #[.int .i64 x, .int .i64 r, .int .i64 n], .int .i64 q] w fun e w' => e = .returned (.bool (decide (0 < n ∧ x = q))) ∧ Fr (fun _ => False) w w' := by
  have HA := hid (Hb.new w 63 x r n)
  have c0 := HA.out.c0
  have c2 := HA.out.c2
  clear HA
  by_cases k0 : 0 < n
  case neg =>
    have he : Hid (decide (0 < n ∧ x = q) = false) := decide_eq_false fun h => k0 h.1
    generalize decide (0 < n ∧ x = q) = v at *
    go_enter Tryd.func43, Tryd.ntmps43
    go_wp2
    go_ret
    exact ⟨by rw [he.out]; simp, (Fr.refl _ _).alloc _⟩
  have he : Hid (decide (0 < n ∧ x = q) = (x == q)) := hid (by by_cases h : x = q <;> simp [h, k0])
  generalize decide (0 < n ∧ x = q) = v at *
  go_enter Tryd.func43, Tryd.ntmps43
  go_wp2
  go_ret
  exact ⟨by rw [he.out]; simp, (Fr.refl _ _).alloc _⟩
set_option maxRecDepth 20000 in
theorem k_has (x r n q : Int) (w : World) : Calls Tryd.prog 29 #[.agg #[.int .i64 x, .int .i64 r, .int .i64 n], .int .i64 q] w fun e w' => e = .returned (.bool (Go.bits .andNot .i64 q r == 0)) ∧ Fr (fun _ => False) w w' := by
  have HA := hid (Hb.new w 63 x r n)
  have c1 := HA.out.c1
  clear HA
  go_enter Tryd.func29, Tryd.ntmps29
  go_wp2
  go_ret
  exact ⟨by simp, (Fr.refl _ _).alloc _⟩
set_option maxRecDepth 20000 in
theorem k_key {w : World} {a o ob s sb : Nat} {c : Ct} (h : Kt w a o ob s sb c) (k : Nat) (hk : k < 4160) : Calls Tryd.prog 40 #[.pointer (some ⟨a, 0, none⟩), .int .i64 k] w fun e w' => e = .returned (.agg #[.int .i64 c.T, .int .i64 k, .int .i64 (hR c.L k), .int .i64 (hN c.L k)]) ∧ Fr (fun _ => False) w w' := by
  have h1 := h.kept ((Fr.refl _ _).alloc (.cells #[.int .i64 0, .int .i64 0, .int .i64 0, .int .i64 0] 53))
  have ca := h1.ca k hk
  have cr := h1.cr k hk
  have cn := h1.cn k hk
  have hk0 := Kb.new w 0 0 0 0
  have f1 : Fr (fun k => w.heap.size ≤ k) w (w.alloc (.cells #[.int .i64 0, .int .i64 0, .int .i64 0, .int .i64 0] 53)) := (Fr.refl _ _).alloc _
  generalize hw1 : w.alloc (.cells #[.int .i64 0, .int .i64 0, .int .i64 0, .int .i64 0] 53) = w1 at *
  have H1 := hid (And.intro h1 (And.intro hk0 f1))
  clear h1 hk0 f1
  go_enter Tryd.func40, Tryd.ntmps40
  go_wp2
  clear ca cr cn hw1 h
  have h2 := H1.out.1.kept ((Fr.refl _ _).alloc (.cells #[.int .i64 (hA c.L k), .int .i64 (hR c.L k), .int .i64 (hN c.L k)] 65))
  have hh := Hb.new w1 65 (hA c.L k) (hR c.L k) (hN c.L k)
  have hk2 := H1.out.2.1.alloc (.cells #[.int .i64 (hA c.L k), .int .i64 (hR c.L k), .int .i64 (hN c.L k)] 65)
  have f2 := H1.out.2.2.alloc (.cells #[.int .i64 (hA c.L k), .int .i64 (hR c.L k), .int .i64 (hN c.L k)] 65)
  generalize w1.alloc (.cells #[.int .i64 (hA c.L k), .int .i64 (hR c.L k), .int .i64 (hN c.L k)] 65) = w2 at *
  generalize w1.heap.size = B at *
  have c0 := h2.c0
  have c1 := hh.c1
  have c2 := hh.c2
  have z0 := hk2.c0
  have z1 := hk2.c1
  have z2 := hk2.c2
  have z3 := hk2.c3
  have g : ∀ k, w2.frozen? ⟨w.heap.size, k, none⟩ = false := fun k => hk2.g k
  have H2 := hid (And.intro hk2 f2)
  clear h2 hh hk2 f2 H1
  go_region
  go_wp2
  have P := H2.out.1.put c.T k (hR c.L k) (hN c.L k)
  have k0 := P.c0
  have k1 := P.c1
  have k2 := P.c2
  have k3 := P.c3
  exact bodyPost_ret (v := .agg #[.int .i64 c.T, .int .i64 k, .int .i64 (hR c.L k), .int .i64 (hN c.L k)]) (by simp [results, Tryd.results40, go_sem, k0, k1, k2, k3]) rfl ⟨rfl, ((((Fr.setCell H2.out.2 (p := ⟨w.heap.size, 0, none⟩) (Nat.le_refl _) _).setCell (p := ⟨w.heap.size, 1, none⟩) (Nat.le_refl _) _).setCell (p := ⟨w.heap.size, 2, none⟩) (Nat.le_refl _) _).setCell (p := ⟨w.heap.size, 3, none⟩) (Nat.le_refl _) _).drew.new⟩
end Go.Proofs.YtcleheapfgapaaaDoor
