/-
  A quota that is none has nothing: the walk of the law QuotaNil.
-/
import Derived.Test.YtnlaocokjilncaaQuState
namespace Go.Proofs.Ytnlaocokjilncaa
open Go.RowKit

/-- In block B lie three numbers. -/
structure Bx (w : World) (B : Nat) (k a b : Int) : Prop where
  heap : w.heap[B]? = some (.cells #[.int .i64 k, .int .i64 a, .int .i64 b] 38 (0, 0))
section
variable {w w' : World} {B : Nat} {k a b : Int}
theorem Bx.new (w : World) (k a b : Int) : Bx (w.alloc (.cells #[.int .i64 k, .int .i64 a, .int .i64 b] 38)) w.heap.size k a b := ⟨heap_alloc_new w _⟩
theorem Bx.lt (h : Bx w B k a b) : B < w.heap.size := (Array.getElem?_eq_some_iff.1 h.heap).1
theorem Bx.carry {S : Nat → Prop} (h : Bx w B k a b) (f : Fr S w w') (hn : ¬ S B) : Bx w' B k a b := ⟨by rw [f.block B h.lt hn]; exact h.heap⟩
theorem Bx.kept (h : Bx w B k a b) (f : Fr (fun _ => False) w w') : Bx w' B k a b := h.carry f id
theorem Bx.alloc (h : Bx w B k a b) (o : Obj) : Bx (w.alloc o) B k a b := h.kept ((Fr.refl _ _).alloc o)
theorem Bx.c0 (h : Bx w B k a b) : w.cell? ⟨B, 0, none⟩ = some (.int .i64 k) := by simp [World.cell?, h.heap]
theorem Bx.c1 (h : Bx w B k a b) : w.cell? ⟨B, 1, none⟩ = some (.int .i64 a) := by simp [World.cell?, h.heap]
theorem Bx.c2 (h : Bx w B k a b) : w.cell? ⟨B, 2, none⟩ = some (.int .i64 b) := by simp [World.cell?, h.heap]
end
theorem o_any (a b : Int) (w : World) : Calls Try.prog 8 #[.int .i64 a, .int .i64 b] w fun e w' => ∃ (x y : Nat) (p q : Int) (ok : Bool), e = .returned (.tuple #[.complex .f64 x y, .agg #[.int .i64 p, .int .i64 q], .bool ok]) ∧ Fr (fun _ => False) w w' := by
  by_cases r : Rt a b
  · exact (o_yes r w).mono fun _ _ ⟨he, f⟩ => ⟨_, _, _, _, _, he, f⟩
  · exact (o_no r w).mono fun _ _ ⟨he, f⟩ => ⟨_, _, _, _, _, he, f⟩
set_option maxRecDepth 20000 in
set_option maxHeartbeats 1000000 in
theorem nil_walk (k a b : Int) (w : World) : Calls Try.prog 6 #[.agg #[.int .i64 k, .int .i64 a, .int .i64 b]] w fun e w' => e = .returned (.bool true) ∧ Fr (fun _ => False) w w' := by
  have HO := hid fun w => o_any a b w
  have HA := hid fun w0 (h : Nw w w0) => awake_any h
  have H1 := hid fun x y w => q_res_nil x y w
  have H2 := hid fun x y w => q_com_nil x y w
  have H3 := hid fun x y w => q_can_nil x y w
  have H4 := hid fun x y w => q_ref_nil x y w
  have H5 := hid fun x y w => q_rsz_nil x y w
  have H6 := hid fun w => q_lim_nil w
  have H7 := hid fun w => q_cha_nil w
  have H8 := hid fun w => q_rsv_nil w
  have H9 := hid fun w => q_copy_nil w
  have o0 := order_zero
  have X := Bx.new w k a b
  have c1 := X.c1
  have c2 := X.c2
  clear X
  have HN0 := hid (Nw.alloc (Nw.start w) (.cells #[.int .i64 k, .int .i64 a, .int .i64 b] 38))
  go_enter Try.func6, Try.ntmps6
  go_wp2_with fail
  refine (HO.out _).mono ?_
  rintro e w1 ⟨x, y, p, q, ok, rfl, hf⟩
  have HN1 := hid ((HN0.out.kept hf).alloc (.cells #[.int .i64 p, .int .i64 q] 26))
  clear hf HN0 c1 c2
  go_wp2_with fail
  refine (HA.out _ HN1.out).mono ?_
  rintro e w2 ⟨rfl, hn⟩
  have HN2 := hid hn
  clear hn HN1
  go_wp2_with fail
  refine (H1.out _ _ _).mono ?_
  rintro e w3 ⟨rfl, hf⟩
  have HN3 := hid (HN2.out.kept hf)
  clear hf HN2
  go_wp2_with fail
  refine (H2.out _ _ _).mono ?_
  rintro e w4 ⟨rfl, hf⟩
  have HN4 := hid (HN3.out.kept hf)
  clear hf HN3
  go_wp2_with fail
  refine (H3.out _ _ _).mono ?_
  rintro e w5 ⟨rfl, hf⟩
  have HN5 := hid (HN4.out.kept hf)
  clear hf HN4
  go_wp2_with fail
  refine (H4.out _ _ _).mono ?_
  rintro e w6 ⟨rfl, hf⟩
  have HN6 := hid (HN5.out.kept hf)
  clear hf HN5
  go_wp2_with fail
  refine (H5.out _ _ _).mono ?_
  rintro e w7 ⟨rfl, hf⟩
  have HN7 := hid (HN6.out.kept hf)
  clear hf HN6
  go_wp2_with fail
  refine (H6.out _).mono ?_
  rintro e w8 ⟨rfl, hf⟩
  have HN8 := hid (HN7.out.kept (frOf hf))
  clear hf HN7
  go_wp2_with fail
  refine (H7.out _).mono ?_
  rintro e w9 ⟨rfl, hf⟩
  have HN9 := hid (HN8.out.kept (frOf hf))
  clear hf HN8
  go_wp2_with fail
  refine (H8.out _).mono ?_
  rintro e w10 ⟨rfl, hf⟩
  have HN10 := hid (HN9.out.kept (frOf hf))
  clear hf HN9
  go_wp2_with fail
  refine (H9.out _).mono ?_
  rintro e w11 ⟨rfl, hf⟩
  have HN11 := hid (HN10.out.kept hf)
  clear hf HN10
  go_wp2
  go_ret
  exact ⟨by simp, HN11.out.fr⟩
end Go.Proofs.Ytnlaocokjilncaa
