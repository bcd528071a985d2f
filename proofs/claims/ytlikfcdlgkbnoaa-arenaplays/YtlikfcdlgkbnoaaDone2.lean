/-
  The law's 'done', the rest of its ways, and all of them together.
-/
import Derived.Test.YtlikfcdlgkbnoaaDone
import Derived.Test.YtlikfcdlgkbnoaaGreat
namespace Go.Proofs.Ytlikfcdlgkbnoaa
open Go.RowKit

/-- 'w.T = nil' of the document's arena. -/
theorem Noted.cleared {w : World} {T : TypeId} {B a b : Nat} {bs : List UInt8} {v : Value} {ss : List Sp} (h : Ar w T B a b bs v ss) : Noted w (w.setCell ⟨a, 1, none⟩ (.slice none 0 0)) T B a b bs v [] := by
  refine ⟨_, ⟨heap_setCell_two h.st, ?_, World.ownsRow_nil _ _ _ _, h.la, h.lb, h.ab, h.le, ?_, fun _ => rfl⟩, (Fr.refl _ _).setCell (.inl rfl) _, fun y hy => by cases hy⟩
  · rw [Below.heap_setCell _ _ _ _ (fun e => h.ab e.symm)]; exact h.by'
  · simpa [World.setCell] using h.lB

section
variable {W w : World} {B1 a1 b1 B2 a2 b2 : Nat} {bs1 bs2 : List UInt8} {ss1 ss2 : List Sp} {bx : Nat} {ob : Obj}
theorem t_forget (h : Two W w B1 a1 b1 bs1 ss1 B2 a2 b2 bs2 ss2 bx ob) :
    Calls Try.prog 21 #[.pointer (some ⟨a1, 0, none⟩)] w fun e w' => e = .returned (.tuple #[]) ∧ Two W w' B1 a1 b1 bs1 [] B2 a2 b2 bs2 ss2 bx ob := by
  obtain ⟨v1, v2, g1, g2, hs, hw, hf, k0, k1⟩ := h
  exact (forget_any g1).mono fun e w' ⟨he, hn⟩ => ⟨he, Two.one g1 g2 hs hw hf k0 k1 hn⟩
theorem Two.ref (h : Two W w B1 a1 b1 bs1 ss1 B2 a2 b2 bs2 ss2 bx ob) : w.cell? ⟨a2, 0, none⟩ = some (.slice (some ⟨b2, 0, none⟩) bs2.length bs2.length) ∧ (∃ v, w.cell? ⟨a2, 1, none⟩ = some v) ∧ w.frozen? ⟨a2, 1, none⟩ = false ∧
    Two W (w.setCell ⟨a2, 1, none⟩ (.slice none 0 0)) B1 a1 b1 bs1 ss1 B2 a2 b2 bs2 [] bx ob := by
  obtain ⟨v1, v2, g1, g2, hs, hw, hf, k0, k1⟩ := h
  exact ⟨g2.c0, ⟨v2, g2.c1⟩, g2.f1, Two.other g1 g2 hs hw hf k0 k1 (Noted.cleared g2)⟩
theorem t_size (h : Two W w B1 a1 b1 bs1 ss1 B2 a2 b2 bs2 ss2 bx ob) :
    Calls Try.prog 23 #[.pointer (some ⟨a1, 0, none⟩)] w fun e w' => e = .returned (.int .i64 bs1.length) ∧ w' = w := by
  obtain ⟨v1, v2, g1, g2, hs, hw, hf, k0, k1⟩ := h
  exact size_any g1
end

set_option maxRecDepth 20000 in
set_option maxHeartbeats 1000000 in
theorem done_size {W w : World} {B1 a1 b1 B2 a2 b2 : Nat} {bs : List UInt8} {ss : List Sp} (h : Pair W w B1 a1 b1 bs ss B2 a2 b2 bs ss) (k x y n u : Int) (d : ByteArray) (hk : ∀ i : Int, 1 ≤ i → i ≤ 7 → k ≠ i) :
    Calls Try.prog 13 #[.pointer (some ⟨a1, 0, none⟩), .pointer (some ⟨a2, 0, none⟩), .agg #[.int .i64 k, .int .i64 x, .int .i64 y, .int .i64 n, .int .u64 u, .string d]] w fun e w' => e = .returned (.bool true) ∧ Alike2 W w' B1 a1 b1 B2 a2 b2 bs.length (ss.length + 2) := by
  have k1 : (k == 1) = false := by simpa using hk 1 (by omega) (by omega)
  have k2 : (k == 2) = false := by simpa using hk 2 (by omega) (by omega)
  have k3 : (k == 3) = false := by simpa using hk 3 (by omega) (by omega)
  have k4 : (k == 4) = false := by simpa using hk 4 (by omega) (by omega)
  have k5 : (k == 5) = false := by simpa using hk 5 (by omega) (by omega)
  have k6 : (k == 6) = false := by simpa using hk 6 (by omega) (by omega)
  have k7 : (k == 7) = false := by simpa using hk 7 (by omega) (by omega)
  have h2 := h.box (.cells #[.int .i64 k, .int .i64 x, .int .i64 y, .int .i64 n, .int .u64 u, .string d] 34)
  obtain ⟨p0, _, _, _, _, _⟩ := box_cells h2.cell
  obtain ⟨c0, _, _, _⟩ := h2.ref
  have HB : Hid (Two W (w.alloc (.cells #[.int .i64 k, .int .i64 x, .int .i64 y, .int .i64 n, .int .u64 u, .string d] 34)).drew B1 a1 b1 bs ss B2 a2 b2 bs ss w.heap.size (.cells #[.int .i64 k, .int .i64 x, .int .i64 y, .int .i64 n, .int .u64 u, .string d] 34 (0, 0))) := h2.drew
  have HS : Hid (∀ w2, Two W w2 B1 a1 b1 bs ss B2 a2 b2 bs ss w.heap.size (.cells #[.int .i64 k, .int .i64 x, .int .i64 y, .int .i64 n, .int .u64 u, .string d] 34 (0, 0)) → Calls Try.prog 23 #[.pointer (some ⟨a1, 0, none⟩)] w2 fun e w' => e = .returned (.int .i64 bs.length) ∧ Two W w' B1 a1 b1 bs ss B2 a2 b2 bs ss w.heap.size (.cells #[.int .i64 k, .int .i64 x, .int .i64 y, .int .i64 n, .int .u64 u, .string d] 34 (0, 0))) :=
    fun w2 h2 => (t_size h2).mono fun e w' ⟨he, hw⟩ => ⟨he, by subst hw; exact h2⟩
  clear h h2 hk
  go_enter Try.func13, Try.ntmps13
  go_wp2_with fail
  go_region_with (go_at_call 23; refine (HS.out _ ?_).mono ?_; exact HB.out; rintro e w2 ⟨rfl, h2⟩; have HP : Hid (Pair W w2 B1 a1 b1 bs ss B2 a2 b2 bs ss) := h2.pair; obtain ⟨q0, _, _, _⟩ := h2.ref; clear h2)
  all_goals
    go_wp2
    go_ret
    exact ⟨by simp [Act.put], bs, ss, rfl, by omega, HP.out⟩

set_option maxRecDepth 20000 in
set_option maxHeartbeats 1000000 in
theorem done_forget {W w : World} {B1 a1 b1 B2 a2 b2 : Nat} {bs : List UInt8} {ss : List Sp} (h : Pair W w B1 a1 b1 bs ss B2 a2 b2 bs ss) (x y n u : Int) (d : ByteArray) :
    Calls Try.prog 13 #[.pointer (some ⟨a1, 0, none⟩), .pointer (some ⟨a2, 0, none⟩), .agg #[.int .i64 7, .int .i64 x, .int .i64 y, .int .i64 n, .int .u64 u, .string d]] w fun e w' => e = .returned (.bool true) ∧ Alike2 W w' B1 a1 b1 B2 a2 b2 bs.length (ss.length + 2) := by
  have h2 := h.box (.cells #[.int .i64 7, .int .i64 x, .int .i64 y, .int .i64 n, .int .u64 u, .string d] 34)
  obtain ⟨p0, _, _, _, _, _⟩ := box_cells h2.cell
  have HFg : Hid (Calls Try.prog 21 #[.pointer (some ⟨a1, 0, none⟩)] (w.alloc (.cells #[.int .i64 7, .int .i64 x, .int .i64 y, .int .i64 n, .int .u64 u, .string d] 34)) fun e w' => e = .returned (.tuple #[]) ∧ Two W w' B1 a1 b1 bs [] B2 a2 b2 bs ss w.heap.size (.cells #[.int .i64 7, .int .i64 x, .int .i64 y, .int .i64 n, .int .u64 u, .string d] 34 (0, 0))) := t_forget h2
  have HS : Hid (∀ w2, Two W w2 B1 a1 b1 bs [] B2 a2 b2 bs [] w.heap.size (.cells #[.int .i64 7, .int .i64 x, .int .i64 y, .int .i64 n, .int .u64 u, .string d] 34 (0, 0)) → Calls Try.prog 23 #[.pointer (some ⟨a1, 0, none⟩)] w2 fun e w' => e = .returned (.int .i64 bs.length) ∧ Two W w' B1 a1 b1 bs [] B2 a2 b2 bs [] w.heap.size (.cells #[.int .i64 7, .int .i64 x, .int .i64 y, .int .i64 n, .int .u64 u, .string d] 34 (0, 0))) :=
    fun w2 h2 => (t_size h2).mono fun e w' ⟨he, hw⟩ => ⟨he, by subst hw; exact h2⟩
  clear h h2
  go_enter Try.func13, Try.ntmps13
  go_wp2_with fail
  refine HFg.out.mono ?_
  rintro e w1 ⟨rfl, h1⟩
  obtain ⟨_, ⟨v2, s1⟩, s2, h3⟩ := h1.ref
  obtain ⟨c0, _, _, _⟩ := h3.ref
  have HB : Hid (Two W (w1.setCell ⟨a2, 1, none⟩ (.slice none 0 0)).drew B1 a1 b1 bs [] B2 a2 b2 bs [] w.heap.size (.cells #[.int .i64 7, .int .i64 x, .int .i64 y, .int .i64 n, .int .u64 u, .string d] 34 (0, 0))) := h3.drew
  clear h1 h3 HFg p0
  go_wp2_with fail
  go_region_with (go_at_call 23; refine (HS.out _ ?_).mono ?_; exact HB.out; rintro e w2 ⟨rfl, h2⟩; have HP : Hid (Pair W w2 B1 a1 b1 bs [] B2 a2 b2 bs []) := h2.pair; obtain ⟨q0, _, _, _⟩ := h2.ref; clear h2)
  all_goals
    go_wp2
    go_ret
    exact ⟨by simp [Act.put], bs, [], rfl, by simp, HP.out⟩

set_option maxHeartbeats 1000000 in
theorem done_far {W w : World} {B1 a1 b1 B2 a2 b2 : Nat} {bs : List UInt8} {ss : List Sp} (h : Pair W w B1 a1 b1 bs ss B2 a2 b2 bs ss) (x y n u : Int) (d : ByteArray) (hy : 65536 < y) :
    Calls Try.prog 13 #[.pointer (some ⟨a1, 0, none⟩), .pointer (some ⟨a2, 0, none⟩), .agg #[.int .i64 3, .int .i64 x, .int .i64 y, .int .i64 n, .int .u64 u, .string d]] w fun e w' => e = .returned (.bool true) ∧ Alike2 W w' B1 a1 b1 B2 a2 b2 bs.length (ss.length + 2) := by
  have h2 := h.box (.cells #[.int .i64 3, .int .i64 x, .int .i64 y, .int .i64 n, .int .u64 u, .string d] 34)
  obtain ⟨p0, p1, p2, _, _, _⟩ := box_cells h2.cell
  have HP : Hid (Pair W (w.alloc (.cells #[.int .i64 3, .int .i64 x, .int .i64 y, .int .i64 n, .int .u64 u, .string d] 34)) B1 a1 b1 bs ss B2 a2 b2 bs ss) := h2.pair
  clear h h2
  go_enter Try.func13, Try.ntmps13
  go_wp2
  go_ret
  exact ⟨rfl, bs, ss, rfl, by omega, HP.out⟩

theorem done_any {W w : World} {B1 a1 b1 B2 a2 b2 : Nat} {bs : List UInt8} {ss : List Sp} (h : Pair W w B1 a1 b1 bs ss B2 a2 b2 bs ss) (o : OpV) (ho : o.ok) (hk : ss.length < 1000000) :
    Calls Try.prog 13 #[.pointer (some ⟨a1, 0, none⟩), .pointer (some ⟨a2, 0, none⟩), .agg #[.int .i64 o.kind, .int .i64 o.a, .int .i64 o.b, .int .i64 o.c, .int .u64 o.v, .string o.data]] w fun e w' => e = .returned (.bool true) ∧ Alike2 W w' B1 a1 b1 B2 a2 b2 bs.length (ss.length + 2) := by
  obtain ⟨k, x, y, n, u, d⟩ := o
  obtain ⟨a1', b1', c1', v0, v1, _, _, _, _, _⟩ := ho
  simp only at a1' b1' c1' v0 v1 ⊢
  by_cases h1 : k = 1
  · subst h1; exact done_load h x y n u d a1' hk
  by_cases h2 : k = 2
  · subst h2; exact done_store h x y n u d a1' v0 v1 hk
  by_cases h3 : k = 3
  · subst h3
    by_cases hy : y ≤ 65536
    · exact done_read h x y n u d a1' hy hk
    · exact done_far h x y n u d (by omega)
  by_cases h4 : k = 4
  · subst h4; exact done_write h x y n u d a1' hk
  by_cases h5 : k = 5
  · subst h5; exact done_zero h x y n u d a1' hk
  by_cases h6 : k = 6
  · subst h6; exact done_copy h x y n u d a1' b1' hk
  by_cases h7 : k = 7
  · subst h7; exact done_forget h x y n u d
  · exact done_size h k x y n u d (by intro i hi1 hi2; omega)
end Go.Proofs.Ytlikfcdlgkbnoaa
