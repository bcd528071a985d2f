/-
  The document's table among things side by side.
-/
import Derived.Test.YtpmajadljlibbaaTaRefD
import Derived.Test.YtpmajadljlibbaaTaRefF
import Derived.Test.YtpmajadljlibbaaObjs3
namespace Go.Proofs.Ytpmajadljlibbaa
open Go.RowKit

section
variable {W w : World} {ts : List (World → (Nat → Prop) → Prop)} {base q : Nat} {T : Tb}
theorem y_map (h : Things W w ts) (j : Nat) (hj : ts[j]? = some (Dt base q T)) (hl : T.length < 5000) (x p : Int) : Calls Try.prog 10 #[.pointer (some ⟨q, 0, none⟩), .int .i64 x, .int .i64 p] w fun e w' => e = .returned (.int .i64 (tbME T x p)) ∧ Things W w' (ts.set j (Dt base q (tbM T x p))) :=
  h.lift j hj (Dt.good _ _ _) fun _ ⟨_, h1, h2, h3⟩ => (f_map h1 hl x p).mono fun _ _ ⟨he, _, r, f, fv⟩ => ⟨he, Dt.turned h2 h3 r f fv⟩
theorem y_unmap (h : Things W w ts) (j : Nat) (hj : ts[j]? = some (Dt base q T)) (ok : TbOk T) (x : Int) : Calls Try.prog 12 #[.pointer (some ⟨q, 0, none⟩), .int .i64 x] w fun e w' => e = .returned (.tuple #[.int .i64 (tbUV T x), .int .i64 (tbUE T x)]) ∧ Things W w' (ts.set j (Dt base q (tbU T x))) :=
  h.lift j hj (Dt.good _ _ _) fun _ ⟨_, h1, h2, h3⟩ => (f_unmap h1 ok x).mono fun _ _ ⟨he, _, r, f, fv⟩ => ⟨he, Dt.turned h2 h3 r f fv⟩
theorem y_swap (h : Things W w ts) (j : Nat) (hj : ts[j]? = some (Dt base q T)) (x p : Int) : Calls Try.prog 14 #[.pointer (some ⟨q, 0, none⟩), .int .i64 x, .int .i64 p] w fun e w' => e = .returned (.tuple #[.int .i64 (tbSV T x p), .int .i64 (tbSE T x p)]) ∧ Things W w' (ts.set j (Dt base q (tbS T x p))) :=
  h.lift j hj (Dt.good _ _ _) fun _ ⟨_, h1, h2, h3⟩ => (f_swap h1 x p).mono fun _ _ ⟨he, r, f⟩ => ⟨he, Dt.turned h2 h3 r (f.mono fun _ _ e => .inr e) (.inl rfl)⟩
theorem y_pieces (h : Things W w ts) (j : Nat) (hj : ts[j]? = some (Dt base q T)) (ok : TbOk T) {a n : Int} (hn : n ≤ 16384) : Calls Try.prog 16 #[.pointer (some ⟨q, 0, none⟩), .int .i64 a, .int .i64 n] w fun e w' => ∃ ad cap, e = .returned (.tuple #[.slice ad (piL T a n).length cap, .int .i64 (piE T a n)]) ∧ Things W w' (ts ++ [Sv ad (piL T a n)]) := by
  obtain ⟨U, ⟨v, h1, _⟩, _⟩ := h.get j hj
  exact (f_pieces h1 ok hn).mono fun e w' ⟨ad, cap, he, hs, hb, f⟩ => ⟨ad, cap, he, h.moreSpans hs hb f⟩
/-- Its slice. -/
theorem Things.dt (h : Things W w ts) (j : Nat) (hj : ts[j]? = some (Dt base q T)) : ∃ ad cap, w.cell? ⟨q, 0, none⟩ = some (.slice ad T.length cap) := by
  obtain ⟨U, ⟨v, h1, _⟩, _⟩ := h.get j hj
  obtain ⟨ad, cap, rfl, _⟩ := h1.form
  exact ⟨ad, cap, h1.c0⟩
/-- A new one. -/
theorem Things.dtNew (h : Things W w ts) : Things W (w.alloc (.cells #[.slice none 0 0] 29)) (ts ++ [Dt W.heap.size w.heap.size []]) :=
  h.more (Dt.good _ _ _) (Z := fun i => i = w.heap.size) ⟨.slice none 0 0, ⟨heap_alloc_new w _, ⟨rfl, .inl ⟨rfl, rfl⟩⟩, fun e => by simp [Value.ownBlock] at e, by simp, h.nw.le⟩, ⟨rfl, fun g e => by simp [Value.ownBlock] at e⟩, fun i hi => by simp only [World.size_alloc]; omega⟩ ((Fr.refl _ _).alloc _) fun i hi => by simp only [World.size_alloc]; omega
end
/-- The document's table, its slice told. -/
def Dv (base q : Nat) (v : Value) (T : Tb) (w : World) (Z : Nat → Prop) : Prop := Rtb w base q v T ∧ (Z q ∧ ∀ g, v.ownBlock = some g → Z g) ∧ ∀ i, Z i → i < w.heap.size
theorem Dv.good (base q : Nat) (v : Value) (T : Tb) : Good (Dv base q v T) :=
  ⟨fun ⟨h, ⟨h1, h2⟩, h3⟩ f hs => ⟨h.carry f (hs _ h1) fun x e => hs _ (h2 x e), ⟨h1, h2⟩, fun i hi => Nat.lt_of_lt_of_le (h3 i hi) f.size⟩,
   fun ⟨h, ⟨h1, h2⟩, _⟩ k1 k2 => ⟨h, ⟨k1 _ h1, fun g e => k1 _ (h2 g e)⟩, k2⟩⟩
section
variable {W w : World} {ts : List (World → (Nat → Prop) → Prop)} {base q : Nat} {T : Tb} {v : Value}
theorem Things.openDt (h : Things W w ts) (j : Nat) (hj : ts[j]? = some (Dt base q T)) : ∃ v, Things W w (ts.set j (Dv base q v T)) := by
  obtain ⟨U, ⟨v, h1, h2, h3⟩, _, hb⟩ := h.turn j hj
  exact ⟨v, hb _ w U (Dv.good _ _ _ _) ⟨h1, h2, h3⟩ (Gw.same h3 (Fr.refl _ _))⟩
theorem Things.shutDt (h : Things W w ts) (j : Nat) (hj : ts[j]? = some (Dv base q v T)) : Things W w (ts.set j (Dt base q T)) := by
  obtain ⟨U, ⟨h1, h2, h3⟩, _, hb⟩ := h.turn j hj
  exact hb _ w U (Dt.good _ _ _) ⟨v, h1, h2, h3⟩ (Gw.same h3 (Fr.refl _ _))
theorem Things.dv (h : Things W w ts) (j : Nat) (hj : ts[j]? = some (Dv base q v T)) : ∃ ad cap, v = .slice ad T.length cap ∧ w.cell? ⟨q, 0, none⟩ = some v := by
  obtain ⟨U, ⟨h1, _⟩, _⟩ := h.get j hj
  obtain ⟨ad, cap, e, _⟩ := h1.form
  exact ⟨ad, cap, e, h1.c0⟩
theorem z_find (h : Things W w ts) (j : Nat) (hj : ts[j]? = some (Dv base q v T)) (x : Int) : Calls Try.prog 20 #[.pointer (some ⟨q, 0, none⟩), .int .i64 x] w fun e w' => e = .returned (.int .i64 (tbF T x)) ∧ Things W w' ts := h.ask j hj fun _ ⟨h1, _⟩ => f_find h1 x
theorem z_holder (h : Things W w ts) (j : Nat) (hj : ts[j]? = some (Dv base q v T)) (x : Int) : Calls Try.prog 22 #[.pointer (some ⟨q, 0, none⟩), .int .i64 x] w fun e w' => e = .returned (.int .i64 (tbH T x)) ∧ Things W w' ts := h.ask j hj fun _ ⟨h1, _⟩ => f_holder h1 x
theorem z_all (h : Things W w ts) (j : Nat) (hj : ts[j]? = some (Dv base q v T)) : Calls Try.prog 26 #[.pointer (some ⟨q, 0, none⟩)] w fun e w' => ∃ y, e = .returned y ∧ Things W w' (ts ++ [Rw W.heap.size y (T.map Prod.fst)]) := y_allG (fun _ _ ⟨h, _⟩ => ⟨_, h⟩) h j hj
end
theorem sum_len : ∀ M : List Sq, (∀ j (h : j < M.length), 1 ≤ M[j].2.1) → (M.length : Int) ≤ (M.map fun s => s.2.1).sum
  | [], _ => by simp
  | s :: r, hall => by
    have h0 := hall 0 (by simp)
    have := sum_len r fun j hj => by have := hall (j + 1) (by simpa using hj); simpa using this
    simp at h0 ⊢
    omega
theorem piL_len {T : Tb} {a n : Int} (hn : n ≤ 16384) : (piL T a n).length ≤ 16384 := by
  by_cases he : piE T a n = 0
  · obtain ⟨hw, hp⟩ := piE_zero he
    have hpc := pcs_ok (by omega) _ _ hp
    have h1 := hpc.sum
    have h2 := sum_len _ fun j hj => (hpc.all j hj).2.1
    omega
  · rw [(piE_not he).2]; simp
end Go.Proofs.Ytpmajadljlibbaa
