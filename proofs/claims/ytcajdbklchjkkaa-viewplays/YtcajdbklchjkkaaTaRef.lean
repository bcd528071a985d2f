/-
  More of things side by side: one takes another one's place. Nothing of the program is named here.
  The document's table among things side by side.
-/
import Derived.Test.YtcajdbklchjkkaaLists2
import Derived.Test.YtcajdbklchjkkaaTaRefD
import Derived.Test.YtcajdbklchjkkaaTaRefF
namespace Go.Proofs.Ytcajdbklchjkkaa
open Go.RowKit

theorem set_same {α : Type} {ts : List α} {i : Nat} {x : α} (h : ts[i]? = some x) : ts.set i x = ts := by
  apply List.ext_getElem?
  intro m
  rw [List.getElem?_set]
  by_cases e : i = m
  · subst e; rw [if_pos rfl, if_pos (List.getElem?_eq_some_iff.1 h).1, h]
  · rw [if_neg e]
theorem set_other {α : Type} {ts : List α} {i j : Nat} {x R : α} (h : i ≠ j) (hi : ts[i]? = some x) : (ts.set j R)[i]? = some x := by rw [List.getElem?_set_ne (Ne.symm h)]; exact hi
theorem cellO {w : World} {B : Nat} {x : Value} {T : TypeId} (h : w.heap[B]? = some (.cells #[x] T (0, 0))) : w.cell? ⟨B, 0, none⟩ = some x ∧ w.frozen? ⟨B, 0, none⟩ = false := ⟨by simp [World.cell?, h], by simp [World.frozen?, h]⟩
theorem append_at {α : Type} {ts : List α} {i : Nat} {x R : α} (hi : ts[i]? = some x) : (ts ++ [R])[i]? = some x := by rw [List.getElem?_append_left (List.getElem?_eq_some_iff.1 hi).1]; exact hi
theorem set_last {α : Type} (ts : List α) (x y : α) : (ts ++ [x]).set ts.length y = ts ++ [y] := by simp
/-- The last one takes the place of another one. -/
theorem Things.takeLast {W w : World} {ts : List (World → (Nat → Prop) → Prop)} {R : World → (Nat → Prop) → Prop} (h : Things W w (ts ++ [R])) (j : Nat) : Things W w (ts.set j R) := by
  classical
  by_cases hj : j < ts.length
  case neg =>
    have e : ts.set j R = ts := List.set_eq_of_length_le (by omega)
    rw [e]
    exact Things.less h
  obtain ⟨o, h1, h2, h3, h4⟩ := h
  have hb : ∀ i, o i ≤ ts.length + 1 := fun i => by have := h2 i; simpa using this
  refine ⟨fun i => if o i = ts.length + 1 then j + 1 else if o i = j + 1 then 0 else o i, ⟨h1.nw, fun i hi => ?_⟩, fun i => ?_, fun Q hQ => ?_, fun m Q hm => ?_⟩
  · refine h1.dom i fun e => hi ?_
    simp [e]
  · rw [List.length_set]
    show (if o i = ts.length + 1 then j + 1 else if o i = j + 1 then 0 else o i) ≤ ts.length
    have := hb i
    split
    · omega
    · split <;> omega
  · rcases List.mem_or_eq_of_mem_set hQ with e | rfl
    · exact h3 Q (List.mem_append_left _ e)
    · exact h3 Q (by simp)
  · rw [List.getElem?_set] at hm
    split at hm
    case isTrue e =>
      subst e
      simp only [Option.some.injEq] at hm
      subst hm
      have hG := h3 R (by simp)
      have hp := h4 ts.length R (by simp)
      refine hG.mono hp (fun i hi => ?_) fun i hi => ?_
      · have h5 : o i = ts.length + 1 := hi
        show (if o i = ts.length + 1 then j + 1 else if o i = j + 1 then 0 else o i) = j + 1
        rw [if_pos h5]
      · have h5 : (if o i = ts.length + 1 then j + 1 else if o i = j + 1 then 0 else o i) = j + 1 := hi
        refine (h1.dom i fun e => ?_).2
        simp [e] at h5
    case isFalse e =>
      have hml := (List.getElem?_eq_some_iff.1 hm).1
      have hG := h3 Q (List.mem_append_left _ (List.mem_of_getElem? hm))
      have hp := h4 m Q (by rw [List.getElem?_append_left hml]; exact hm)
      refine hG.mono hp (fun i hi => ?_) fun i hi => ?_
      · have h5 : o i = m + 1 := hi
        show (if o i = ts.length + 1 then j + 1 else if o i = j + 1 then 0 else o i) = m + 1
        rw [if_neg (by omega), if_neg (by omega)]; exact h5
      · have h5 : (if o i = ts.length + 1 then j + 1 else if o i = j + 1 then 0 else o i) = m + 1 := hi
        refine (h1.dom i fun e => ?_).2
        simp [e] at h5
end Go.Proofs.Ytcajdbklchjkkaa

namespace Go.Proofs.Ytcajdbklchjkkaa
open Go.RowKit

section
variable {W w : World} {ts : List (World → (Nat → Prop) → Prop)} {base q : Nat} {T : Tb}
theorem y_map (h : Things W w ts) (j : Nat) (hj : ts[j]? = some (Dt base q T)) (hl : T.length < 5000) (x p : Int) : Calls Try.prog 29 #[.pointer (some ⟨q, 0, none⟩), .int .i64 x, .int .i64 p] w fun e w' => e = .returned (.int .i64 (tbME T x p)) ∧ Things W w' (ts.set j (Dt base q (tbM T x p))) :=
  h.lift j hj (Dt.good _ _ _) fun _ ⟨_, h1, h2, h3⟩ => (f_map h1 hl x p).mono fun _ _ ⟨he, _, r, f, fv⟩ => ⟨he, Dt.turned h2 h3 r f fv⟩
theorem y_pieces (h : Things W w ts) (j : Nat) (hj : ts[j]? = some (Dt base q T)) (ok : TbOk T) {a n : Int} (hn : n ≤ 16384) : Calls Try.prog 60 #[.pointer (some ⟨q, 0, none⟩), .int .i64 a, .int .i64 n] w fun e w' => ∃ ad cap, e = .returned (.tuple #[.slice ad (piL T a n).length cap, .int .i64 (piE T a n)]) ∧ Things W w' (ts ++ [Sv ad (piL T a n)]) := by
  obtain ⟨U, ⟨v, h1, _⟩, _⟩ := h.get j hj
  exact (f_pieces h1 ok hn).mono fun e w' ⟨ad, cap, he, hs, hb, f⟩ => ⟨ad, cap, he, h.moreSpans hs hb f⟩
/-- Its slice. -/
theorem Things.dt (h : Things W w ts) (j : Nat) (hj : ts[j]? = some (Dt base q T)) : ∃ ad cap, w.cell? ⟨q, 0, none⟩ = some (.slice ad T.length cap) := by
  obtain ⟨U, ⟨v, h1, _⟩, _⟩ := h.get j hj
  obtain ⟨ad, cap, rfl, _⟩ := h1.form
  exact ⟨ad, cap, h1.c0⟩
/-- A new one. -/
theorem Things.dtNew (h : Things W w ts) : Things W (w.alloc (.cells #[.slice none 0 0] 30)) (ts ++ [Dt W.heap.size w.heap.size []]) :=
  h.more (Dt.good _ _ _) (Z := fun i => i = w.heap.size) ⟨.slice none 0 0, ⟨heap_alloc_new w _, ⟨rfl, .inl ⟨rfl, rfl⟩⟩, fun e => by simp [Value.ownBlock] at e, by simp, h.nw.le⟩, ⟨rfl, fun g e => by simp [Value.ownBlock] at e⟩, fun i hi => by simp only [World.size_alloc]; omega⟩ ((Fr.refl _ _).alloc _) fun i hi => by simp only [World.size_alloc]; omega
end
/-- The document's table, its slice told. -/
def Dv (base q : Nat) (v : Value) (T : Tb) (w : World) (Z : Nat → Prop) : Prop := Rtb w base q v T ∧ (Z q ∧ ∀ g, v.ownBlock = some g → Z g) ∧ ∀ i, Z i → i < w.heap.size
theorem Dv.good (base q : Nat) (v : Value) (T : Tb) : Good (Dv base q v T) :=
  ⟨fun ⟨h, ⟨h1, h2⟩, h3⟩ f hs => ⟨h.carry f (hs _ h1) fun x e => hs _ (h2 x e), ⟨h1, h2⟩, fun i hi => Nat.lt_of_lt_of_le (h3 i hi) f.size⟩,
   fun ⟨h, ⟨h1, h2⟩, _⟩ k1 k2 => ⟨h, ⟨k1 _ h1, fun g e => k1 _ (h2 g e)⟩, k2⟩⟩
section
variable {W w : World} {ts : List (World → (Nat → Prop) → Prop)} {base q : Nat} {T : Tb} {v : Value}
theorem Things.openDt (h : Things W w ts) (j : Nat) (hj : ts[j]? = some (Dt base q T)) : ∃ v, Things W w (ts.set j (Dv base q v T)) := by
  obtain ⟨U, ⟨v, h1, h2, h3⟩, _, hb⟩ := h.turn j hj
  exact ⟨v, hb _ w U (Dv.good _ _ _ _) ⟨h1, h2, h3⟩ (Gw.same h3 (Fr.refl _ _))⟩
theorem Things.shutDt (h : Things W w ts) (j : Nat) (hj : ts[j]? = some (Dv base q v T)) : Things W w (ts.set j (Dt base q T)) := by
  obtain ⟨U, ⟨h1, h2, h3⟩, _, hb⟩ := h.turn j hj
  exact hb _ w U (Dt.good _ _ _) ⟨v, h1, h2, h3⟩ (Gw.same h3 (Fr.refl _ _))
theorem Things.dv (h : Things W w ts) (j : Nat) (hj : ts[j]? = some (Dv base q v T)) : ∃ ad cap, v = .slice ad T.length cap ∧ w.cell? ⟨q, 0, none⟩ = some v := by
  obtain ⟨U, ⟨h1, _⟩, _⟩ := h.get j hj
  obtain ⟨ad, cap, e, _⟩ := h1.form
  exact ⟨ad, cap, e, h1.c0⟩
theorem z_find (h : Things W w ts) (j : Nat) (hj : ts[j]? = some (Dv base q v T)) (x : Int) : Calls Try.prog 53 #[.pointer (some ⟨q, 0, none⟩), .int .i64 x] w fun e w' => e = .returned (.int .i64 (tbF T x)) ∧ Things W w' ts := h.ask j hj fun _ ⟨h1, _⟩ => f_find h1 x
theorem z_holder (h : Things W w ts) (j : Nat) (hj : ts[j]? = some (Dv base q v T)) (x : Int) : Calls Try.prog 54 #[.pointer (some ⟨q, 0, none⟩), .int .i64 x] w fun e w' => e = .returned (.int .i64 (tbH T x)) ∧ Things W w' ts := h.ask j hj fun _ ⟨h1, _⟩ => f_holder h1 x
end
theorem sum_len : ∀ M : List Sq, (∀ j (h : j < M.length), 1 ≤ M[j].2.1) → (M.length : Int) ≤ (M.map fun s => s.2.1).sum
  | [], _ => by simp
  | s :: r, hall => by
    have h0 := hall 0 (by simp)
    have := sum_len r fun j hj => by have := hall (j + 1) (by simpa using hj); simpa using this
    simp at h0 ⊢
    omega
theorem piL_len {T : Tb} {a n : Int} (hn : n ≤ 16384) : (piL T a n).length ≤ 16384 := by
  by_cases he : piE T a n = 0
  · obtain ⟨hw, hp⟩ := piE_zero he
    have hpc := pcs_ok (by omega) _ _ hp
    have h1 := hpc.sum
    have h2 := sum_len _ fun j hj => (hpc.all j hj).2.1
    omega
  · rw [(piE_not he).2]; simp
end Go.Proofs.Ytcajdbklchjkkaa
