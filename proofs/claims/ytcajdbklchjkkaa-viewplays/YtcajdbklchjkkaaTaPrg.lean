/-
  The program's table in memory: two maps, or none.
-/
import Derived.Test.YtcajdbklchjkkaaTaMaps
import Derived.Test.YtcajdbklchjkkaaMiMap
namespace Go.Proofs.Ytcajdbklchjkkaa
open Go.RowKit

/-- A map, or none at all. -/
def Og (w : World) (m : Option Nat) (f : Int → Option Int) (cnt : Nat) : Prop := (m = none ∧ (∀ x, f x = none) ∧ cnt = 0) ∨ ∃ B, m = some B ∧ Oi w B cnt f cnt
/-- The table's own block. -/
def Tw (w : World) (t : Nat) (m1 m2 : Option Nat) : Prop := w.heap[t]? = some (.cells #[.map m1, .map m2] 75 (0, 0))
section
variable {w w' : World} {t : Nat} {m m1 m2 : Option Nat} {f : Int → Option Int} {cnt : Nat}
theorem Og.carry {S : Nat → Prop} (h : Og w m f cnt) (fr : Fr S w w') (hn : ∀ B, m = some B → ¬ S B) : Og w' m f cnt := by
  rcases h with h | ⟨B, e, h⟩
  · exact .inl h
  · exact .inr ⟨B, e, h.carry fr (hn B e)⟩
theorem Og.len (h : Og w m f cnt) (ty : TypeId) : (Builtin.len_ #[73] ty #[.map m]).run Try.prog w = .ok (.int .i64 cnt) w := by
  rcases h with ⟨rfl, _, rfl⟩ | ⟨B, rfl, h⟩
  · exact Maps.len_nil Try.underlying73 ty
  · exact h.len ty
theorem Og.lookOk (h : Og w m f cnt) {x : Int} (hx : I64 x) : (Instr.lookup 73 (.map m) (.int .i64 x) true).run Try.prog w = .ok (.tuple #[.int .i64 ((f x).getD 0), .bool (f x).isSome]) w := by
  have hw : (Lit.int .i64 x).wf = true := wf_small hx.1 hx.2
  rcases h with ⟨rfl, e, rfl⟩ | ⟨B, rfl, h⟩
  · rw [e x]
    exact Maps.look_nil true intLaw Try.underlying73 (zero_int w) (int_key hw)
  · exact h.lookOk hw
theorem Tw.lt (h : Tw w t m1 m2) : t < w.heap.size := (Array.getElem?_eq_some_iff.1 h).1
theorem Tw.carry {S : Nat → Prop} (h : Tw w t m1 m2) (f : Fr S w w') (hn : ¬ S t) : Tw w' t m1 m2 := (f.block t h.lt hn).trans h
theorem Tw.c0 (h : Tw w t m1 m2) : w.cell? ⟨t, 0, none⟩ = some (.map m1) := by unfold Tw at h; simp [World.cell?, h]
theorem Tw.c1 (h : Tw w t m1 m2) : w.cell? ⟨t, 1, none⟩ = some (.map m2) := by unfold Tw at h; simp [World.cell?, h]
theorem Tw.fz (h : Tw w t m1 m2) (j : Nat) : w.frozen? ⟨t, j, none⟩ = false := by unfold Tw at h; simp [World.frozen?, h]
theorem Tw.set0 (h : Tw w t m1 m2) (x : Option Nat) : Tw (w.setCell ⟨t, 0, none⟩ (.map x)) t x m2 := by unfold Tw at h ⊢; simp [World.setCell, Array.getElem?_modify, h]
theorem Tw.set1 (h : Tw w t m1 m2) (x : Option Nat) : Tw (w.setCell ⟨t, 1, none⟩ (.map x)) t m1 x := by unfold Tw at h ⊢; simp [World.setCell, Array.getElem?_modify, h]
end
/-- The program's table in memory. -/
structure Tn (t : Nat) (T : Tb) (w : World) (Z : Nat → Prop) (m1 m2 : Option Nat) : Prop where
  c : Tw w t m1 m2
  o1 : Og w m1 (fF T) T.length
  o2 : Og w m2 (fH T) T.length
  nn : m1 = none ↔ m2 = none
  zt : Z t
  z1 : ∀ B, m1 = some B → Z B ∧ B ≠ t
  z2 : ∀ B, m2 = some B → Z B ∧ B ≠ t
  ne : ∀ B, m1 = some B → m2 ≠ some B
  lt : ∀ i, Z i → i < w.heap.size
def Tm (t : Nat) (T : Tb) (w : World) (Z : Nat → Prop) : Prop := ∃ m1 m2, Tn t T w Z m1 m2
theorem Tm.good (t : Nat) (T : Tb) : Good (Tm t T) :=
  ⟨fun h f hs => by
    obtain ⟨m1, m2, h⟩ := h
    exact ⟨m1, m2, h.c.carry f (hs _ h.zt), h.o1.carry f fun B e => hs _ (h.z1 B e).1, h.o2.carry f fun B e => hs _ (h.z2 B e).1, h.nn, h.zt, h.z1, h.z2, h.ne, fun i hi => Nat.lt_of_lt_of_le (h.lt i hi) f.size⟩,
  fun h k1 k2 => by
    obtain ⟨m1, m2, h⟩ := h
    exact ⟨m1, m2, h.c, h.o1, h.o2, h.nn, k1 _ h.zt, fun B e => ⟨k1 _ (h.z1 B e).1, (h.z1 B e).2⟩, fun B e => ⟨k1 _ (h.z2 B e).1, (h.z2 B e).2⟩, h.ne, k2⟩⟩
/-- A pair goes and comes again. -/
theorem tbI_tbU : ∀ {T : Tb} {v p : Int}, TbOk T → ¬ tbF T v < 0 → tbI (tbU T v) v p = tbW T v p
  | [], v, p, _, h => absurd (show (-1 : Int) < 0 by decide) h
  | x :: r, v, p, ok, h => by
    by_cases e : x.1 = v
    · have hr : ∀ y ∈ r, v < y.1 := fun y hy => by have := (List.pairwise_cons.1 ok.up).1 y hy; omega
      have h1 : tbU (x :: r) v = r := by
        unfold tbU
        rw [List.filter_cons_of_neg (by simp [e]), List.filter_eq_self.2 fun y hy => by have := hr y hy; simp; omega]
      have h2 : tbW (x :: r) v p = (v, p) :: r := by
        unfold tbW
        rw [List.map_cons, if_pos e, e]
        congr 1
        have := List.map_congr_left (l := r) (f := fun x : Int × Int => if x.1 = v then (x.1, p) else x) (g := id) fun y hy => by have := hr y hy; rw [if_neg (by omega)]; rfl
        rw [this, List.map_id]
      rw [h1, h2]
      cases r with
      | nil => rfl
      | cons y s =>
        unfold tbI
        rw [if_neg (by have := hr y (by simp); omega)]
    · have h2 : ¬ tbF r v < 0 := by unfold tbF at h; rw [if_neg e] at h; exact h
      have hx : x.1 < v := (List.pairwise_cons.1 ok.up).1 _ (ok.tail.f_some h2)
      have ih := tbI_tbU (p := p) ok.tail h2
      have h1 : tbU (x :: r) v = x :: tbU r v := by
        unfold tbU
        rw [List.filter_cons_of_pos (by simp [e])]
      rw [h1]
      unfold tbI
      rw [if_pos hx, ih]
      unfold tbW
      rw [List.map_cons, if_neg e]
theorem Tb.few {T : Tb} (ok : TbOk T) : T.length ≤ 6144 := by
  have key : ∀ (U : Tb) (lo : Int), U.Pairwise (fun x y => x.1 < y.1) → (∀ x ∈ U, lo ≤ x.1 ∧ x.1 ≤ 6399) → lo ≤ 6400 → (U.length : Int) ≤ 6400 - lo := by
    intro U
    induction U with
    | nil => intro lo _ _ h; simp; omega
    | cons x r ih =>
      intro lo hp ha hl
      have hx := ha x (by simp)
      have := ih (x.1 + 1) (List.pairwise_cons.1 hp).2 (fun y hy => by have := (List.pairwise_cons.1 hp).1 y hy; have := ha y (by simp [hy]); omega) (by omega)
      simp only [List.length_cons]
      omega
  have := key T 256 ok.up (fun x hx => (ok.at_ x hx).1) (by omega)
  omega
/-- The local pages, rising: whatever order they came in. -/
theorem keys_sorted {T : Tb} (ok : TbOk T) {ss : List Int} (hp : ss.Perm (T.map Prod.fst)) : ss.mergeSort (fun x y => decide (x ≤ y)) = T.map Prod.fst := by
  have tr : ∀ a b c : Int, decide (a ≤ b) = true → decide (b ≤ c) = true → decide (a ≤ c) = true := fun a b c h1 h2 => by simp only [decide_eq_true_eq] at *; omega
  have to : ∀ a b : Int, (decide (a ≤ b) || decide (b ≤ a)) = true := fun a b => by simp only [Bool.or_eq_true, decide_eq_true_eq]; omega
  refine List.Perm.eq_of_pairwise (le := fun a b => decide (a ≤ b) = true) (fun a b _ _ h1 h2 => ?_) (List.pairwise_mergeSort tr to ss) ?_ ((List.mergeSort_perm ss _).trans hp)
  · simp only [decide_eq_true_eq] at h1 h2; omega
  · refine List.pairwise_map.2 (ok.up.imp fun {x y} h => ?_)
    simp only [decide_eq_true_eq]; omega
end Go.Proofs.Ytcajdbklchjkkaa
