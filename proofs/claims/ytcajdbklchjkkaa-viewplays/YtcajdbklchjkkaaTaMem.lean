/-
  The document's table in memory: a block with a slice, and a row of pairs.
-/
import Derived.Test.YtcajdbklchjkkaaRows
import Derived.Test.YtcajdbklchjkkaaTaPcs
import Derived.Test.YtcajdbklchjkkaaLists2
import Derived.Deep.RegionLaw
import Derived.Deep.RegionLawGrows
import Derived.Deep.QuietTactic
import Derived.Deep.RegionHeld3
import Derived.BigQuiet
import Derived.BigRegion
import Derived.BigFrame
import Derived.Laws.OwnMore
import Derived.OwnWalk
import Derived.LoopTactic
namespace Go.Proofs.Ytcajdbklchjkkaa
open Go.RowKit

/-- A pair's cells. -/
def kc (x : Int × Int) : List Value := [.int .i64 x.1, .int .i64 x.2]
def pc (L : Tb) : List Value := L.flatMap kc
theorem pc_cons (x : Int × Int) (L : Tb) : pc (x :: L) = .int .i64 x.1 :: .int .i64 x.2 :: pc L := rfl
theorem pc_length : ∀ L : Tb, (pc L).length = L.length * 2
  | [] => rfl
  | x :: L => by rw [pc_cons]; simp only [List.length_cons, pc_length L]; omega
theorem pc_append (l m : Tb) : pc (l ++ m) = pc l ++ pc m := by simp [pc]
theorem pc_one (L : Tb) : ∀ u ∈ pc L, u.oneCell' = true := by
  intro u hu
  simp only [pc, List.mem_flatMap, kc] at hu
  obtain ⟨x, _, hx⟩ := hu
  simp at hx
  rcases hx with rfl | rfl <;> rfl
theorem pc_at : ∀ (L : Tb) (k : Nat) (h : k < L.length), (pc L)[k * 2]? = some (.int .i64 L[k].1) ∧ (pc L)[k * 2 + 1]? = some (.int .i64 L[k].2)
  | x :: L, 0, _ => by simp [pc_cons]
  | x :: L, k + 1, h => by
    have := pc_at L k (by simpa using h)
    rw [pc_cons]
    simpa [Nat.add_mul, Nat.add_right_comm _ 2] using this
theorem pc_take : ∀ (L : Tb) (k : Nat), pc (L.take k) = (pc L).take (k * 2)
  | [], k => by simp [pc]
  | x :: L, 0 => by simp [pc]
  | x :: L, k + 1 => by rw [List.take_succ_cons, pc_cons, pc_cons, pc_take L k, show (k + 1) * 2 = k * 2 + 1 + 1 by omega]; rfl
theorem pc_drop : ∀ (L : Tb) (k : Nat), pc (L.drop k) = (pc L).drop (k * 2)
  | [], k => by simp [pc]
  | x :: L, 0 => by simp
  | x :: L, k + 1 => by rw [List.drop_succ_cons, pc_cons, pc_drop L k, show (k + 1) * 2 = k * 2 + 1 + 1 by omega]; rfl
theorem pair_info : ∃ i, Try.prog.info? 106 = some i ∧ i.zero = some (.agg #[.int .i64 0, .int .i64 0]) ∧ i.size = 2 ∧ i.bytes = 16 := by
  have h : (Try.prog.info? 106).map (fun i => (i.zero, i.size, i.bytes)) = some (some (.agg #[.int .i64 0, .int .i64 0]), 2, 16) := by kernel_rfl
  cases hq : Try.prog.info? 106 with
  | none => rw [hq] at h; cases h
  | some i =>
    rw [hq] at h
    simp only [Option.map_some, Option.some.injEq, Prod.mk.injEq] at h
    exact ⟨i, rfl, h.1, h.2.1, h.2.2⟩
theorem own_carry {w w' : World} {base : Nat} {v : Value} {S : Nat → Prop} {e : TypeId} {size n : Nat} {xs : List Value} (h : w.ownsRow base e size v n xs) (f : Fr S w w') (hs : ∀ x, v.ownBlock = some x → ¬ S x) : w'.ownsRow base e size v n xs := by
  obtain ⟨h1, h2⟩ := h
  refine ⟨h1, ?_⟩
  rcases h2 with h2 | ⟨g, cap, cur, rfl, hb, hc, rest⟩
  · exact .inl h2
  · exact .inr ⟨g, cap, cur, rfl, hb, by rw [f.block g (Array.getElem?_eq_some_iff.1 hc).1 (hs g rfl)]; exact hc, rest⟩
theorem own_low {w : World} {base base' : Nat} {v : Value} {e : TypeId} {size n : Nat} {xs : List Value} (h : w.ownsRow base e size v n xs) (hb : base' ≤ base) : w.ownsRow base' e size v n xs := by
  obtain ⟨h1, h2⟩ := h
  refine ⟨h1, ?_⟩
  rcases h2 with h2 | ⟨g, cap, cur, rfl, hb', hc, rest⟩
  · exact .inl h2
  · exact .inr ⟨g, cap, cur, rfl, by omega, hc, rest⟩
/-- The document's table lies at block r, its pairs behind v. -/
structure Rtb (w : World) (base r : Nat) (v : Value) (T : Tb) : Prop where
  st : w.heap[r]? = some (.cells #[v] 30 (0, 0))
  row : w.ownsRow base 106 2 v T.length (pc T)
  ne : v.ownBlock ≠ some r
  len : T.length ≤ 5000
  lo : base ≤ r
section
variable {w w' : World} {base r : Nat} {v : Value} {T : Tb}
theorem Rtb.ltr (h : Rtb w base r v T) : r < w.heap.size := (Array.getElem?_eq_some_iff.1 h.st).1
theorem Rtb.carry {S : Nat → Prop} (h : Rtb w base r v T) (f : Fr S w w') (h1 : ¬ S r) (h2 : ∀ x, v.ownBlock = some x → ¬ S x) : Rtb w' base r v T :=
  ⟨by rw [f.block r h.ltr h1]; exact h.st, own_carry h.row f h2, h.ne, h.len, h.lo⟩
theorem Rtb.kept (h : Rtb w base r v T) (f : Fr (fun _ => False) w w') : Rtb w' base r v T := h.carry f id (fun _ _ => id)
theorem Rtb.c0 (h : Rtb w base r v T) : w.cell? ⟨r, 0, none⟩ = some v := by simp [World.cell?, h.st]
theorem Rtb.fz (h : Rtb w base r v T) (k : Nat) : w.frozen? ⟨r, k, none⟩ = false := by simp [World.frozen?, h.st]
/-- What the slice says. -/
theorem Rtb.form (h : Rtb w base r v T) : ∃ ad cap, v = .slice ad T.length cap ∧ T.length ≤ cap ∧ (∀ g, ad = some g → ∃ b, g = ⟨b, 0, none⟩) ∧ (ad = none → T = []) := by
  rcases h.row.2 with ⟨e1, e2⟩ | ⟨g, cap, cur, e1, hb, hc, h3, _⟩
  · exact ⟨none, 0, by rw [e2]; exact e1, by omega, (fun g e => by cases e), fun _ => List.eq_nil_of_length_eq_zero e2⟩
  · exact ⟨_, cap, e1, h3, fun a e => ⟨g, by simpa using e.symm⟩, fun e => by cases e⟩
theorem Rtb.cells (h : Rtb w base r v T) (k : Nat) (hk : k < T.length) : ∃ g cap, v = .slice (some ⟨g, 0, none⟩) T.length cap ∧ w.cell? ⟨g, k * 2, none⟩ = some (.int .i64 T[k].1) ∧ w.cell? ⟨g, k * 2 + 1, none⟩ = some (.int .i64 T[k].2) := by
  rcases h.row.2 with ⟨e1, e2⟩ | ⟨g, cap, cur, e1, hb, hc, h3, _⟩
  · omega
  · obtain ⟨a0, a1⟩ := pc_at T k hk
    have hcell : ∀ j u, (pc T)[j]? = some u → w.cell? ⟨g, j, none⟩ = some u := fun j u hu => by
      have := h.row.cells (g := g) (by rw [e1]; rfl) j u hu
      rwa [add_plain, Nat.zero_add] at this
    exact ⟨g, cap, e1, hcell _ _ a0, hcell _ _ a1⟩
end
/-- The pairs lie where they lay, or in a block that is new. -/
def Fv (w : World) (v v' : Value) : Prop := v' = v ∨ ∀ g, v'.ownBlock = some g → w.heap.size ≤ g
/-- As a thing. -/
def Dt (base q : Nat) (T : Tb) (w : World) (Z : Nat → Prop) : Prop := ∃ v, Rtb w base q v T ∧ (Z q ∧ ∀ g, v.ownBlock = some g → Z g) ∧ ∀ i, Z i → i < w.heap.size
theorem Dt.good (base q : Nat) (T : Tb) : Good (Dt base q T) :=
  ⟨fun ⟨v, h, ⟨h1, h2⟩, h3⟩ f hs => ⟨v, h.carry f (hs _ h1) fun x e => hs _ (h2 x e), ⟨h1, h2⟩, fun i hi => Nat.lt_of_lt_of_le (h3 i hi) f.size⟩,
   fun ⟨v, h, ⟨h1, h2⟩, _⟩ k1 k2 => ⟨v, h, ⟨k1 _ h1, fun g e => k1 _ (h2 g e)⟩, k2⟩⟩
theorem Dt.turned {base q : Nat} {T' : Tb} {w w' : World} {Z : Nat → Prop} {v v' : Value} (h1 : Z q ∧ ∀ g, v.ownBlock = some g → Z g) (h2 : ∀ i, Z i → i < w.heap.size) (h' : Rtb w' base q v' T') (f : Fr (fun k => k = q ∨ v.ownBlock = some k) w w') (hv : Fv w v v') : ∃ Z', Dt base q T' w' Z' ∧ Gw w w' Z Z' := by
  have hlt : ∀ i, (Z i ∨ v'.ownBlock = some i) → i < w'.heap.size := fun i hi => by
    rcases hi with hi | hi
    · exact Nat.lt_of_lt_of_le (h2 i hi) f.size
    · exact (h'.row.lt i hi).2
  refine ⟨fun i => Z i ∨ v'.ownBlock = some i, ⟨v', h', ⟨.inl h1.1, fun g e => .inr e⟩, hlt⟩, ⟨fun _ => .inl, fun i hi => ?_, hlt, f.mono fun i _ e => ?_⟩⟩
  · rcases hi with hi | hi
    · exact .inl hi
    · rcases hv with e | e
      · rw [e] at hi; exact .inl (h1.2 i hi)
      · exact .inr (e i hi)
  · rcases e with rfl | e
    · exact h1.1
    · exact h1.2 i e
end Go.Proofs.Ytcajdbklchjkkaa
