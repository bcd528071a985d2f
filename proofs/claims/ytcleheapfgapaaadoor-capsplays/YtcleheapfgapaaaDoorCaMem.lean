/-
  The document's table of handles in memory.
-/
import Derived.Test.YtcleheapfgapaaaDoorRows
import Derived.Test.YtcleheapfgapaaaDoorCaBase
import Derived.Test.YtcleheapfgapaaaDoorHaRef
import Derived.Deep.RegionLaw
import Derived.Deep.RegionLawGrows
import Derived.Deep.QuietTactic
import Derived.BigQuiet
import Derived.BigRegion
import Derived.Laws.OwnMore
import Derived.OwnWalk
import Derived.LoopTactic
namespace Go.Proofs.YtcleheapfgapaaaDoor
open Go.RowKit

/-- A slot's cells. -/
def kc (T : Int) (x : Sl) : List Value := [.int .i64 T, .int .i64 x.s, .int .i64 x.r, .int .i64 x.n, .int .i64 x.a]
def sc (T : Int) (L : List Sl) : List Value := L.flatMap (kc T)
theorem sc_cons (T : Int) (x : Sl) (L : List Sl) : sc T (x :: L) = .int .i64 T :: .int .i64 x.s :: .int .i64 x.r :: .int .i64 x.n :: .int .i64 x.a :: sc T L := rfl
theorem sc_length (T : Int) : ∀ L : List Sl, (sc T L).length = L.length * 5
  | [] => rfl
  | x :: L => by rw [sc_cons]; simp only [List.length_cons, sc_length T L]; omega
theorem sc_append (T : Int) (l m : List Sl) : sc T (l ++ m) = sc T l ++ sc T m := by simp [sc]
theorem sc_one (T : Int) (L : List Sl) : ∀ u ∈ sc T L, u.oneCell' = true := by
  intro u hu
  simp only [sc, List.mem_flatMap, kc] at hu
  obtain ⟨x, _, hx⟩ := hu
  simp at hx
  rcases hx with rfl | rfl | rfl | rfl | rfl <;> rfl
theorem sc_at (T : Int) : ∀ (L : List Sl) (k : Nat) (h : k < L.length), (sc T L)[k * 5]? = some (.int .i64 T) ∧ (sc T L)[k * 5 + 1]? = some (.int .i64 L[k].s) ∧ (sc T L)[k * 5 + 2]? = some (.int .i64 L[k].r) ∧ (sc T L)[k * 5 + 3]? = some (.int .i64 L[k].n) ∧ (sc T L)[k * 5 + 4]? = some (.int .i64 L[k].a)
  | x :: L, 0, _ => by simp [sc_cons]
  | x :: L, k + 1, h => by
    have := sc_at T L k (by simpa using h)
    rw [sc_cons]
    simpa [Nat.add_mul, Nat.add_right_comm _ 5] using this
theorem sc_take (T : Int) : ∀ (L : List Sl) (k : Nat), sc T (L.take k) = (sc T L).take (k * 5)
  | [], k => by simp [sc]
  | x :: L, 0 => by simp [sc]
  | x :: L, k + 1 => by rw [List.take_succ_cons, sc_cons, sc_cons, sc_take T L k, show (k + 1) * 5 = k * 5 + 1 + 1 + 1 + 1 + 1 by omega]; rfl
theorem sc_drop (T : Int) : ∀ (L : List Sl) (k : Nat), sc T (L.drop k) = (sc T L).drop (k * 5)
  | [], k => by simp [sc]
  | x :: L, 0 => by simp
  | x :: L, k + 1 => by rw [List.drop_succ_cons, sc_cons, sc_drop T L k, show (k + 1) * 5 = k * 5 + 1 + 1 + 1 + 1 + 1 by omega]; rfl
theorem slot_info : ∃ i, Tryd.prog.info? 75 = some i ∧ i.zero = some (.agg #[.int .i64 0, .int .i64 0, .int .i64 0, .int .i64 0, .int .i64 0]) ∧ i.size = 5 ∧ i.bytes = 40 := by
  have h : (Tryd.prog.info? 75).map (fun i => (i.zero, i.size, i.bytes)) = some (some (.agg #[.int .i64 0, .int .i64 0, .int .i64 0, .int .i64 0, .int .i64 0]), 5, 40) := by kernel_rfl
  cases hq : Tryd.prog.info? 75 with
  | none => rw [hq] at h; cases h
  | some i =>
    rw [hq] at h
    simp only [Option.map_some, Option.some.injEq, Prod.mk.injEq] at h
    exact ⟨i, rfl, h.1, h.2.1, h.2.2⟩
theorem own_carry {w w' : World} {base : Nat} {v : Value} {S : Nat → Prop} {e : TypeId} {size n : Nat} {xs : List Value} (h : w.ownsRow base e size v n xs) (f : Fr S w w') (hs : ∀ x, v.ownBlock = some x → ¬ S x) : w'.ownsRow base e size v n xs := by
  obtain ⟨h1, h2⟩ := h
  refine ⟨h1, ?_⟩
  rcases h2 with h2 | ⟨g, cap, cur, rfl, hb, hc, rest⟩
  · exact .inl h2
  · exact .inr ⟨g, cap, cur, rfl, hb, by rw [f.block g (Array.getElem?_eq_some_iff.1 hc).1 (hs g rfl)]; exact hc, rest⟩
theorem own_low {w : World} {base base' : Nat} {v : Value} {e : TypeId} {size n : Nat} {xs : List Value} (h : w.ownsRow base e size v n xs) (hb : base' ≤ base) : w.ownsRow base' e size v n xs := by
  obtain ⟨h1, h2⟩ := h
  refine ⟨h1, ?_⟩
  rcases h2 with h2 | ⟨g, cap, cur, rfl, hb', hc, rest⟩
  · exact .inl h2
  · exact .inr ⟨g, cap, cur, rfl, by omega, hc, rest⟩
/-- In w there lies a table of the document's at block r, its slots behind v. -/
structure Rc (w : World) (base r : Nat) (v : Value) (c : Ct) : Prop where
  st : w.heap[r]? = some (.cells #[.int .i64 c.T, .int .i64 c.nx, v] 46 (0, 0))
  row : w.ownsRow base 75 5 v c.L.length (sc c.T c.L)
  ne : v.ownBlock ≠ some r
  ok : c.Ok
  len : c.L.length ≤ 5000
  lo : base ≤ r
section
variable {w w' : World} {base r : Nat} {v : Value} {c : Ct}
theorem Rc.ltr (h : Rc w base r v c) : r < w.heap.size := (Array.getElem?_eq_some_iff.1 h.st).1
theorem Rc.carry {S : Nat → Prop} (h : Rc w base r v c) (f : Fr S w w') (h1 : ¬ S r) (h2 : ∀ x, v.ownBlock = some x → ¬ S x) : Rc w' base r v c :=
  ⟨by rw [f.block r h.ltr h1]; exact h.st, own_carry h.row f h2, h.ne, h.ok, h.len, h.lo⟩
theorem Rc.kept (h : Rc w base r v c) (f : Fr (fun _ => False) w w') : Rc w' base r v c := h.carry f id (fun _ _ => id)
theorem Rc.c0 (h : Rc w base r v c) : w.cell? ⟨r, 0, none⟩ = some (.int .i64 c.T) := by simp [World.cell?, h.st]
theorem Rc.c1 (h : Rc w base r v c) : w.cell? ⟨r, 1, none⟩ = some (.int .i64 c.nx) := by simp [World.cell?, h.st]
theorem Rc.c2 (h : Rc w base r v c) : w.cell? ⟨r, 2, none⟩ = some v := by simp [World.cell?, h.st]
theorem Rc.fz (h : Rc w base r v c) (k : Nat) : w.frozen? ⟨r, k, none⟩ = false := by simp [World.frozen?, h.st]
/-- What the slice says. -/
theorem Rc.form (h : Rc w base r v c) : ∃ ad cap, v = .slice ad c.L.length cap ∧ c.L.length ≤ cap ∧ (∀ g, ad = some g → ∃ b, g = ⟨b, 0, none⟩) ∧ (ad = none → c.L = []) := by
  rcases h.row.2 with ⟨e1, e2⟩ | ⟨g, cap, cur, e1, hb, hc, h3, _⟩
  · exact ⟨none, 0, by rw [e2]; exact e1, by omega, (fun g e => by cases e), fun _ => List.eq_nil_of_length_eq_zero e2⟩
  · exact ⟨_, cap, e1, h3, fun a e => ⟨g, by simpa using e.symm⟩, fun e => by cases e⟩
theorem Rc.cells (h : Rc w base r v c) (k : Nat) (hk : k < c.L.length) : ∃ g cap, v = .slice (some ⟨g, 0, none⟩) c.L.length cap ∧ w.cell? ⟨g, k * 5, none⟩ = some (.int .i64 c.T) ∧ w.cell? ⟨g, k * 5 + 1, none⟩ = some (.int .i64 c.L[k].s) ∧ w.cell? ⟨g, k * 5 + 2, none⟩ = some (.int .i64 c.L[k].r) ∧ w.cell? ⟨g, k * 5 + 3, none⟩ = some (.int .i64 c.L[k].n) ∧ w.cell? ⟨g, k * 5 + 4, none⟩ = some (.int .i64 c.L[k].a) := by
  rcases h.row.2 with ⟨e1, e2⟩ | ⟨g, cap, cur, e1, hb, hc, h3, _⟩
  · omega
  · obtain ⟨a0, a1, a2, a3, a4⟩ := sc_at c.T c.L k hk
    have hcell : ∀ j u, (sc c.T c.L)[j]? = some u → w.cell? ⟨g, j, none⟩ = some u := fun j u hu => by
      have := h.row.cells (g := g) (by rw [e1]; rfl) j u hu
      rwa [add_plain, Nat.zero_add] at this
    exact ⟨g, cap, e1, hcell _ _ a0, hcell _ _ a1, hcell _ _ a2, hcell _ _ a3, hcell _ _ a4⟩
end
/-- The slots lie where they lay, or in a block that is new. -/
def Fv (w : World) (v v' : Value) : Prop := v' = v ∨ ∀ g, v'.ownBlock = some g → w.heap.size ≤ g
/-- A slot's bits are these just if its key is theirs. -/
theorem bits_un {T : Int} {x : Sl} {h : Int} (hk : KR T x.s x.r x.n) : x.bits T = h ↔ T = unT h ∧ x.s = unS h ∧ x.r = unR h ∧ x.n = unN h := by
  constructor
  · rintro rfl
    obtain ⟨h1, h2, h3, h4, _⟩ := back_un hk
    exact ⟨h1.symm, h2.symm, h3.symm, h4.symm⟩
  · rintro ⟨h1, h2, h3, h4⟩
    by_cases hb : HB h
    · obtain ⟨u1, u2, u3, u4, _⟩ := un_yes hb
      unfold Sl.bits
      rw [h1, h2, h3, h4, u1, u2, u3, u4]
      exact one hb
    · obtain ⟨u1, u2, u3, u4, _⟩ := un_no hb
      unfold KR at hk
      omega
end Go.Proofs.YtcleheapfgapaaaDoor
