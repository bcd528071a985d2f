/-
  What the document's own table does: Swap, Unmap.
  What the document's own table does: Unmap.
-/
import Derived.Test.YtcajdbklchjkkaaTaRefA
namespace Go.Proofs.Ytcajdbklchjkkaa
open Go.RowKit

theorem pc_set2 : ∀ (L : Tb) (i : Nat) (p : Int) (h : i < L.length), (pc L).set (i * 2 + 1) (.int .i64 p) = pc (L.set i (L[i].1, p))
  | x :: L, 0, p, _ => by simp [pc_cons]
  | x :: L, i + 1, p, h => by
    have := pc_set2 L i p (by simpa using h)
    rw [pc_cons, show (i + 1) * 2 + 1 = (i * 2 + 1) + 1 + 1 by omega, List.set_cons_succ, List.set_cons_succ, this]
    rfl
/-- Swap, behind so many rounds. -/
def tbWm (T : Tb) (v p : Int) (m : Nat) : Tb := tbW (T.take m) v p ++ T.drop m
theorem tbWm_len (T : Tb) (v p : Int) (m : Nat) : (tbWm T v p m).length = T.length := by unfold tbWm tbW; simp; omega
theorem tbWm_at {T : Tb} {v p : Int} {m : Nat} (h : m < T.length) (h2 : m < (tbWm T v p m).length) : (tbWm T v p m)[m] = T[m] := by
  have hl : (tbW (T.take m) v p).length = m := by unfold tbW; simp; omega
  have e : tbWm T v p m = tbW (T.take m) v p ++ T.drop m := rfl
  rw [List.getElem_of_eq e, List.getElem_append_right (by omega)]
  simp [hl]
theorem tbWm_no {T : Tb} {v p : Int} {m : Nat} (h : m < T.length) (hx : T[m].1 ≠ v) : tbWm T v p (m + 1) = tbWm T v p m := by
  unfold tbWm
  rw [List.take_succ_eq_append_getElem h]
  unfold tbW
  rw [List.map_append, List.drop_eq_getElem_cons h]
  simp [hx]
theorem tbWm_yes {T : Tb} {v p : Int} {m : Nat} (h : m < T.length) (hx : T[m].1 = v) : tbWm T v p (m + 1) = (tbWm T v p m).set m (T[m].1, p) := by
  have hl : (tbW (T.take m) v p).length = m := by unfold tbW; simp; omega
  unfold tbWm
  rw [List.set_append_right _ _ (by omega), hl, Nat.sub_self, List.drop_eq_getElem_cons h, List.set_cons_zero, List.take_succ_eq_append_getElem h]
  unfold tbW
  rw [List.map_append]
  simp [hx]
theorem tbWm_all (T : Tb) (v p : Int) : tbWm T v p T.length = tbW T v p := by unfold tbWm; simp
theorem tbU_none {T : Tb} {v : Int} (h : ∀ y ∈ T, y.1 ≠ v) : tbU T v = T := List.filter_eq_self.2 fun x hx => by simpa using h x hx
theorem tbU_snoc (L : Tb) (x : Int × Int) (v : Int) : tbU (L ++ [x]) v = if x.1 = v then tbU L v else tbU L v ++ [x] := by
  unfold tbU
  rw [List.filter_append]
  by_cases e : x.1 = v
  · simp [e]
  · simp [e]
section
variable {w : World} {base q : Nat} {v : Value} {T : Tb}
theorem Rtb.own_lt (h : Rtb w base q v T) {g : Nat} (e : v.ownBlock = some g) : g < w.heap.size := (h.row.lt g e).2
/-- A pair's page is stored. -/
theorem Rtb.put {g n cap : Nat} (h : Rtb w base q (.slice (some ⟨g, 0, none⟩) n cap) T) (i : Nat) (hi : i < T.length) (p : Int) : Rtb (w.setCell ⟨g, i * 2 + 1, none⟩ (.int .i64 p)) base q (.slice (some ⟨g, 0, none⟩) n cap) (T.set i (T[i].1, p)) := by
  have hg : g ≠ q := fun e => h.ne (by rw [e]; rfl)
  have hn : n = T.length := by
    rcases h.row.2 with ⟨e1, _⟩ | ⟨g', cap', cur, e1, _⟩
    · cases e1
    · simp only [Value.slice.injEq] at e1; exact e1.2.1
  subst hn
  refine ⟨?_, ?_, h.ne, by rw [List.length_set]; exact h.len, h.lo⟩
  · have f : Fr (fun k => k = g) w (w.setCell ⟨g, i * 2 + 1, none⟩ (.int .i64 p)) := Fr.setCell (S := fun k => k = g) (p := ⟨g, i * 2 + 1, none⟩) (Fr.refl _ _) rfl _
    rw [f.block q h.ltr (fun e => hg e.symm)]
    exact h.st
  · rw [← pc_set2 T i p hi, List.length_set]
    exact (h.row.stored _ _).1
end
end Go.Proofs.Ytcajdbklchjkkaa

namespace Go.Proofs.Ytcajdbklchjkkaa
open Go.RowKit

/-- A row of pairs that grows, beside a table: all that turns is new. -/
structure Gr2 (w wr : World) (y : Value) (N : Tb) : Prop where
  row : wr.ownsRow w.heap.size 106 2 y N.length (pc N)
  fr : Fr (fun k => w.heap.size ≤ k) w wr
theorem Gr2.start (w : World) {w1 : World} (f : Fr (fun _ => False) w w1) : Gr2 w w1 (.slice none 0 0) [] := ⟨⟨rfl, .inl ⟨rfl, rfl⟩⟩, f.mono fun _ _ e => e.elim⟩
theorem Gr2.le {w wr : World} {y : Value} {N : Tb} (h : Gr2 w wr y N) : w.heap.size ≤ wr.heap.size := h.fr.size
theorem Gr2.rt {w wr : World} {y : Value} {N : Tb} (h : Gr2 w wr y N) {base q : Nat} {v : Value} {T : Tb} (k : Rtb w base q v T) : Rtb wr base q v T := k.carry h.fr (by have := k.ltr; omega) fun x e => by have := k.own_lt e; omega
theorem Gr2.form {w wr : World} {y : Value} {N : Tb} (h : Gr2 w wr y N) : ∃ ad cap, y = .slice ad N.length cap := by
  rcases h.row.2 with ⟨e1, e2⟩ | ⟨g, cap, cur, e1, _⟩
  · exact ⟨none, 0, by rw [e2]; exact e1⟩
  · exact ⟨_, cap, e1⟩
theorem Gr2.next {w wr w' : World} {y : Value} {N : Tb} (h : Gr2 w wr y N) {x : Int × Int} {ob : Obj} {g cap n : Nat} (ho : w'.ownsRow w.heap.size 106 2 (.slice (some ⟨g, 0, none⟩) n cap) (N ++ [x]).length (pc (N ++ [x]))) (f : Fr (fun k => y.ownBlock = some k) (wr.alloc ob) w') : Gr2 w w' (.slice (some ⟨g, 0, none⟩) n cap) (N ++ [x]) :=
  ⟨ho, Fr.trans' (h.fr.alloc ob) f fun i _ e => (h.row.lt i e).1⟩
section
variable {w : World} {base q : Nat} {v : Value} {T : Tb}
/-- The row takes the table's place. -/
theorem Rtb.laid {w wr : World} {y : Value} {N : Tb} (h : Gr2 w wr y N) (k : Rtb w base q v T) (hN : N.length ≤ 5000) : Rtb (wr.setCell ⟨q, 0, none⟩ y) base q y N ∧ Fr (fun k => k = q ∨ v.ownBlock = some k) w (wr.setCell ⟨q, 0, none⟩ y) ∧ Fv w v y := by
  have hq := k.ltr
  have hlo := k.lo
  have hst := (h.rt k).st
  have hne : y.ownBlock ≠ some q := fun e => by have := (h.row.lt q e).1; omega
  refine ⟨⟨?_, ?_, hne, hN, hlo⟩, ?_, .inr fun g e => (h.row.lt g e).1⟩
  · rw [heap_setCell_same wr q 0 _ _ _ hst]; rfl
  · exact own_carry (S := fun x => x = q) (own_low h.row (by omega)) (Fr.setCell (S := fun x => x = q) (p := ⟨q, 0, none⟩) (Fr.refl _ _) rfl _) fun x hx e => hne (by rw [← e]; exact hx)
  · exact Fr.trans' ((Fr.new h.fr).mono fun _ _ e => e.elim) (Fr.setCell (S := fun x => x = q) (p := ⟨q, 0, none⟩) (Fr.refl _ _) rfl _) fun i _ e => .inl e
end
end Go.Proofs.Ytcajdbklchjkkaa
