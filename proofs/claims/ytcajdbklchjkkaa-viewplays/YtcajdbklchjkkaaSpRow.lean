/-
  A row of spans that grows.
-/
import Derived.Test.YtcajdbklchjkkaaTaPcs
import Derived.Test.YtcajdbklchjkkaaLists2
namespace Go.Proofs.Ytcajdbklchjkkaa
open Go.RowKit

theorem own_kept {w w' : World} {base : Nat} {v : Value} {S : Nat → Prop} {e : TypeId} {size n : Nat} {xs : List Value} (h : w.ownsRow base e size v n xs) (f : Fr S w w') (hs : ∀ x, v.ownBlock = some x → ¬ S x) : w'.ownsRow base e size v n xs := by
  obtain ⟨h1, h2⟩ := h
  refine ⟨h1, ?_⟩
  rcases h2 with h2 | ⟨g, cap, cur, rfl, hb, hc, rest⟩
  · exact .inl h2
  · exact .inr ⟨g, cap, cur, rfl, hb, by rw [f.block g (Array.getElem?_eq_some_iff.1 hc).1 (hs g rfl)]; exact hc, rest⟩
/-- Spans' cells. -/
def qk (x : Sq) : List Value := [.int .i64 x.1, .int .i64 x.2.1, .bool x.2.2]
def qc (L : List Sq) : List Value := L.flatMap qk
theorem qc_cons (x : Sq) (L : List Sq) : qc (x :: L) = .int .i64 x.1 :: .int .i64 x.2.1 :: .bool x.2.2 :: qc L := rfl
theorem qc_length : ∀ L : List Sq, (qc L).length = L.length * 3
  | [] => rfl
  | x :: L => by rw [qc_cons]; simp only [List.length_cons, qc_length L]; omega
theorem qc_append (l m : List Sq) : qc (l ++ m) = qc l ++ qc m := by simp [qc]
theorem qc_one (L : List Sq) : ∀ u ∈ qc L, u.oneCell' = true := by
  intro u hu
  simp only [qc, List.mem_flatMap, qk] at hu
  obtain ⟨x, _, hx⟩ := hu
  simp at hx
  rcases hx with rfl | rfl | rfl <;> rfl
theorem qc_at : ∀ (L : List Sq) (k : Nat) (h : k < L.length), (qc L)[k * 3]? = some (.int .i64 L[k].1) ∧ (qc L)[k * 3 + 1]? = some (.int .i64 L[k].2.1) ∧ (qc L)[k * 3 + 2]? = some (.bool L[k].2.2)
  | x :: L, 0, _ => by simp [qc_cons]
  | x :: L, k + 1, h => by
    have := qc_at L k (by simpa using h)
    rw [qc_cons]
    simpa [Nat.add_mul, Nat.add_right_comm _ 3] using this
theorem qc_set (L : List Sq) (s : Sq) (n : Int) : (qc (L ++ [s])).set (L.length * 3 + 1) (.int .i64 n) = qc (L ++ [(s.1, n, s.2.2)]) := by
  rw [qc_append, qc_append, ← qc_length L, List.set_append_right _ _ (by omega), show (qc L).length + 1 - (qc L).length = 1 by omega]
  rfl
theorem span_info : ∃ i, Try.prog.info? 65 = some i ∧ i.zero = some (.agg #[.int .i64 0, .int .i64 0, .bool false]) ∧ i.size = 3 ∧ i.bytes = 24 := by
  have h : (Try.prog.info? 65).map (fun i => (i.zero, i.size, i.bytes)) = some (some (.agg #[.int .i64 0, .int .i64 0, .bool false]), 3, 24) := by kernel_rfl
  cases hq : Try.prog.info? 65 with
  | none => rw [hq] at h; cases h
  | some i =>
    rw [hq] at h
    simp only [Option.map_some, Option.some.injEq, Prod.mk.injEq] at h
    exact ⟨i, rfl, h.1, h.2.1, h.2.2⟩
/-- A row of spans that grows: all that turns is new. -/
structure Gr3 (w wr : World) (y : Value) (L : List Sq) : Prop where
  row : wr.ownsRow w.heap.size 65 3 y L.length (qc L)
  fr : Fr (fun k => w.heap.size ≤ k) w wr
section
variable {w wr : World} {y : Value} {L : List Sq}
theorem Gr3.start (w : World) : Gr3 w w (.slice none 0 0) [] := ⟨⟨rfl, .inl ⟨rfl, rfl⟩⟩, Fr.refl _ _⟩
theorem Gr3.le (h : Gr3 w wr y L) : w.heap.size ≤ wr.heap.size := h.fr.size
theorem Gr3.kept {w' : World} (h : Gr3 w wr y L) (f : Fr (fun _ => False) wr w') : Gr3 w w' y L := ⟨own_kept h.row f fun _ _ => id, Fr.trans' h.fr f fun _ _ e => e.elim⟩
theorem Gr3.form (h : Gr3 w wr y L) : ∃ ad cap, y = .slice ad L.length cap := by
  rcases h.row.2 with ⟨e1, e2⟩ | ⟨g, cap, cur, e1, _⟩
  · exact ⟨none, 0, by rw [e2]; exact e1⟩
  · exact ⟨_, cap, e1⟩
theorem Gr3.spans {ad : Option Addr} {n cap : Nat} (h : Gr3 w wr (.slice ad n cap) L) : SpAt wr ad L ∧ ∀ b off, ad = some ⟨b, off, none⟩ → 0 < L.length → w.heap.size ≤ b := by
  refine ⟨fun i hi => ?_, fun b off e h0 => ?_⟩
  · rcases h.row.2 with ⟨e1, e2⟩ | ⟨g, cap', cur, e1, hb, hc, _⟩
    · omega
    · simp only [Value.slice.injEq] at e1
      obtain ⟨rfl, _, _⟩ := e1
      obtain ⟨a0, a1, a2⟩ := qc_at L i hi
      have hcell : ∀ j u, (qc L)[j]? = some u → wr.cell? ⟨g, j, none⟩ = some u := fun j u hu => by
        have := h.row.cells (g := g) rfl j u hu
        rwa [add_plain, Nat.zero_add] at this
      refine ⟨g, 0, rfl, (Array.getElem?_eq_some_iff.1 hc).1, ?_, ?_, ?_⟩
      · rw [Nat.zero_add]; exact hcell _ _ a0
      · rw [Nat.zero_add]; exact hcell _ _ a1
      · rw [Nat.zero_add]; exact hcell _ _ a2
  · have := h.row.lt b (by rw [e]; rfl)
    exact this.1
/-- The last span's number of bytes. -/
theorem Gr3.last {s : Sq} (h : Gr3 w wr y (L ++ [s])) : ∃ g cap, y = .slice (some ⟨g, 0, none⟩) (L.length + 1) cap ∧ wr.cell? ⟨g, L.length * 3 + 1, none⟩ = some (.int .i64 s.2.1) ∧ wr.frozen? ⟨g, L.length * 3 + 1, none⟩ = false ∧ ∀ n : Int, Gr3 w (wr.setCell ⟨g, L.length * 3 + 1, none⟩ (.int .i64 n)) y (L ++ [(s.1, n, s.2.2)]) := by
  rcases h.row.2 with ⟨e1, e2⟩ | ⟨g, cap, cur, e1, hb, hc, _⟩
  · simp at e2
  · have hlt := h.row.lt g (by rw [e1]; rfl)
    have a1 := (qc_at (L ++ [s]) L.length (by simp)).2.1
    simp only [List.getElem_concat_length] at a1
    have hr := h.row
    rw [e1] at hr
    refine ⟨g, cap, by rw [e1, List.length_append]; rfl, ?_, by simp [World.frozen?, hc], fun n => ⟨?_, ?_⟩⟩
    · have := hr.cells (g := g) rfl _ _ a1
      rwa [add_plain, Nat.zero_add] at this
    · rw [← qc_set, e1]
      have := (hr.stored (L.length * 3 + 1) (.int .i64 n)).1
      rw [List.length_append] at this
      rw [List.length_append, List.length_append]
      exact this
    · exact Fr.setCell (p := ⟨g, L.length * 3 + 1, none⟩) h.fr hlt.1 _
end
/-- One span is put behind a row of the call's own. -/
theorem push3 {w wr : World} {ops : Array Oper} {rest : List Oper} {o : Oper} {a : Act} {Q : Exit → Act → World → Prop} {y : Value} {L : List Sq} {x : Sq} (hgd : o.guard = none) (s t : Operand)
    (ho : o.op = .call { callee := .builtin .append, args := #[s, t], argTypes := #[45, 45] })
    (hG : Gr3 w wr y L) (hs : a.eval s = y) (ht : a.eval t = .slice (some ⟨wr.heap.size, 0, none⟩) 1 1) (hl : L.length < 100000)
    (h : ∀ w' y', Gr3 w w' y' (L ++ [x]) → wpList Try.prog ops Q rest (a.put o.dst y') w') : wpList Try.prog ops Q (o :: rest) a (wr.alloc (.cells #[.int .i64 x.1, .int .i64 x.2.1, .bool x.2.2] 65)) := by
  obtain ⟨i0, hi, hz0, hz1, hz2⟩ := span_info
  have hbase := hG.le
  refine wpList_append_sep hgd s t 45 ho w.heap.size 65 i0 _ 3 24 Try.underlying45 hi hz0 hz1 hz2 rfl (by decide) y L.length (qc L) hs (hG.row.alloc _) ⟨wr.heap.size, 0, none⟩ 1 1 (by decide) (qc [x]) ht rfl ?_ (qc_one [x]) (by unfold maxLen; omega) (by omega) (by simp; omega) ?_
  · intro j u hj
    rw [add_plain, Nat.zero_add]
    have e : qc [x] = [.int .i64 x.1, .int .i64 x.2.1, .bool x.2.2] := rfl
    rw [e] at hj
    simp only [World.cell?, heap_alloc_new]
    simpa using hj
  · intro g cap w' hown hg _
    refine h w' _ ⟨?_, ?_⟩
    · rw [qc_append, List.length_append]; exact hown
    · exact (hG.fr.alloc _).grown hg fun k e => .inl (hG.row.lt k e).1
/-- .. and no other block turns. -/
theorem push3g {w wr : World} {ops : Array Oper} {rest : List Oper} {o : Oper} {a : Act} {Q : Exit → Act → World → Prop} {y : Value} {L : List Sq} {x : Sq} (hgd : o.guard = none) (s t : Operand)
    (ho : o.op = .call { callee := .builtin .append, args := #[s, t], argTypes := #[45, 45] })
    (hG : Gr3 w wr y L) (hs : a.eval s = y) (ht : a.eval t = .slice (some ⟨wr.heap.size, 0, none⟩) 1 1) (hl : L.length < 100000)
    (h : ∀ w' y', Gr3 w w' y' (L ++ [x]) → Fr (fun k => y.ownBlock = some k) wr w' → wpList Try.prog ops Q rest (a.put o.dst y') w') : wpList Try.prog ops Q (o :: rest) a (wr.alloc (.cells #[.int .i64 x.1, .int .i64 x.2.1, .bool x.2.2] 65)) := by
  obtain ⟨i0, hi, hz0, hz1, hz2⟩ := span_info
  have hbase := hG.le
  refine wpList_append_sep hgd s t 45 ho w.heap.size 65 i0 _ 3 24 Try.underlying45 hi hz0 hz1 hz2 rfl (by decide) y L.length (qc L) hs (hG.row.alloc _) ⟨wr.heap.size, 0, none⟩ 1 1 (by decide) (qc [x]) ht rfl ?_ (qc_one [x]) (by unfold maxLen; omega) (by omega) (by simp; omega) ?_
  · intro j u hj
    rw [add_plain, Nat.zero_add]
    have e : qc [x] = [.int .i64 x.1, .int .i64 x.2.1, .bool x.2.2] := rfl
    rw [e] at hj
    simp only [World.cell?, heap_alloc_new]
    simpa using hj
  · intro g cap w' hown hg _
    refine h w' _ ⟨?_, ?_⟩ ?_
    · rw [qc_append, List.length_append]; exact hown
    · exact (hG.fr.alloc _).grown hg fun k e => .inl (hG.row.lt k e).1
    · exact ((Fr.refl _ wr).alloc _).grown hg fun k e => .inl e
end Go.Proofs.Ytcajdbklchjkkaa
