/-
  A copy of a list: 'append([]int{}, l...)', of any length.
-/
import Derived.Test.YtcekpaicccmhkaaDoorCoMem
import Derived.BigFrame
namespace Go.Proofs.YtcekpaicccmhkaaDoor
open Go.RowKit

theorem Tryd.infoInt : (Tryd.prog.info? 3).map (fun i => (i.zero, i.size, i.bytes)) = some (some (.int .i64 0), 1, 8) := by kernel_rfl
def ic (l : List Int) : List Value := l.map fun x => Value.int .i64 x
theorem ic_length (l : List Int) : (ic l).length = l.length := by simp [ic]
theorem ic_one (l : List Int) : ∀ u ∈ ic l, u.oneCell' = true := by
  intro v hv; simp only [ic, List.mem_map] at hv; obtain ⟨x, _, rfl⟩ := hv; rfl
theorem run_append_zero {P : Program} {w : World} (t ty e : TypeId) (i : TypeInfo) (ht : P.underlying t = some (.slice e)) (hi : P.info? e = some i) (g n cap : Nat) (hn : n ≤ cap) (ad : Option Addr) (c : Nat) :
    (Builtin.append_ #[t, t] ty #[.slice (some ⟨g, 0, none⟩) n cap, .slice ad 0 c]).run P w = .ok (.slice (some ⟨g, 0, none⟩) n cap) w := by
  cases ad <;> simp [Builtin.append_, run_underlying ht, sizeOf, typeInfo, hi, Builtin.lenOf, Builtin.firstCells, loadCells, loadCellsFrom, storeCells, hn]
theorem nums_row {w : World} {base g cap : Nat} {l : List Int} (h : w.ownsRow base 3 1 (.slice (some ⟨g, 0, none⟩) l.length cap) l.length (ic l)) : NumsAt w (some ⟨g, 0, none⟩) l := fun i hi => by
  refine ⟨g, 0, rfl, (h.lt g rfl).2, ?_⟩
  have := h.cells (g := g) rfl i (.int .i64 l[i]) (by simp [ic, hi])
  rw [add_plain] at this
  exact this
/-- What a copy of a list onto a fresh slice gives and leaves. -/
theorem run_clone {w : World} (ty : TypeId) {B : Nat} (hB : w.heap[B]? = some (.cells #[] 3 (0, 0))) {ad : Option Addr} {l : List Int} (c : Nat) (hl : NumsAt w ad l) (hm : l.length ≤ 100000) :
    ∃ g cap w', (Builtin.append_ #[35, 35] ty #[.slice (some ⟨B, 0, none⟩) 0 0, .slice ad l.length c]).run Tryd.prog w = .ok (.slice (some ⟨g, 0, none⟩) l.length cap) w' ∧ NumsAt w' (some ⟨g, 0, none⟩) l ∧ Fr (fun i => i = B) w w' ∧ (g = B ∨ w.heap.size ≤ g) := by
  obtain ⟨i0, hi, hz0, hz1, hz2⟩ := info_parts Tryd.infoInt
  by_cases h0 : l.length = 0
  · obtain rfl : l = [] := List.eq_nil_of_length_eq_zero h0
    exact ⟨B, 0, w, run_append_zero _ _ _ i0 Tryd.underlying35 hi B 0 0 (Nat.le_refl _) ad c, fun i hi => by simp at hi, Fr.refl _ _, .inl rfl⟩
  · obtain ⟨b, off, rfl, hb, _⟩ := hl 0 (by omega)
    have hlt : B < w.heap.size := (Array.getElem?_eq_some_iff.1 hB).1
    have hown : w.ownsRow B 3 1 (.slice (some ⟨B, 0, none⟩) 0 0) 0 [] := ⟨rfl, .inr ⟨B, 0, #[], rfl, Nat.le_refl _, hB, Nat.le_refl _, by unfold maxLen; omega, rfl, rfl⟩⟩
    obtain ⟨g, cap, w', hr, ho, hg, hs⟩ := run_append_sep (P := Tryd.prog) w B 35 ty 3 i0 (.int .i64 0) 1 8 Tryd.underlying35 hi hz0 hz1 hz2 rfl (by decide) (.slice (some ⟨B, 0, none⟩) 0 0) 0 [] hown ⟨b, off, none⟩ l.length c (by omega) (ic l) (by rw [ic_length]; omega) (fun j u hu => by
      have hj : j < l.length := by have := (List.getElem?_eq_some_iff.1 hu).1; rwa [ic_length] at this
      obtain ⟨b', off', h1, _, h2⟩ := hl j hj
      simp only [Option.some.injEq, Addr.mk.injEq, and_true] at h1
      rw [add_plain, h1.1, h1.2, h2, ← hu]
      simp [ic, hj]) (ic_one l) (by unfold maxLen; omega) (by omega) (by omega)
    simp only [Nat.zero_add, List.nil_append] at hr ho
    refine ⟨g, cap, w', hr, nums_row ho, (Fr.refl _ _).grown hg (fun k e => .inl ?_), ?_⟩
    · simpa [Value.ownBlock] using e.symm
    · rcases hs with e | e
      · exact .inl (by simpa [Value.ownBlock] using e.symm)
      · exact .inr (by omega)
theorem wp_clone {w : World} {o : Oper} {a : Act} {K : Act → World → Prop} {Q : Exit → Act → World → Prop} (s x : Operand)
    (ho : o.op = .call { callee := .builtin .append, args := #[s, x], argTypes := #[35, 35] })
    {B : Nat} (hB : w.heap[B]? = some (.cells #[] 3 (0, 0))) {ad : Option Addr} {l : List Int} (c : Nat) (hs : a.eval s = .slice (some ⟨B, 0, none⟩) 0 0) (hx : a.eval x = .slice ad l.length c) (hl : NumsAt w ad l) (hm : l.length ≤ 100000)
    (h : ∀ g cap w', NumsAt w' (some ⟨g, 0, none⟩) l → Fr (fun i => i = B) w w' → (g = B ∨ w.heap.size ≤ g) → K (a.put o.dst (.slice (some ⟨g, 0, none⟩) l.length cap)) w') : o.wp Tryd.prog a w K Q := by
  obtain ⟨g, cap, w', hr, h2, h3, h4⟩ := run_clone o.type hB c hl hm
  unfold Oper.wp execOp
  simp only [ho, resolve, invoke, builtin, Sem.run_bind, Sem.run_pure, Result.andThen_ok, List.map_toArray, List.map_cons, List.map_nil, hs, hx, hr]
  exact h g cap w' h2 h3 h4
theorem wpList_clone {w : World} {ops : Array Oper} {rest : List Oper} {o : Oper} {a : Act} {Q : Exit → Act → World → Prop} (hw : Region.wanted o (yielded ops a.tmps) = true) (s x : Operand)
    (ho : o.op = .call { callee := .builtin .append, args := #[s, x], argTypes := #[35, 35] })
    {B : Nat} (hB : w.heap[B]? = some (.cells #[] 3 (0, 0))) {ad : Option Addr} {l : List Int} (c : Nat) (hs : a.eval s = .slice (some ⟨B, 0, none⟩) 0 0) (hx : a.eval x = .slice ad l.length c) (hl : NumsAt w ad l) (hm : l.length ≤ 100000)
    (h : ∀ g cap w', NumsAt w' (some ⟨g, 0, none⟩) l → Fr (fun i => i = B) w w' → (g = B ∨ w.heap.size ≤ g) → wpList Tryd.prog ops Q rest (a.put o.dst (.slice (some ⟨g, 0, none⟩) l.length cap)) w') : wpList Tryd.prog ops Q (o :: rest) a w :=
  Go.BigFrame.wpList_want hw fun _ hK => wp_clone s x ho hB c hs hx hl hm fun g cap w' h1 h2 h3 => hK _ _ (h g cap w' h1 h2 h3)
end Go.Proofs.YtcekpaicccmhkaaDoor
