/-
  Blocks appended to blocks: one more, or some, or none; in a plain region and in one that draws its order.
-/
import Derived.Test.YtcfeeeloceeicaaDoorDmEs
namespace Go.Proofs.YtcfeeeloceeicaaDoor
open Go.RowKit

theorem infoBlock : (Tryd.prog.info? 43).map (fun i => (i.zero, i.size, i.bytes)) = some (some (.agg #[.int .i64 0, .int .i64 0]), 2, 16) := by kernel_rfl
theorem info_block : ∃ i, Tryd.prog.info? 43 = some i ∧ i.zero = some (.agg #[.int .i64 0, .int .i64 0]) ∧ i.size = 2 ∧ i.bytes = 16 := by
  have h := infoBlock
  cases hq : Tryd.prog.info? 43 with
  | none => rw [hq] at h; cases h
  | some i =>
    rw [hq] at h
    simp only [Option.map_some, Option.some.injEq, Prod.mk.injEq] at h
    exact ⟨i, rfl, h.1, h.2.1, h.2.2⟩
theorem run_append_zero {P : Program} {w : World} (t ty e : TypeId) (i : TypeInfo) (ht : P.underlying t = some (.slice e)) (hi : P.info? e = some i) (g n cap : Nat) (hn : n ≤ cap) (ad : Addr) (c : Nat) :
    (Builtin.append_ #[t, t] ty #[.slice (some ⟨g, 0, none⟩) n cap, .slice (some ad) 0 c]).run P w = .ok (.slice (some ⟨g, 0, none⟩) n cap) w := by
  simp [Builtin.append_, run_underlying ht, sizeOf, typeInfo, hi, Builtin.lenOf, Builtin.firstCells, loadCells, loadCellsFrom, storeCells, hn]
/-- What an append of blocks to blocks gives and leaves. -/
theorem run_tapp {w : World} {base : Nat} (ty : TypeId) {tv : Value} {T : List (Int × Int)} (hown : w.ownsRow base 43 2 tv T.length (bcs T)) (T2 : List (Int × Int)) (ad : Addr) (c : Nat)
    (hnews : ∀ j u, (bcs T2)[j]? = some u → w.cell? (ad.add j) = some u) (hnil : (∃ g n cap, tv = .slice (some ⟨g, 0, none⟩) n cap) ∨ 0 < T2.length) (hlen : T.length + T2.length ≤ 100000) (hbase : base ≤ w.heap.size) :
    ∃ g cap w', (Builtin.append_ #[39, 39] ty #[tv, .slice (some ad) T2.length c]).run Tryd.prog w = .ok (.slice (some ⟨g, 0, none⟩) (T.length + T2.length) cap) w' ∧
      w'.ownsRow base 43 2 (.slice (some ⟨g, 0, none⟩) (T.length + T2.length) cap) (T ++ T2).length (bcs (T ++ T2)) ∧ Fr (fun k => tv.ownBlock = some k) w w' ∧ (tv.ownBlock = some g ∨ w.heap.size ≤ g) := by
  obtain ⟨i0, hi, hz0, hz1, hz2⟩ := info_block
  by_cases h0 : T2.length = 0
  · obtain rfl : T2 = [] := List.eq_nil_of_length_eq_zero h0
    obtain ⟨g, n, cap, rfl⟩ : ∃ g n cap, tv = .slice (some ⟨g, 0, none⟩) n cap := by
      rcases hnil with h | h
      · exact h
      · simp at h
    have hn : n = T.length ∧ n ≤ cap := by
      rcases hown.2 with ⟨h1, _⟩ | ⟨g', cap', cur, h1, _, _, h3, _⟩
      · cases h1
      · simp only [Value.slice.injEq] at h1
        obtain ⟨_, rfl, rfl⟩ := h1
        exact ⟨rfl, h3⟩
    obtain ⟨rfl, hc⟩ := hn
    refine ⟨g, cap, w, run_append_zero _ _ _ i0 Tryd.underlying39 hi g _ cap hc ad c, ?_, Fr.refl _ _, .inl rfl⟩
    simpa using hown
  · obtain ⟨g, cap, w', hr, ho, hg, hs⟩ := run_append_sep (P := Tryd.prog) w base 39 ty 43 i0 (.agg #[.int .i64 0, .int .i64 0]) 2 16 Tryd.underlying39 hi hz0 hz1 hz2 rfl (by decide) tv T.length (bcs T) hown ad T2.length c (by omega) (bcs T2) (bcs_length T2) hnews (bcs_one T2) (by unfold maxLen; omega) (by omega) hbase
    refine ⟨g, cap, w', hr, ?_, (Fr.refl _ _).grown hg (fun k e => .inl e), ?_⟩
    · rw [bcs_append, List.length_append]; exact ho
    · rcases hs with e | e
      · exact .inl e
      · exact .inr (by omega)
section
variable {w : World} {base : Nat} {tv : Value} {T : List (Int × Int)}
theorem wp_tapp {o : Oper} {a : Act} {K : Act → World → Prop} {Q : Exit → Act → World → Prop} (s x : Operand)
    (ho : o.op = .call { callee := .builtin .append, args := #[s, x], argTypes := #[39, 39] })
    (hown : w.ownsRow base 43 2 tv T.length (bcs T)) (T2 : List (Int × Int)) (ad : Addr) (c : Nat) (hs : a.eval s = tv) (hx : a.eval x = .slice (some ad) T2.length c)
    (hnews : ∀ j u, (bcs T2)[j]? = some u → w.cell? (ad.add j) = some u) (hnil : (∃ g n cap, tv = .slice (some ⟨g, 0, none⟩) n cap) ∨ 0 < T2.length) (hlen : T.length + T2.length ≤ 100000) (hbase : base ≤ w.heap.size)
    (h : ∀ g cap w', w'.ownsRow base 43 2 (.slice (some ⟨g, 0, none⟩) (T.length + T2.length) cap) (T ++ T2).length (bcs (T ++ T2)) → Fr (fun k => tv.ownBlock = some k) w w' → (tv.ownBlock = some g ∨ w.heap.size ≤ g) → K (a.put o.dst (.slice (some ⟨g, 0, none⟩) (T.length + T2.length) cap)) w') : o.wp Tryd.prog a w K Q := by
  obtain ⟨g, cap, w', hr, h2, h3, h4⟩ := run_tapp o.type hown T2 ad c hnews hnil hlen hbase
  unfold Oper.wp execOp
  simp only [ho, resolve, invoke, builtin, Sem.run_bind, Sem.run_pure, Result.andThen_ok, List.map_toArray, List.map_cons, List.map_nil, hs, hx, hr]
  exact h g cap w' h2 h3 h4
theorem wpList_tapp {ops : Array Oper} {rest : List Oper} {o : Oper} {a : Act} {Q : Exit → Act → World → Prop} (hgd : o.guard = none) (s x : Operand)
    (ho : o.op = .call { callee := .builtin .append, args := #[s, x], argTypes := #[39, 39] })
    (hown : w.ownsRow base 43 2 tv T.length (bcs T)) (T2 : List (Int × Int)) (ad : Addr) (c : Nat) (hs : a.eval s = tv) (hx : a.eval x = .slice (some ad) T2.length c)
    (hnews : ∀ j u, (bcs T2)[j]? = some u → w.cell? (ad.add j) = some u) (hnil : (∃ g n cap, tv = .slice (some ⟨g, 0, none⟩) n cap) ∨ 0 < T2.length) (hlen : T.length + T2.length ≤ 100000) (hbase : base ≤ w.heap.size)
    (h : ∀ g cap w', w'.ownsRow base 43 2 (.slice (some ⟨g, 0, none⟩) (T.length + T2.length) cap) (T ++ T2).length (bcs (T ++ T2)) → Fr (fun k => tv.ownBlock = some k) w w' → (tv.ownBlock = some g ∨ w.heap.size ≤ g) → wpList Tryd.prog ops Q rest (a.put o.dst (.slice (some ⟨g, 0, none⟩) (T.length + T2.length) cap)) w') : wpList Tryd.prog ops Q (o :: rest) a w :=
  wpList_plain hgd fun _ hK => wp_tapp s x ho hown T2 ad c hs hx hnews hnil hlen hbase fun g cap w' h2 h3 h4 => hK _ _ (h g cap w' h2 h3 h4)
theorem step_tapp {ops : Array Oper} {o : Oper} {a : Act} {K : Act → World → Prop} {Q : Exit → Act → World → Prop} {E : Prop} (hgd : o.guard = none) (s x : Operand)
    (ho : o.op = .call { callee := .builtin .append, args := #[s, x], argTypes := #[39, 39] })
    (hown : w.ownsRow base 43 2 tv T.length (bcs T)) (T2 : List (Int × Int)) (ad : Addr) (c : Nat) (hs : a.eval s = tv) (hx : a.eval x = .slice (some ad) T2.length c)
    (hnews : ∀ j u, (bcs T2)[j]? = some u → w.cell? (ad.add j) = some u) (hnil : (∃ g n cap, tv = .slice (some ⟨g, 0, none⟩) n cap) ∨ 0 < T2.length) (hlen : T.length + T2.length ≤ 100000) (hbase : base ≤ w.heap.size)
    (h : ∀ g cap w', w'.ownsRow base 43 2 (.slice (some ⟨g, 0, none⟩) (T.length + T2.length) cap) (T ++ T2).length (bcs (T ++ T2)) → Fr (fun k => tv.ownBlock = some k) w w' → (tv.ownBlock = some g ∨ w.heap.size ≤ g) → K (a.put o.dst (.slice (some ⟨g, 0, none⟩) (T.length + T2.length) cap)) w') :
    if Region.wanted o (yielded ops a.tmps) = true then Oper.wp Tryd.prog o a w K Q else E := by
  have hw : Region.wanted o (yielded ops a.tmps) = true := by simp [Region.wanted, hgd]
  rw [if_pos hw]
  exact wp_tapp s x ho hown T2 ad c hs hx hnews hnil hlen hbase h
/-- Onto a fresh slice. -/
theorem step_tapp0 {ops : Array Oper} {o : Oper} {a : Act} {K : Act → World → Prop} {Q : Exit → Act → World → Prop} {E : Prop} (hgd : o.guard = none) (s x : Operand)
    (ho : o.op = .call { callee := .builtin .append, args := #[s, x], argTypes := #[39, 39] })
    {B : Nat} (hB : w.heap[B]? = some (.cells #[] 43 (0, 0))) (hbB : base ≤ B) (T2 : List (Int × Int)) (ad : Addr) (c : Nat) (hs : a.eval s = .slice (some ⟨B, 0, none⟩) 0 0) (hx : a.eval x = .slice (some ad) T2.length c)
    (hnews : ∀ j u, (bcs T2)[j]? = some u → w.cell? (ad.add j) = some u) (hlen : T2.length ≤ 100000)
    (h : ∀ g cap w', w'.ownsRow base 43 2 (.slice (some ⟨g, 0, none⟩) T2.length cap) T2.length (bcs T2) → Fr (fun k => k = B) w w' → (g = B ∨ w.heap.size ≤ g) → K (a.put o.dst (.slice (some ⟨g, 0, none⟩) T2.length cap)) w') :
    if Region.wanted o (yielded ops a.tmps) = true then Oper.wp Tryd.prog o a w K Q else E := by
  have hown : w.ownsRow base 43 2 (.slice (some ⟨B, 0, none⟩) 0 0) ([] : List (Int × Int)).length (bcs []) := ⟨rfl, .inr ⟨B, 0, #[], rfl, hbB, hB, Nat.le_refl _, by unfold maxLen; omega, rfl, rfl⟩⟩
  have hlt : B < w.heap.size := (Array.getElem?_eq_some_iff.1 hB).1
  refine step_tapp hgd s x ho hown T2 ad c hs hx hnews (.inl ⟨B, 0, 0, rfl⟩) (by simpa using hlen) (by omega) ?_
  intro g cap w' h1 h2 h3
  simp only [List.length_nil, Nat.zero_add, List.nil_append] at h1 ⊢
  refine h g cap w' h1 (h2.mono fun k _ e => by simpa [Value.ownBlock] using e.symm) ?_
  rcases h3 with e | e
  · exact .inl (by simpa [Value.ownBlock] using e.symm)
  · exact .inr e
/-- One block, in a block of memory of its own. -/
theorem one_news {w : World} {B : Nat} (b : Int × Int) (hb : w.heap[B]? = some (.cells #[.int .i64 b.1, .int .i64 b.2] 43 (0, 0))) : ∀ j u, (bcs [b])[j]? = some u → w.cell? ((⟨B, 0, none⟩ : Addr).add j) = some u := by
  intro j u hu
  rw [add_plain, Nat.zero_add]
  match j, hu with
  | 0, hu => simp [bcs] at hu; subst hu; simp [World.cell?, hb]
  | 1, hu => simp [bcs] at hu; subst hu; simp [World.cell?, hb]
end
/-- A piece of a row of blocks. -/
theorem piece_news {w : World} {base g n cap : Nat} {T : List (Int × Int)} (h : w.ownsRow base 43 2 (.slice (some ⟨g, 0, none⟩) n cap) T.length (bcs T)) (d : Nat) (T2 : List (Int × Int)) (hp : ∀ j u, (bcs T2)[j]? = some u → (bcs T)[d * 2 + j]? = some u) : ∀ j u, (bcs T2)[j]? = some u → w.cell? ((⟨g, d * 2, none⟩ : Addr).add j) = some u := by
  intro j u hu
  have := h.cells (g := g) rfl (d * 2 + j) u (hp j u hu)
  rw [add_plain, Nat.zero_add] at this
  rw [add_plain]
  exact this
theorem take_piece (T : List (Int × Int)) (k : Nat) : ∀ j u, (bcs (T.take k))[j]? = some u → (bcs T)[0 * 2 + j]? = some u := by
  intro j u hu
  rw [bcs_take, List.getElem?_take] at hu
  split at hu
  · simpa using hu
  · cases hu
theorem drop_piece (T : List (Int × Int)) (k : Nat) : ∀ j u, (bcs (T.drop k))[j]? = some u → (bcs T)[k * 2 + j]? = some u := by
  intro j u hu
  rw [bcs_drop, List.getElem?_drop] at hu
  exact hu
/-- 'there[:k]', 'there[k+1:]'. -/
theorem run_slice_to {w : World} (g n cap k : Nat) (hk : k ≤ cap) : (Instr.slice 39 (.slice (some ⟨g, 0, none⟩) n cap) none (some (.int .i64 (k : Int))) none).run Tryd.prog w = .ok (.slice (some ⟨g, 0 * 2, none⟩) k cap) w := by
  obtain ⟨i0, hi, hz0, hz1, hz2⟩ := info_block
  have hb : (0 : Int) ≤ (k : Int) ∧ (k : Int) ≤ (cap : Int) := by omega
  simp [Instr.slice, Instr.sliceBounds, Instr.sliceBound, asIntOf, run_underlying Tryd.underlying39, sizeOf, typeInfo, hi, hb, hk]
  intro _
  rw [add_plain]
theorem run_slice_from (g n cap k : Nat) (hk : k < n) (hc : n ≤ cap) : ∃ ad : Addr, (∀ w, (Instr.slice 39 (.slice (some ⟨g, 0, none⟩) n cap) (some (.int .i64 ((k : Int) + 1))) none none).run Tryd.prog w = .ok (.slice (some ad) (n - (k + 1)) (cap - (k + 1))) w) ∧ (n - (k + 1) = 0 ∨ ad = ⟨g, (k + 1) * 2, none⟩) := by
  obtain ⟨i0, hi, hz0, hz1, hz2⟩ := info_block
  have hb : (0 : Int) ≤ (k : Int) + 1 ∧ (k : Int) + 1 ≤ (n : Int) := by omega
  have ht : ((k : Int) + 1).toNat = k + 1 := by omega
  by_cases e : cap = k + 1
  · refine ⟨⟨g, 0, none⟩, fun w => ?_, .inl (by omega)⟩
    simp [Instr.slice, Instr.sliceBounds, Instr.sliceBound, asIntOf, run_underlying Tryd.underlying39, sizeOf, typeInfo, hi, hb, ht, e]
  · refine ⟨⟨g, (k + 1) * 2, none⟩, fun w => ?_, .inr rfl⟩
    simp [Instr.slice, Instr.sliceBounds, Instr.sliceBound, asIntOf, run_underlying Tryd.underlying39, sizeOf, typeInfo, hi, hz1, hb, ht, e]
    rw [add_plain, Nat.zero_add]
theorem run_slice_mid (g cap : Nat) (A C : List (Int × Int)) (L : Nat) (hL : L = A.length + 1 + C.length) (hc : L ≤ cap) : ∃ (ad : Addr) (c2 : Nat), (∀ w, (Instr.slice 39 (.slice (some ⟨g, 0, none⟩) L cap) (some (.int .i64 ((A.length : Int) + 1))) none none).run Tryd.prog w = .ok (.slice (some ad) C.length c2) w) ∧ (C = [] ∨ ad = ⟨g, (A.length + 1) * 2, none⟩) := by
  obtain ⟨ad, h1, h2⟩ := run_slice_from g L cap A.length (by omega) hc
  refine ⟨ad, _, fun w => by rw [h1 w, show L - (A.length + 1) = C.length by omega], ?_⟩
  rcases h2 with h2 | h2
  · exact .inl (List.eq_nil_of_length_eq_zero (by omega))
  · exact .inr h2
theorem split_at {T : List (Int × Int)} {k : Nat} (h : k < T.length) : ∃ A b C, T = A ++ b :: C ∧ A.length = k := by
  refine ⟨T.take k, T[k], T.drop (k + 1), ?_, by simp; omega⟩
  rw [← List.drop_eq_getElem_cons h, List.take_append_drop]
/-- The cells of the block in the midst. -/
theorem mid_cells {w : World} {base g L cap : Nat} {A C : List (Int × Int)} {b : Int × Int} (h : w.ownsRow base 43 2 (.slice (some ⟨g, 0, none⟩) L cap) (A ++ b :: C).length (bcs (A ++ b :: C))) : w.cell? ⟨g, A.length * 2, none⟩ = some (.int .i64 b.1) ∧ w.cell? ⟨g, A.length * 2 + 1, none⟩ = some (.int .i64 b.2) := by
  obtain ⟨h1, h2⟩ := bcs_at (A ++ b :: C) A.length (by simp)
  have e : (A ++ b :: C)[A.length]'(by simp) = b := by simp
  rw [e] at h1 h2
  have a1 := h.cells (g := g) rfl _ _ h1
  have a2 := h.cells (g := g) rfl _ _ h2
  rw [add_plain, Nat.zero_add] at a1 a2
  exact ⟨a1, a2⟩
theorem pre_piece (A C : List (Int × Int)) (b : Int × Int) : ∀ j u, (bcs A)[j]? = some u → (bcs (A ++ b :: C))[0 * 2 + j]? = some u := by
  intro j u hu
  rw [bcs_append, Nat.zero_mul, Nat.zero_add, List.getElem?_append_left (List.getElem?_eq_some_iff.1 hu).1]
  exact hu
theorem post_piece (A C : List (Int × Int)) (b : Int × Int) : ∀ j u, (bcs C)[j]? = some u → (bcs (A ++ b :: C))[(A.length + 1) * 2 + j]? = some u := by
  intro j u hu
  have e : bcs (A ++ b :: C) = bcs (A ++ [b]) ++ bcs C := by rw [← bcs_append]; simp
  rw [e, List.getElem?_append_right (by rw [bcs_length]; simp), bcs_length]
  simpa [show (A.length + 1) * 2 + j - (A.length + 1) * 2 = j by omega] using hu
end Go.Proofs.YtcfeeeloceeicaaDoor
