/-
  Pieces of a row of pairs, and appends of pairs.
-/
import Derived.Test.YtcajdbklchjkkaaTaMem
import Derived.BigFrame
namespace Go.Proofs.Ytcajdbklchjkkaa
open Go.RowKit

/-- 'l[k:]' and 'l[:k:k]' of a list of slots that begins where its block does. -/
theorem run_tail2 (ad : Option Addr) (n cap k : Nat) (hk : k ≤ n) (hc : n ≤ cap) : ∃ (ad' : Option Addr) (cap' : Nat), (∀ w, (Instr.slice 28 (.slice ad n cap) (some (.int .i64 (k : Int))) none none).run Try.prog w = .ok (.slice ad' (n - k) cap') w) ∧ ∀ b, ad = some ⟨b, 0, none⟩ → k < n → ad' = some ⟨b, k * 2, none⟩ := by
  obtain ⟨i0, hi, hz0, hz1, hz2⟩ := pair_info
  have hb : (0 : Int) ≤ (k : Int) ∧ (k : Int) ≤ (n : Int) := by omega
  refine ⟨if cap = k then ad else ad.map (·.add (k * 2)), cap - k, fun w => ?_, fun b e hlt => ?_⟩
  · simp [Instr.slice, Instr.sliceBounds, Instr.sliceBound, asIntOf, run_underlying Try.underlying28, sizeOf, typeInfo, hi, hz1, hb]
    intro h; omega
  · rw [if_neg (by omega), e]
    simp [add_plain]
theorem run_head2 (ad : Option Addr) (n cap k : Nat) (hk : k ≤ n) (hc : n ≤ cap) : ∃ (ad' : Option Addr), (∀ w, (Instr.slice 28 (.slice ad n cap) none (some (.int .i64 (k : Int))) (some (.int .i64 (k : Int)))).run Try.prog w = .ok (.slice ad' k k) w) ∧ (∀ b, ad = some ⟨b, 0, none⟩ → ad' = some ⟨b, 0, none⟩) ∧ (ad = none → ad' = none) := by
  obtain ⟨i0, hi, hz0, hz1, hz2⟩ := pair_info
  have hb : (0 : Int) ≤ (k : Int) ∧ (k : Int) ≤ (cap : Int) := by omega
  refine ⟨if k = 0 then ad else ad.map (·.add (0 * 2)), fun w => ?_, fun b e => ?_, fun e => ?_⟩
  · simp [Instr.slice, Instr.sliceBounds, Instr.sliceBound, asIntOf, run_underlying Try.underlying28, sizeOf, typeInfo, hi, hb]
    first | omega | (intros; omega)
  · subst e; split <;> simp [add_plain]
  · subst e; split <;> rfl
theorem run_append_zero {P : Program} {w : World} (t ty e : TypeId) (i : TypeInfo) (ht : P.underlying t = some (.slice e)) (hi : P.info? e = some i) (g n cap : Nat) (hn : n ≤ cap) (ad : Option Addr) (c : Nat) :
    (Builtin.append_ #[t, t] ty #[.slice (some ⟨g, 0, none⟩) n cap, .slice ad 0 c]).run P w = .ok (.slice (some ⟨g, 0, none⟩) n cap) w := by
  cases ad <;> simp [Builtin.append_, run_underlying ht, sizeOf, typeInfo, hi, Builtin.lenOf, Builtin.firstCells, loadCells, loadCellsFrom, storeCells, hn]
/-- Slots that lie where a slice says. -/
def PairsAt (w : World) (ad : Option Addr) (L : Tb) : Prop := 0 < L.length → ∃ b off, ad = some ⟨b, off, none⟩ ∧ b < w.heap.size ∧ ∀ j u, (pc L)[j]? = some u → w.cell? ⟨b, off + j, none⟩ = some u
theorem PairsAt.carry {S : Nat → Prop} {w w' : World} {ad : Option Addr} {L : Tb} (h : PairsAt w ad L) (f : Fr S w w') (hs : ∀ b off, ad = some ⟨b, off, none⟩ → 0 < L.length → ¬ S b) : PairsAt w' ad L := fun h0 => by
  obtain ⟨b, off, e, hb, hc⟩ := h h0
  exact ⟨b, off, e, by have := f.size; omega, fun j u hu => (World.cell?_of_block (f.block b hb (hs b off e h0))).trans (hc j u hu)⟩
theorem PairsAt.fr {w w' : World} {ad : Option Addr} {L : Tb} (h : PairsAt w ad L) (f : Fr (fun _ => False) w w') : PairsAt w' ad L := h.carry f fun _ _ _ _ => id
theorem pairs_row {w : World} {base g cap : Nat} {L : Tb} (h : w.ownsRow base 106 2 (.slice (some ⟨g, 0, none⟩) L.length cap) L.length (pc L)) : PairsAt w (some ⟨g, 0, none⟩) L := fun _ => by
  refine ⟨g, 0, rfl, (h.lt g rfl).2, fun j u hu => ?_⟩
  have := h.cells (g := g) rfl j u hu
  rwa [add_plain] at this
theorem pairs_one {w : World} {B : Nat} {x : Int × Int} (h : w.heap[B]? = some (.cells #[.int .i64 x.1, .int .i64 x.2] 106 (0, 0))) : PairsAt w (some ⟨B, 0, none⟩) [x] := fun _ => by
  refine ⟨B, 0, rfl, (Array.getElem?_eq_some_iff.1 h).1, fun j u hu => ?_⟩
  rw [Nat.zero_add]
  simp only [World.cell?, h]
  have e : pc [x] = [.int .i64 x.1, .int .i64 x.2] := rfl
  rw [e] at hu
  simpa using hu
/-- Slots appended to a row of the call's own: some, or none. -/
theorem run_pairs {w : World} {base : Nat} (ty : TypeId) {v : Value} {L : Tb} (hown : w.ownsRow base 106 2 v L.length (pc L)) {ad : Option Addr} {M : Tb} (hv : (∃ g n cap, v = .slice (some ⟨g, 0, none⟩) n cap) ∨ 0 < M.length) (c : Nat) (hM : PairsAt w ad M) (hlen : L.length + M.length ≤ 100000) (hbase : base ≤ w.heap.size) :
    ∃ g cap w', (Builtin.append_ #[28, 28] ty #[v, .slice ad M.length c]).run Try.prog w = .ok (.slice (some ⟨g, 0, none⟩) (L.length + M.length) cap) w' ∧ w'.ownsRow base 106 2 (.slice (some ⟨g, 0, none⟩) (L.length + M.length) cap) (L ++ M).length (pc (L ++ M)) ∧ Fr (fun k => v.ownBlock = some k) w w' ∧ (v.ownBlock = some g ∨ w.heap.size ≤ g) := by
  obtain ⟨i0, hi, hz0, hz1, hz2⟩ := pair_info
  by_cases h0 : M.length = 0
  · obtain rfl : M = [] := List.eq_nil_of_length_eq_zero h0
    obtain ⟨g, n, cap, rfl⟩ : ∃ g n cap, v = .slice (some ⟨g, 0, none⟩) n cap := by
      rcases hv with h | h
      · exact h
      · simp at h
    have hn : n = L.length ∧ n ≤ cap := by
      rcases hown.2 with ⟨h1, _⟩ | ⟨g', cap', cur, h1, _, _, h3, _⟩
      · cases h1
      · simp only [Value.slice.injEq] at h1
        obtain ⟨_, rfl, rfl⟩ := h1
        exact ⟨rfl, h3⟩
    obtain ⟨rfl, hc⟩ := hn
    refine ⟨g, cap, w, run_append_zero _ _ _ i0 Try.underlying28 hi g _ cap hc ad c, ?_, Fr.refl _ _, .inl rfl⟩
    simpa using hown
  · obtain ⟨b, off, rfl, hb, hc⟩ := hM (by omega)
    obtain ⟨g, cap, w', hr, ho, hg, hs⟩ := run_append_sep (P := Try.prog) w base 28 ty 106 i0 _ 2 16 Try.underlying28 hi hz0 hz1 hz2 rfl (by decide) v L.length (pc L) hown ⟨b, off, none⟩ M.length c (by omega) (pc M) (pc_length M) (fun j u hu => by rw [add_plain]; exact hc j u hu) (pc_one M) (by unfold maxLen; omega) (by omega) hbase
    refine ⟨g, cap, w', hr, ?_, (Fr.refl _ _).grown hg (fun k e => .inl e), ?_⟩
    · rw [pc_append, List.length_append]; exact ho
    · rcases hs with e | e
      · exact .inl e
      · exact .inr (by omega)
/-- One slot appended to a piece that has no room: a row of its own. -/
theorem run_firstP {w : World} (ty : TypeId) {ao : Option Addr} {L : Tb} (hL : PairsAt w ao L) (hnone : ao = none → L = []) {ad : Option Addr} {x : Int × Int} (c : Nat) (hx : PairsAt w ad [x]) (hlen : L.length ≤ 10000) :
    ∃ g cap w', (Builtin.append_ #[28, 28] ty #[.slice ao L.length L.length, .slice ad 1 c]).run Try.prog w = .ok (.slice (some ⟨g, 0, none⟩) (L.length + 1) cap) w' ∧ w'.ownsRow w.heap.size 106 2 (.slice (some ⟨g, 0, none⟩) (L.length + 1) cap) (L ++ [x]).length (pc (L ++ [x])) ∧ Fr (fun _ => False) w w' := by
  obtain ⟨i0, hi, hz0, hz1, hz2⟩ := pair_info
  obtain ⟨b, off, rfl, hb, hc⟩ := hx (by simp)
  have hc' : ∀ j u, (pc [x])[j]? = some u → w.cell? ((⟨b, off, none⟩ : Addr).add j) = some u := fun j u hu => by rw [add_plain]; exact hc j u hu
  have key : ∃ v' w', (Builtin.append_ #[28, 28] ty #[.slice ao L.length L.length, .slice (some ⟨b, off, none⟩) 1 c]).run Try.prog w = .ok v' w' ∧ w'.ownsRow w.heap.size 106 2 v' (L.length + 1) (pc L ++ pc [x]) ∧ w.grownBy w' none := by
    cases ao with
    | some a0 =>
      by_cases h0 : L.length = 0
      · have e0 : L = [] := List.eq_nil_of_length_eq_zero h0
        subst e0
        obtain ⟨v', w', h1, h2, h3⟩ := run_append_arg_grows (P := Try.prog) w 28 ty 106 i0 _ 2 16 Try.underlying28 hi hz0 hz1 hz2 rfl (by decide) a0 0 0 [] rfl (fun j u hu => by simp at hu) ⟨b, off, none⟩ 1 c (pc [x]) rfl hc' (by omega) (by unfold maxLen; omega) (by omega)
        exact ⟨v', w', h1, h2, h3⟩
      · obtain ⟨b2, off2, e, hb2, hc2⟩ := hL (by omega)
        simp only [Option.some.injEq] at e
        subst e
        obtain ⟨v', w', h1, h2, h3⟩ := run_append_arg_grows (P := Try.prog) w 28 ty 106 i0 _ 2 16 Try.underlying28 hi hz0 hz1 hz2 rfl (by decide) ⟨b2, off2, none⟩ L.length L.length (pc L) (pc_length L) (fun j u hu => by rw [add_plain]; exact hc2 j u hu) ⟨b, off, none⟩ 1 c (pc [x]) rfl hc' (by omega) (by unfold maxLen; omega) (by omega)
        exact ⟨v', w', h1, h2, h3⟩
    | none =>
      obtain rfl := hnone rfl
      obtain ⟨v', w', h1, h2, h3, _⟩ := run_append_own (P := Try.prog) w w.heap.size 28 ty 106 i0 _ 2 16 Try.underlying28 hi hz0 hz1 hz2 rfl (by decide) (.slice none 0 0) 0 [] (World.ownsRow_nil w _ _ _) ⟨b, off, none⟩ 1 c (pc [x]) rfl hc' (pc_one [x]) (by unfold maxLen; omega) (by omega) (Nat.le_refl _)
      exact ⟨v', w', h1, h2, h3⟩
  obtain ⟨v', w', h1, h2, h3⟩ := key
  obtain ⟨g, cap, rfl⟩ : ∃ g cap, v' = .slice (some ⟨g, 0, none⟩) (L.length + 1) cap := by
    rcases h2.2 with ⟨_, e⟩ | ⟨g, cap, _, e, _⟩
    · omega
    · exact ⟨g, cap, e⟩
  refine ⟨g, cap, w', h1, ?_, (Fr.refl _ _).grown h3 (fun k e => by cases e)⟩
  rw [pc_append, List.length_append]
  exact h2
/-- The pieces of a table's slots. -/
theorem Rtb.tail {w : World} {base r cap : Nat} {ad : Option Addr} {T : Tb} (h : Rtb w base r (.slice ad T.length cap) T) {j : Nat} (hj : j ≤ T.length) : ∃ ad2 cap2, (∀ w, (Instr.slice 28 (.slice ad T.length cap) (some (.int .i64 (j : Int))) none none).run Try.prog w = .ok (.slice ad2 (T.drop j).length cap2) w) ∧ PairsAt w ad2 (T.drop j) ∧ ∀ b off, ad2 = some ⟨b, off, none⟩ → 0 < (T.drop j).length → b ≠ r := by
  obtain ⟨ad', cap', e, hcap, hg, hn⟩ := h.form
  simp only [Value.slice.injEq, true_and] at e
  obtain ⟨rfl, rfl⟩ := e
  obtain ⟨ad2, cap2, hr, ha⟩ := run_tail2 ad T.length cap j hj hcap
  refine ⟨ad2, cap2, fun w => by rw [List.length_drop]; exact hr w, fun h0 => ?_, fun b off e h0 e2 => ?_⟩
  · rw [List.length_drop] at h0
    obtain ⟨g, cap', e, _⟩ := h.cells j (by omega)
    simp only [Value.slice.injEq] at e
    obtain ⟨rfl, _, rfl⟩ := e
    refine ⟨g, j * 2, ha g rfl (by omega), (h.row.lt g rfl).2, fun q u hu => ?_⟩
    rw [pc_drop, List.getElem?_drop] at hu
    have := h.row.cells (g := g) rfl _ u hu
    rwa [add_plain, Nat.zero_add] at this
  · rw [List.length_drop] at h0
    obtain ⟨g, cap', e3, _⟩ := h.cells j (by omega)
    simp only [Value.slice.injEq] at e3
    obtain ⟨rfl, _, rfl⟩ := e3
    rw [ha g rfl (by omega)] at e
    simp only [Option.some.injEq, Addr.mk.injEq] at e
    exact h.ne (by rw [← e2, ← e.1]; rfl)
theorem Rtb.head {w : World} {base r cap : Nat} {ad : Option Addr} {T : Tb} (h : Rtb w base r (.slice ad T.length cap) T) {j : Nat} (hj : j ≤ T.length) : ∃ ad1, (∀ w, (Instr.slice 28 (.slice ad T.length cap) none (some (.int .i64 (j : Int))) (some (.int .i64 (j : Int)))).run Try.prog w = .ok (.slice ad1 (T.take j).length (T.take j).length) w) ∧ PairsAt w ad1 (T.take j) ∧ (∀ b off, ad1 = some ⟨b, off, none⟩ → b ≠ r) ∧ (ad1 = none → T.take j = []) := by
  obtain ⟨ad', cap', e, hcap, hg, hn⟩ := h.form
  simp only [Value.slice.injEq, true_and] at e
  obtain ⟨rfl, rfl⟩ := e
  obtain ⟨ad1, hr, ha, hb⟩ := run_head2 ad T.length cap j hj hcap
  refine ⟨ad1, fun w => by rw [List.length_take, Nat.min_eq_left hj]; exact hr w, fun h0 => ?_, fun b off e e2 => ?_, fun e => ?_⟩
  · rw [List.length_take] at h0
    obtain ⟨g, cap', e, _⟩ := h.cells 0 (by omega)
    simp only [Value.slice.injEq] at e
    obtain ⟨rfl, _, rfl⟩ := e
    refine ⟨g, 0, ha g rfl, (h.row.lt g rfl).2, fun q u hu => ?_⟩
    rw [pc_take, List.getElem?_take] at hu
    split at hu
    · have := h.row.cells (g := g) rfl _ u hu
      rwa [add_plain] at this
    · cases hu
  · cases had : ad with
    | none => rw [hb had] at e; cases e
    | some g =>
      obtain ⟨b', rfl⟩ := hg g had
      rw [ha b' had] at e
      simp only [Option.some.injEq, Addr.mk.injEq] at e
      exact h.ne (by rw [had, ← e2, ← e.1]; rfl)
  · cases had : ad with
    | none => rw [hn had, List.take_nil]
    | some g =>
      obtain ⟨b', rfl⟩ := hg g had
      rw [ha b' had] at e
      cases e
section
variable {w : World} {base : Nat} {v : Value} {L M : Tb} {ad ao : Option Addr} {o : Oper} {a : Act} {Q : Exit → Act → World → Prop}
theorem wp_pairs {K : Act → World → Prop} (s x : Operand)
    (ho : o.op = .call { callee := .builtin .append, args := #[s, x], argTypes := #[28, 28] })
    (hown : w.ownsRow base 106 2 v L.length (pc L)) (hv : (∃ g n cap, v = .slice (some ⟨g, 0, none⟩) n cap) ∨ 0 < M.length) (c : Nat) (hM : PairsAt w ad M) (hlen : L.length + M.length ≤ 100000) (hbase : base ≤ w.heap.size) (hs : a.eval s = v) (hx : a.eval x = .slice ad M.length c)
    (h : ∀ g cap w', w'.ownsRow base 106 2 (.slice (some ⟨g, 0, none⟩) (L.length + M.length) cap) (L ++ M).length (pc (L ++ M)) → Fr (fun k => v.ownBlock = some k) w w' → (v.ownBlock = some g ∨ w.heap.size ≤ g) → K (a.put o.dst (.slice (some ⟨g, 0, none⟩) (L.length + M.length) cap)) w') : o.wp Try.prog a w K Q := by
  obtain ⟨g, cap, w', hr, h2, h3, h4⟩ := run_pairs o.type hown hv c hM hlen hbase
  unfold Oper.wp execOp
  simp only [ho, resolve, invoke, builtin, Sem.run_bind, Sem.run_pure, Result.andThen_ok, List.map_toArray, List.map_cons, List.map_nil, hs, hx, hr]
  exact h g cap w' h2 h3 h4
theorem wpList_pairs {ops : Array Oper} {rest : List Oper} (hgd : o.guard = none) (s x : Operand)
    (ho : o.op = .call { callee := .builtin .append, args := #[s, x], argTypes := #[28, 28] })
    (hown : w.ownsRow base 106 2 v L.length (pc L)) (hv : (∃ g n cap, v = .slice (some ⟨g, 0, none⟩) n cap) ∨ 0 < M.length) (c : Nat) (hM : PairsAt w ad M) (hlen : L.length + M.length ≤ 100000) (hbase : base ≤ w.heap.size) (hs : a.eval s = v) (hx : a.eval x = .slice ad M.length c)
    (h : ∀ g cap w', w'.ownsRow base 106 2 (.slice (some ⟨g, 0, none⟩) (L.length + M.length) cap) (L ++ M).length (pc (L ++ M)) → Fr (fun k => v.ownBlock = some k) w w' → (v.ownBlock = some g ∨ w.heap.size ≤ g) → wpList Try.prog ops Q rest (a.put o.dst (.slice (some ⟨g, 0, none⟩) (L.length + M.length) cap)) w') : wpList Try.prog ops Q (o :: rest) a w :=
  wpList_plain hgd fun _ hK => wp_pairs s x ho hown hv c hM hlen hbase hs hx fun g cap w' h2 h3 h4 => hK _ _ (h g cap w' h2 h3 h4)
theorem step_pairs {ops : Array Oper} {K : Act → World → Prop} {E : Prop} (hgd : o.guard = none) (s x : Operand)
    (ho : o.op = .call { callee := .builtin .append, args := #[s, x], argTypes := #[28, 28] })
    (hown : w.ownsRow base 106 2 v L.length (pc L)) (hv : (∃ g n cap, v = .slice (some ⟨g, 0, none⟩) n cap) ∨ 0 < M.length) (c : Nat) (hM : PairsAt w ad M) (hlen : L.length + M.length ≤ 100000) (hbase : base ≤ w.heap.size) (hs : a.eval s = v) (hx : a.eval x = .slice ad M.length c)
    (h : ∀ g cap w', w'.ownsRow base 106 2 (.slice (some ⟨g, 0, none⟩) (L.length + M.length) cap) (L ++ M).length (pc (L ++ M)) → Fr (fun k => v.ownBlock = some k) w w' → (v.ownBlock = some g ∨ w.heap.size ≤ g) → K (a.put o.dst (.slice (some ⟨g, 0, none⟩) (L.length + M.length) cap)) w') :
    if Region.wanted o (yielded ops a.tmps) = true then Oper.wp Try.prog o a w K Q else E := by
  have hw : Region.wanted o (yielded ops a.tmps) = true := by simp [Region.wanted, hgd]
  rw [if_pos hw]
  exact wp_pairs s x ho hown hv c hM hlen hbase hs hx h
theorem step_firstP {ops : Array Oper} {K : Act → World → Prop} {E : Prop} {y : Int × Int} (hgd : o.guard = none) (s x : Operand)
    (ho : o.op = .call { callee := .builtin .append, args := #[s, x], argTypes := #[28, 28] })
    (hL : PairsAt w ao L) (hnone : ao = none → L = []) (c : Nat) (hy : PairsAt w ad [y]) (hlen : L.length ≤ 10000) (hs : a.eval s = .slice ao L.length L.length) (hx : a.eval x = .slice ad 1 c)
    (h : ∀ g cap w' Q, Q = L ++ [y] → Q.length = L.length + 1 → w'.ownsRow w.heap.size 106 2 (.slice (some ⟨g, 0, none⟩) (L.length + 1) cap) Q.length (pc Q) → Fr (fun _ => False) w w' → w.heap.size ≤ g → K (a.put o.dst (.slice (some ⟨g, 0, none⟩) (L.length + 1) cap)) w') :
    if Region.wanted o (yielded ops a.tmps) = true then Oper.wp Try.prog o a w K Q else E := by
  have hw : Region.wanted o (yielded ops a.tmps) = true := by simp [Region.wanted, hgd]
  rw [if_pos hw]
  obtain ⟨g, cap, w', hr, h2, h3⟩ := run_firstP o.type hL hnone c hy hlen
  unfold Oper.wp execOp
  simp only [ho, resolve, invoke, builtin, Sem.run_bind, Sem.run_pure, Result.andThen_ok, List.map_toArray, List.map_cons, List.map_nil, hs, hx, hr]
  exact h g cap w' _ rfl (by simp) h2 h3 (h2.lt g rfl).1
end
end Go.Proofs.Ytcajdbklchjkkaa
