/-
  What the calls of package caps do: New, Copy.
-/
import Derived.Test.YtcleheapfgapaaaDoorCaRevoke
import Derived.Test.YtcleheapfgapaaaDoorSfNew
import Derived.Deep.WholeRow
import Derived.Great.BuildSlice
namespace Go.Proofs.YtcleheapfgapaaaDoor
open Go.RowKit

/-- A cell of a table that is fresh. -/
def zok : Nat → List Value → Bool
  | 0, [] => true
  | n + 1, .int .i64 (.ofNat 0) :: l => zok n l
  | _, _ => false
def zrow : Value → Bool
  | .agg ⟨.int .i64 (.ofNat 0) :: .int .i64 (.ofNat 0) :: .pointer none :: .pointer none :: l⟩ => zok 12480 l
  | _ => false
theorem zero_caps : (match Tryd.prog.info? 68 with | some i => (match i.zero with | some v => i.size == 12484 && zrow v | none => false) | none => false) = true := by kernel_rfl
theorem zok_at : ∀ (n : Nat) (l : List Value), zok n l = true → l.length = n ∧ ∀ i, i < n → l[i]? = some (.int .i64 0)
  | 0, [], _ => ⟨rfl, fun i hi => by omega⟩
  | n + 1, v :: l, h => by
    unfold zok at h
    split at h
    · rename_i e _; cases e
    · rename_i n' l' e1 e2
      cases e1
      cases e2
      obtain ⟨h1, h2⟩ := zok_at n l h
      refine ⟨by simp [h1], fun i hi => ?_⟩
      cases i with
      | zero => rfl
      | succ i => rw [List.getElem?_cons_succ]; exact h2 i (by omega)
    · cases h
theorem zero_cells : ∃ (i : TypeInfo) (cs : Array Value), Tryd.prog.info? 68 = some i ∧ i.zero = some (.agg cs) ∧ i.size = 12484 ∧ cs.size = 12484 ∧ ∀ k, 4 ≤ k → k < 12484 → cs[k]? = some (.int .i64 0) := by
  have h := zero_caps
  cases hi : Tryd.prog.info? 68 with
  | none => rw [hi] at h; cases h
  | some i =>
    rw [hi] at h
    dsimp only at h
    cases hz : i.zero with
    | none => rw [hz] at h; cases h
    | some v =>
      rw [hz] at h
      dsimp only at h
      rw [Bool.and_eq_true, beq_iff_eq] at h
      obtain ⟨h1, h2⟩ := h
      unfold zrow at h2
      split at h2
      · rename_i l
        obtain ⟨q1, q2⟩ := zok_at _ _ h2
        refine ⟨i, _, rfl, hz, h1, by simp [q1], fun k hk1 hk2 => ?_⟩
        obtain ⟨j, rfl⟩ : ∃ j, k = j + 1 + 1 + 1 + 1 := ⟨k - 4, by omega⟩
        rw [List.getElem?_toArray, List.getElem?_cons_succ, List.getElem?_cons_succ, List.getElem?_cons_succ, List.getElem?_cons_succ]
        exact q2 j (by omega)
      · cases h2
theorem caps_places : (match Tryd.prog.underlying 68 with | some (.struct fs) => fs.toList.mapM (fun f => (Tryd.prog.info? f.type).map fun i => (f.offset, i.size)) | _ => none) = some [(0, 1), (1, 1), (2, 1), (3, 1), (4, 12480)] := by kernel_rfl
/-- The cells of a table that is made. -/
def made (cs : Array Value) (t n : Int) (o s : Nat) : Array Value := (((cs.setIfInBounds 0 (.int .i64 t)).setIfInBounds 1 (.int .i64 n)).setIfInBounds 2 (.pointer (some ⟨o, 0, none⟩))).setIfInBounds 3 (.pointer (some ⟨s, 0, none⟩))
theorem built_caps (t n : Int) (o s : Nat) : ∃ cs, Tryd.prog.built 68 [(0, .int .i64 t), (1, .int .i64 n), (2, .pointer (some ⟨o, 0, none⟩)), (3, .pointer (some ⟨s, 0, none⟩))] = some cs ∧ Ck cs t n [] o s := by
  obtain ⟨i, cs, hi, hz, _, hs, hc⟩ := zero_cells
  refine ⟨made cs t n o s, ?_, ?_⟩
  · have hp := caps_places
    unfold Program.built
    rw [hi]
    cases hu : Tryd.prog.underlying 68 with
    | none => rw [hu] at hp; cases hp
    | some d =>
      rw [hu] at hp
      cases d
      all_goals try (cases hp; done)
      dsimp only at hp ⊢
      rw [hz, hp]
      simp [Instr.fill, Value.cells, hs, made]
  · refine ⟨by simp [made, hs], fun k hk => ?_⟩
    unfold made
    rw [Array.getElem?_setIfInBounds, Array.getElem?_setIfInBounds, Array.getElem?_setIfInBounds, Array.getElem?_setIfInBounds, Array.size_setIfInBounds, Array.size_setIfInBounds, Array.size_setIfInBounds, hs]
    by_cases e3 : 3 = k
    · subst e3; rfl
    rw [if_neg e3]
    by_cases e2 : 2 = k
    · subst e2; rfl
    rw [if_neg e2]
    by_cases e1 : 1 = k
    · subst e1; rfl
    rw [if_neg e1]
    by_cases e0 : 0 = k
    · subst e0; rfl
    rw [if_neg e0, hc k (by omega) hk]
    unfold ckv
    rw [if_neg (by omega)]
    repeat' split
    all_goals rfl
theorem wpList_build4 {P : Program} {ops : Array Oper} {rest : List Oper} {o : Oper} {a : Act} {w : World} {Q : Exit → Act → World → Prop} (hg : o.guard = none) (t : TypeId) (x0 x1 x2 x3 : Operand) (ho : o.op = .build t #[(0, x0), (1, x1), (2, x2), (3, x3)])
    (d : Option Tmp) (hd : o.dst = d) (v0 v1 v2 v3 : Value) (h0 : a.eval x0 = v0) (h1 : a.eval x1 = v1) (h2 : a.eval x2 = v2) (h3 : a.eval x3 = v3) (cells : Array Value) (hf : P.built t [(0, v0), (1, v1), (2, v2), (3, v3)] = some cells)
    (h : wpList P ops Q rest (a.put d (.agg cells)) w) : wpList P ops Q (o :: rest) a w := by
  refine wpList_buildTo hg t _ ho d hd cells ?_ h
  rw [← hf]
  simp [h0, h1, h2, h3]
set_option maxRecDepth 20000 in
theorem k_new {t n : Int} (h : (0 ≤ t ∧ t ≤ 7) ∧ 1 ≤ n ∧ n ≤ 17592186044416) (w : World) (g : Sf.Tab w) : Calls Tryd.prog 9 #[.int .i64 t, .int .i64 n] w fun e w' => ∃ a o ob s sb, e = .returned (.tuple #[.pointer (some ⟨a, 0, none⟩), .int .i64 0]) ∧ ((w.heap.size ≤ a ∧ w.heap.size ≤ o ∧ w.heap.size ≤ ob) ∧ w.heap.size ≤ s ∧ w.heap.size ≤ sb) ∧ Kt w' a o ob s sb (newC t n) ∧ Fr (fun _ => False) w w' := by
  have H1 := hid (Sf.new_ok 4096 w (by omega) g)
  have H2 := hid fun w (g : Sf.Tab w) => Sf.new_ok 64 w (by omega) g
  obtain ⟨⟨t0, t1⟩, n0, n1⟩ := h
  go_enter Tryd.func9, Tryd.ntmps9
  go_wp2_with fail
  refine H1.out.mono ?_
  rintro e w1 ⟨rfl, h1, f1⟩
  have S1 := hid h1
  have F1 := hid f1
  clear h1 f1 H1
  go_wp2_with fail
  refine (H2.out _ S1.out.tab).mono ?_
  rintro e w2 ⟨rfl, h2, f2⟩
  have S2 := hid h2
  have F2 := hid f2
  clear h2 f2 H2
  obtain ⟨cs, hcs, hck⟩ := built_caps t n (w.heap.size + 1) (w1.heap.size + 1)
  go_wp2_with (refine wpList_build4 rfl 68 (.tmp 37) (.tmp 38) (.tmp 39) (.tmp 40) rfl (some 41) rfl (.int .i64 t) (.int .i64 n) (.pointer (some ⟨w.heap.size + 1, 0, none⟩)) (.pointer (some ⟨w1.heap.size + 1, 0, none⟩)) rfl rfl rfl rfl cs hcs ?_)
  go_ret2
  refine ⟨w2.heap.size, w.heap.size + 1, w.heap.size, w1.heap.size + 1, w1.heap.size, by simp, ?_, ?_, ((F1.out.trans F2.out).alloc _)⟩
  · have := F1.out.size; have := F2.out.size; omega
  · have a1 := S1.out.lta
    have a2 := S2.out.lta
    have b1 := S1.out.b0
    have z1 := F1.out.size
    have z2 := F2.out.size
    have e1 := tkn_nil 0 4096
    have e2 := tkn_nil 4096 64
    refine ⟨⟨cs, heap_alloc_new w2 _, hck⟩, ?_, ?_, by omega, by omega, newC_ok ⟨⟨t0, t1⟩, n0, n1⟩⟩
    · show Sf.Sh _ _ _ (tkn [] 0 4096)
      rw [e1]
      exact (S1.out.carry F2.out id id id).carry (S := fun _ => False) ((Fr.refl _ _).alloc _) id id id
    · show Sf.Sh _ _ _ (tkn [] 4096 64)
      rw [e2]
      exact S2.out.carry (S := fun _ => False) ((Fr.refl _ _).alloc _) id id id
set_option maxRecDepth 20000 in
theorem k_new_no {t n : Int} (h : ¬ ((0 ≤ t ∧ t ≤ 7) ∧ 1 ≤ n ∧ n ≤ 17592186044416)) (w : World) : Calls Tryd.prog 9 #[.int .i64 t, .int .i64 n] w fun e w' => e = .returned (.tuple #[.pointer none, .int .i64 12]) ∧ Fr (fun _ => False) w w' := by
  have hc : t < 0 ∨ (¬ t < 0 ∧ 8 ≤ t) ∨ (¬ t < 0 ∧ ¬ 8 ≤ t ∧ n < 1) ∨ (¬ t < 0 ∧ ¬ 8 ≤ t ∧ ¬ n < 1 ∧ 17592186044416 < n) := by omega
  clear h
  rcases hc with h | ⟨h, h2⟩ | ⟨h, h2, h3⟩ | ⟨h, h2, h3, h4⟩
  all_goals
    go_enter Tryd.func9, Tryd.ntmps9
    go_wp2_with fail
    go_ret2
    exact ⟨by simp, Fr.refl _ _⟩
end Go.Proofs.YtcleheapfgapaaaDoor
