/-
  strings.Builder at this dump: a builder as a thing in memory; copyCheck, WriteString, String.
-/
import Derived.Test.YtcajdbklchjkkaaObjs
import Derived.Lib.Builder
import Derived.Lib.UnsafeStr
import Derived.Lib.AppendStr
import Derived.Laws.Externs
import Derived.LoopTactic
import Derived.RegionTactic
namespace Go.Proofs.Ytcajdbklchjkkaa
open Go.RowKit

theorem Try.infoU8 : (Try.prog.info? 5).map (fun i => (i.zero, i.size, i.bytes)) = some (some (.int .u8 0), 1, 1) := by kernel_rfl
/-- 'append(b, s...)', s a string that isn't empty: where the row lies then. -/
theorem run_app_str {w : World} {base n : Nat} {v : Value} {xs : List Value} (ty : TypeId) (hown : w.ownsRow base 5 1 v n xs) (s : ByteArray) (hs : 0 < s.size) (hn : n + s.size ≤ 1000000) (hb : base ≤ w.heap.size) :
    ∃ g cap w', (Builtin.append_ #[49, 9] ty #[v, .string s]).run Try.prog w = .ok (.slice (some ⟨g, 0, none⟩) (n + s.size) cap) w' ∧ w'.ownsRow base 5 1 (.slice (some ⟨g, 0, none⟩) (n + s.size) cap) (n + s.size) (xs ++ bc s.data.toList) ∧ w.grownBy w' v.ownBlock ∧ (v.ownBlock = some g ∨ g = w.heap.size) := by
  obtain ⟨i0, hi, hz0, hz1, hz2⟩ := info_parts Try.infoU8
  obtain ⟨v', w', hr, ho, hgr, hnil⟩ := Lib.run_append_own_string (P := Try.prog) w base 49 9 ty 5 i0 Try.underlying49 Try.underlying9 hi hz0 hz1 hz2 v n xs hown s (by unfold maxLen; omega) (by omega) hb
  obtain ⟨g, cap, rfl⟩ : ∃ g cap, v' = .slice (some ⟨g, 0, none⟩) (n + s.size) cap := by
    rcases ho.2 with ⟨h0, h2⟩ | ⟨g, cap, _, h2, _⟩
    · omega
    · exact ⟨g, cap, h2⟩
  refine ⟨g, cap, w', hr, ho, hgr, ?_⟩
  rcases hown.2 with ⟨rfl, rfl⟩ | ⟨g', cap', cur, rfl, hbg, hg, hnc, hcm, hcs, htake⟩
  · have hr2 := run_append_nil_string (P := Try.prog) w 49 9 ty 5 i0 (.int .u8 0) Try.underlying49 Try.underlying9 hi hz0 s hs (by omega) (by rw [hz2]; omega)
    rw [hr] at hr2
    simp only [Result.ok.injEq, Value.slice.injEq, Option.some.injEq, Addr.mk.injEq] at hr2
    exact .inr hr2.1.1.1
  · by_cases hroom : n + s.size ≤ cap'
    · have hr2 := Lib.run_append_room_string (P := Try.prog) w 49 9 ty 5 i0 Try.underlying49 Try.underlying9 hi hz1 g' n cap' cur hg s hroom (by omega)
      rw [hr] at hr2
      simp only [Result.ok.injEq, Value.slice.injEq, Option.some.injEq, Addr.mk.injEq] at hr2
      exact .inl (by rw [hr2.1.1.1]; rfl)
    · have hr2 := Lib.run_append_grow_string (P := Try.prog) w 49 9 ty 5 i0 (.int .u8 0) Try.underlying49 Try.underlying9 hi hz0 ⟨g', 0, none⟩ n cap' xs (by rw [hz1]; exact hown.1) (hown.cells (g := g') rfl) s (by omega) (by omega) (by rw [hz2]; exact growslice_fits (by omega) (by omega))
      rw [hr] at hr2
      simp only [Result.ok.injEq, Value.slice.injEq, Option.some.injEq, Addr.mk.injEq] at hr2
      exact .inr hr2.1.1.1
/-- An append whose run is known. -/
theorem wpList_app {P : Program} {w w' : World} {ops : Array Oper} {rest : List Oper} {o : Oper} {a : Act} {Q : Exit → Act → World → Prop} (hgd : o.guard = none) (s x : Operand) (t u : TypeId) (ho : o.op = .call { callee := .builtin .append, args := #[s, x], argTypes := #[t, u] }) {y z v : Value} (hs : a.eval s = y) (hx : a.eval x = z)
    (hrun : (Builtin.append_ #[t, u] o.type #[y, z]).run P w = .ok v w') (h : wpList P ops Q rest (a.put o.dst v) w') : wpList P ops Q (o :: rest) a w := by
  refine wpList_plain hgd fun K hK => ?_
  unfold Oper.wp
  simp [execOp, ho, resolve, invoke, builtin, hs, hx, hrun, Result.andThen]
  exact hK _ _ h
/-- A builder in block b that holds the bytes l, and was never read: its own block and its row's are of Z. -/
def Bd (b : Nat) (l : List UInt8) (w : World) (Z : Nat → Prop) : Prop :=
  ∃ p v, (p = .pointer none ∨ p = .pointer (some ⟨b, 0, none⟩)) ∧ w.heap[b]? = some (.cells #[p, v] 92 (0, 0)) ∧ w.ownsRow 0 5 1 v l.length (bc l) ∧ v.ownBlock ≠ some b ∧ (l = [] → v = .slice none 0 0) ∧ (Z b ∧ ∀ y, v.ownBlock = some y → Z y) ∧ ∀ i, Z i → i < w.heap.size
theorem Bd.good (b : Nat) (l : List UInt8) : Good (Bd b l) :=
  ⟨fun ⟨p, v, hp, hb, ho, hne, h0, ⟨z1, z2⟩, hl⟩ f hs => ⟨p, v, hp, (f.block b (hl b z1) (hs b z1)).trans hb, row_turn ho f fun y e => hs y (z2 y e), hne, h0, ⟨z1, z2⟩, fun i hi => Nat.lt_of_lt_of_le (hl i hi) f.size⟩,
   fun ⟨p, v, hp, hb, ho, hne, h0, ⟨z1, z2⟩, _⟩ k1 k2 => ⟨p, v, hp, hb, ho, hne, h0, ⟨k1 b z1, fun y e => k1 y (z2 y e)⟩, k2⟩⟩
/-- A new one. -/
theorem Bd.new (w : World) : Bd w.heap.size [] (w.alloc (.cells #[.pointer none, .slice none 0 0] 92)) (fun i => i = w.heap.size) :=
  ⟨.pointer none, .slice none 0 0, .inl rfl, heap_alloc_new _ _, ⟨rfl, .inl ⟨rfl, rfl⟩⟩, by simp [Value.ownBlock], fun _ => rfl, ⟨rfl, fun y e => by simp [Value.ownBlock] at e⟩, fun i hi => by simp only [World.size_alloc]; omega⟩
theorem Try.infoBd : (Try.prog.info? 92).map (·.size) = some 2 := by kernel_rfl
theorem Try.liesBd : liesAt Try.prog Try.prog.depth 92 (2 / Try.prog.cellsOf 92) 0 92 1 = true := by kernel_rfl
set_option maxRecDepth 20000 in
theorem bl_used {w : World} {b : Nat} (h0 : w.cell? ⟨b, 0, none⟩ = some (.pointer (some ⟨b, 0, none⟩))) : Calls Try.prog 58 #[.pointer (some ⟨b, 0, none⟩)] w fun e w' => e = .returned (.tuple #[]) ∧ w' = w := by
  obtain ⟨j, hj, _⟩ := Option.map_eq_some_iff.1 Try.infoBd
  have hN := hid (Lib.run_neq_ptr_same (P := Try.prog) w (tp := 90) ⟨b, 0, none⟩ Try.underlying90 hj)
  clear hj
  go_enter Try.func58, Try.ntmps58
  go_wp2
  rw [hN.out]
  go_wp2
  go_end0
  exact ⟨rfl, rfl⟩
set_option maxRecDepth 20000 in
theorem bl_fresh {w : World} {b : Nat} (h0 : w.cell? ⟨b, 0, none⟩ = some (.pointer none)) (hsh : w.shape? b = some (92, 2)) (hfz : w.frozen? ⟨b, 0, none⟩ = false) : Calls Try.prog 58 #[.pointer (some ⟨b, 0, none⟩)] w fun e w' => e = .returned (.tuple #[]) ∧ w' = w.setCell ⟨b, 0, none⟩ (.pointer (some ⟨b, 0, none⟩)) := by
  obtain ⟨j, hj, hjs⟩ := Option.map_eq_some_iff.1 Try.infoBd
  have h1 := hid (Lib.run_to_unsafe (P := Try.prog) w ⟨b, 0, none⟩ Try.underlying90 Try.underlying113 hj (by rw [hjs]; decide) hsh (Nat.zero_lt_succ 1))
  have h2 := hid (Lib.run_from_unsafe (P := Try.prog) w ⟨b, 0, none⟩ Try.underlying113 Try.underlying90 hj hsh Try.liesBd)
  clear hj hjs
  go_enter Try.func58, Try.ntmps58
  go_wp2
  rw [h1.out]
  simp only [Result.andThen]
  rw [Oper.upon_value]
  go_wp2
  rw [run_callFunc_extern Try.func63 (by kernel_rfl) (by kernel_rfl) (by kernel_rfl) (e := Extern.AbiNoEscape.same) (by kernel_rfl)]
  rw [Lib.run_noEscape]
  simp only [Result.andThen]
  rw [Oper.upon_value]
  go_wp2
  rw [h2.out]
  simp only [Result.andThen]
  rw [Oper.upon_value]
  go_wp2
  go_end0
  exact ⟨rfl, rfl⟩
/-- copyCheck, of a builder: behind it its first cell is its own address. -/
theorem bl_check {w : World} {b : Nat} {p v : Value} (hp : p = .pointer none ∨ p = .pointer (some ⟨b, 0, none⟩)) (hb : w.heap[b]? = some (.cells #[p, v] 92 (0, 0))) : Calls Try.prog 58 #[.pointer (some ⟨b, 0, none⟩)] w fun e w' => e = .returned (.tuple #[]) ∧ w'.heap[b]? = some (.cells #[.pointer (some ⟨b, 0, none⟩), v] 92 (0, 0)) ∧ Fr (fun i => i = b) w w' := by
  have c0 : w.cell? ⟨b, 0, none⟩ = some p := by rw [Lib.cell_of_heap hb]; rfl
  rcases hp with rfl | rfl
  · refine (bl_fresh c0 (by simp [World.shape?, hb]) (Lib.frozen_of_heap hb 0)).mono ?_
    rintro e w' ⟨rfl, rfl⟩
    exact ⟨rfl, by simp [World.setCell, Array.getElem?_modify, hb], (Fr.refl (fun i => i = b) w).setCell (p := ⟨b, 0, none⟩) rfl _⟩
  · refine (bl_used c0).mono ?_
    rintro e w' ⟨rfl, rfl⟩
    exact ⟨rfl, hb, Fr.refl _ _⟩
set_option maxRecDepth 20000 in
set_option maxHeartbeats 1000000 in
theorem bl_write {w : World} {b : Nat} {l : List UInt8} {Z : Nat → Prop} (h : Bd b l w Z) (s : ByteArray) (hs : 0 < s.size) (hn : l.length + s.size ≤ 1000000) : Calls Try.prog 41 #[.pointer (some ⟨b, 0, none⟩), .string s] w fun e w' => e = .returned (.tuple #[.int .i64 s.size, .nilIface]) ∧ ∃ Z', Bd b (l ++ s.data.toList) w' Z' ∧ Gw w w' Z Z' := by
  obtain ⟨p, v, hp, hb, ho, hne, h0, ⟨z1, z2⟩, hl⟩ := h
  have H1 := hid (bl_check hp hb)
  have HK : Hid (∀ (w1 w2 : World) (g cap : Nat), Fr (fun i => i = b) w w1 → w1.heap[b]? = some (.cells #[.pointer (some ⟨b, 0, none⟩), v] 92 (0, 0)) → w2.ownsRow 0 5 1 (.slice (some ⟨g, 0, none⟩) (l.length + s.size) cap) (l.length + s.size) (bc l ++ bc s.data.toList) → w1.grownBy w2 v.ownBlock → (v.ownBlock = some g ∨ g = w1.heap.size) → w2.heap[b]? = some (.cells #[.pointer (some ⟨b, 0, none⟩), v] 92 (0, 0)) ∧ ∃ Z', Bd b (l ++ s.data.toList) (w2.setCell ⟨b, 1, none⟩ (.slice (some ⟨g, 0, none⟩) (l.length + s.size) cap)) Z' ∧ Gw w (w2.setCell ⟨b, 1, none⟩ (.slice (some ⟨g, 0, none⟩) (l.length + s.size) cap)) Z Z') := fun w1 w2 g cap f1 hb1 ho2 hg hw => by
    have hlb := hl b z1
    have hs1 := f1.size
    have hb2 : w2.heap[b]? = some (.cells #[.pointer (some ⟨b, 0, none⟩), v] 92 (0, 0)) := by
      rw [hg.block b (by omega) (fun e => hne e.symm)]
      exact hb1
    have f2 : Fr Z w w2 := (f1.mono fun i _ e => by subst e; exact z1).grown hg fun k e => .inl (z2 k e)
    have f3 : Fr Z w (w2.setCell ⟨b, 1, none⟩ (.slice (some ⟨g, 0, none⟩) (l.length + s.size) cap)) := f2.setCell z1 _
    have hgb : g ≠ b := fun e => by
      subst e
      rcases hw with e | e
      · exact hne e
      · omega
    have hsz : s.size = s.data.toList.length := rfl
    have hlt : ∀ i, (Z i ∨ i = g) → i < (w2.setCell ⟨b, 1, none⟩ (.slice (some ⟨g, 0, none⟩) (l.length + s.size) cap)).heap.size := fun i hi => by
      rcases hi with hi | rfl
      · exact Nat.lt_of_lt_of_le (hl i hi) f3.size
      · have := (ho2.lt i rfl).2
        simpa [World.setCell] using this
    refine ⟨hb2, fun i => Z i ∨ i = g, ⟨.pointer (some ⟨b, 0, none⟩), .slice (some ⟨g, 0, none⟩) (l.length + s.size) cap, .inr rfl, by simp [World.setCell, Array.getElem?_modify, hb2], ?_, by simp [Value.ownBlock, hgb], fun e => ?_, ⟨.inl z1, fun y e => .inr (by simpa [Value.ownBlock] using e.symm)⟩, hlt⟩, ⟨fun _ => .inl, fun i hi => ?_, hlt, f3⟩⟩
    · rw [bc_append, List.length_append, ← hsz]
      exact row_turn ho2 ((Fr.refl (fun i => i = b) w2).setCell (p := ⟨b, 1, none⟩) rfl _) fun y e => by simp [Value.ownBlock] at e; omega
    · have := congrArg List.length e
      simp only [List.length_append, List.length_nil] at this
      omega
    · rcases hi with hi | rfl
      · exact .inl hi
      · rcases hw with e | e
        · exact .inl (z2 _ e)
        · exact .inr (by omega)
  have HO := hid (And.intro ho (And.intro hne (hl b z1)))
  clear hp hb ho hne h0 z1 z2 hl
  go_enter Try.func41, Try.ntmps41
  go_wp2_with fail
  refine H1.out.mono ?_
  rintro e w1 ⟨rfl, hb1, f1⟩
  have c1 : w1.cell? ⟨b, 1, none⟩ = some v := by rw [Lib.cell_of_heap hb1]; rfl
  obtain ⟨g, cap, w2, hrun, ho2, hg2, hw2⟩ := run_app_str 49 (row_turn HO.out.1 f1 fun x e e2 => HO.out.2.1 (by rw [e, e2])) s hs hn (Nat.zero_le _)
  obtain ⟨hb2, HZ⟩ := HK.out w1 w2 g cap f1 hb1 ho2 hg2 hw2
  have HZZ := hid HZ
  have d1 : w2.cell? ⟨b, 1, none⟩ = some v := by rw [Lib.cell_of_heap hb2]; rfl
  have fz : w2.frozen? ⟨b, 1, none⟩ = false := Lib.frozen_of_heap hb2 1
  clear HK HO H1 hb1 f1 ho2 hg2 hw2 hb2 HZ
  go_wp2_with (at_builtin; refine wpList_app rfl (.tmp 12) (.tmp 13) _ _ rfl rfl rfl hrun ?_)
  clear hrun
  go_wp2
  go_ret2
  exact ⟨by simp, HZZ.out⟩
theorem Try.cellsU8 : Try.prog.cellsOf 5 = 1 := by kernel_rfl
theorem fr_freeze {S : Nat → Prop} {a w : World} (h : Fr S a w) (p : Addr) (hp : S p.block) (n : Nat) : Fr S a (w.freeze p n) := by
  unfold World.freeze
  split
  · exact h
  · refine ⟨h.os, h.tape, h.output, by have := h.size; simpa using this, fun i hi hn => ?_⟩
    rw [← h.block i hi hn]
    simp only [Array.getElem?_modify]
    have : ¬ p.block = i := fun e => hn (e ▸ hp)
    simp [this]
set_option maxRecDepth 20000 in
set_option maxHeartbeats 1000000 in
theorem bl_string {w : World} {b : Nat} {l : List UInt8} {Z : Nat → Prop} (h : Bd b l w Z) : Calls Try.prog 42 #[.pointer (some ⟨b, 0, none⟩)] w fun e w' => e = .returned (.string ⟨l.toArray⟩) ∧ Fr Z w w' := by
  obtain ⟨p, v, hp, hb, ho, hne, h0, ⟨z1, z2⟩, hl⟩ := h
  have c1 : w.drew.cell? ⟨b, 1, none⟩ = some v := by
    have : w.drew.heap[b]? = some (.cells #[p, v] 92 (0, 0)) := hb
    rw [Lib.cell_of_heap this]; rfl
  by_cases hl0 : l = []
  · obtain rfl := h0 hl0
    subst hl0
    have hUS : ∀ W : World, (Builtin.unsafeString_ #[111, 3] 9 #[.pointer none, .int .i64 0]).run Try.prog W = .ok (.string .empty) W := fun W => Lib.run_unsafeString_none W _ _ _ _
    have hSD : ∀ W : World, (Builtin.unsafeSliceData_ #[49] 111 #[.slice none 0 0]).run Try.prog W = .ok (.pointer none) W := fun W => rfl
    have HF : Hid (Fr Z w w.drew) := (Fr.refl _ _).drew
    clear hp hb ho hne h0 z1 z2 hl
    go_enter Try.func42, Try.ntmps42
    go_wp2
    go_region
    all_goals (go_wp2; go_ret; exact ⟨rfl, HF.out⟩)
  · obtain ⟨g, cap, cur, rfl, hbg, hg, hnc, hcm, hcs, htake⟩ : ∃ g cap cur, v = .slice (some ⟨g, 0, none⟩) l.length cap ∧ 0 ≤ g ∧ w.heap[g]? = some (.cells cur 5 (0, 0)) ∧ l.length ≤ cap ∧ cap ≤ maxLen ∧ cur.size = cap * 1 ∧ cur.toList.take (l.length * 1) = bc l := by
      rcases ho.2 with ⟨_, hz⟩ | ⟨g, cap, cur, hv, r⟩
      · exact absurd (List.eq_nil_of_length_eq_zero hz) hl0
      · exact ⟨g, cap, cur, hv, r⟩
    have hlen : l.length ≠ 0 := fun e => hl0 (List.eq_nil_of_length_eq_zero e)
    have hSD : ∀ W : World, (Builtin.unsafeSliceData_ #[49] 111 #[.slice (some ⟨g, 0, none⟩) l.length cap]).run Try.prog W = .ok (.pointer (some ⟨g, 0, none⟩)) W := fun W => Lib.run_unsafeSliceData_row _ _ _ _ _ _ (by omega)
    have hUS : (Builtin.unsafeString_ #[111, 3] 9 #[.pointer (some ⟨g, 0, none⟩), .int .i64 l.length]).run Try.prog w.drew = .ok (.string ⟨l.toArray⟩) (w.drew.freeze ⟨g, 0, none⟩ l.length) := by
      refine Lib.run_unsafeString_row w.drew 111 3 9 5 Try.underlying111 Try.cellsU8 g cur.size (by have hg' : w.drew.heap[g]? = some (.cells cur 5 (0, 0)) := hg; simp [World.shape?, hg']) l hl0 (by omega) (by unfold maxLen at hcm; omega) ?_
      intro j x hx
      exact ho.cells (g := g) rfl j (.int .u8 x.toNat) (by simp [bc, hx])
    have HF : Hid (Fr Z w (w.drew.freeze ⟨g, 0, none⟩ l.length)) := fr_freeze (Fr.refl _ _).drew ⟨g, 0, none⟩ (z2 g rfl) _
    clear hp hb ho hne h0 z1 z2 hl hbg hg hnc hcm hcs htake hl0 hlen
    go_enter Try.func42, Try.ntmps42
    go_wp2
    go_region
    all_goals (go_wp2; go_ret; exact ⟨rfl, HF.out⟩)
end Go.Proofs.Ytcajdbklchjkkaa
