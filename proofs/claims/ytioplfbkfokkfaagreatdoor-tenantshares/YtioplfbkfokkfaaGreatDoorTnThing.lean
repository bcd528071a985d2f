/-
  strings.Builder at this dump: a builder as a thing in memory; copyCheck, WriteString, String.
  What the calls of package view answer, and what they leave, at the landed code.
  A tenant's parts as things side by side: its heap with arena and map, its handles, its quota, its objects, and its own block.
-/
import Derived.Test.YtioplfbkfokkfaaGreatDoorSeen
import Derived.Lib.Builder
import Derived.Lib.UnsafeStr
import Derived.Lib.AppendStr
import Derived.Laws.Externs
import Derived.LoopTactic
import Derived.RegionTactic
import Derived.Test.YtioplfbkfokkfaaGreatDoorViCallsC
import Derived.Test.YtioplfbkfokkfaaGreatDoorSfBase
import Derived.Test.YtioplfbkfokkfaaGreatDoorQtMem
import Derived.Test.YtioplfbkfokkfaaGreatDoorQtCalls
import Derived.Test.YtioplfbkfokkfaaGreatDoorDmCalls
import Derived.Test.YtioplfbkfokkfaaGreatDoorViOver
namespace Go.Proofs.YtioplfbkfokkfaaGreatDoor
open Go.RowKit

theorem Tryz.infoU8 : (Tryz.prog.info? 5).map (fun i => (i.zero, i.size, i.bytes)) = some (some (.int .u8 0), 1, 1) := by kernel_rfl
theorem run_app_str {w : World} {base n : Nat} {v : Value} {xs : List Value} (ty : TypeId) (hown : w.ownsRow base 5 1 v n xs) (s : ByteArray) (hs : 0 < s.size) (hn : n + s.size ≤ 1000000) (hb : base ≤ w.heap.size) :
    ∃ g cap w', (Builtin.append_ #[101, 9] ty #[v, .string s]).run Tryz.prog w = .ok (.slice (some ⟨g, 0, none⟩) (n + s.size) cap) w' ∧ w'.ownsRow base 5 1 (.slice (some ⟨g, 0, none⟩) (n + s.size) cap) (n + s.size) (xs ++ bc s.data.toList) ∧ w.grownBy w' v.ownBlock ∧ (v.ownBlock = some g ∨ g = w.heap.size) := by
  obtain ⟨i0, hi, hz0, hz1, hz2⟩ := info_parts Tryz.infoU8
  obtain ⟨v', w', hr, ho, hgr, hnil⟩ := Lib.run_append_own_string (P := Tryz.prog) w base 101 9 ty 5 i0 Tryz.underlying101 Tryz.underlying9 hi hz0 hz1 hz2 v n xs hown s (by unfold maxLen; omega) (by omega) hb
  obtain ⟨g, cap, rfl⟩ : ∃ g cap, v' = .slice (some ⟨g, 0, none⟩) (n + s.size) cap := by
    rcases ho.2 with ⟨h0, h2⟩ | ⟨g, cap, _, h2, _⟩
    · omega
    · exact ⟨g, cap, h2⟩
  refine ⟨g, cap, w', hr, ho, hgr, ?_⟩
  rcases hown.2 with ⟨rfl, rfl⟩ | ⟨g', cap', cur, rfl, hbg, hg, hnc, hcm, hcs, htake⟩
  · have hr2 := run_append_nil_string (P := Tryz.prog) w 101 9 ty 5 i0 (.int .u8 0) Tryz.underlying101 Tryz.underlying9 hi hz0 s hs (by omega) (by rw [hz2]; omega)
    rw [hr] at hr2
    simp only [Result.ok.injEq, Value.slice.injEq, Option.some.injEq, Addr.mk.injEq] at hr2
    exact .inr hr2.1.1.1
  · by_cases hroom : n + s.size ≤ cap'
    · have hr2 := Lib.run_append_room_string (P := Tryz.prog) w 101 9 ty 5 i0 Tryz.underlying101 Tryz.underlying9 hi hz1 g' n cap' cur hg s hroom (by omega)
      rw [hr] at hr2
      simp only [Result.ok.injEq, Value.slice.injEq, Option.some.injEq, Addr.mk.injEq] at hr2
      exact .inl (by rw [hr2.1.1.1]; rfl)
    · have hr2 := Lib.run_append_grow_string (P := Tryz.prog) w 101 9 ty 5 i0 (.int .u8 0) Tryz.underlying101 Tryz.underlying9 hi hz0 ⟨g', 0, none⟩ n cap' xs (by rw [hz1]; exact hown.1) (hown.cells (g := g') rfl) s (by omega) (by omega) (by rw [hz2]; exact growslice_fits (by omega) (by omega))
      rw [hr] at hr2
      simp only [Result.ok.injEq, Value.slice.injEq, Option.some.injEq, Addr.mk.injEq] at hr2
      exact .inr hr2.1.1.1
theorem wpList_app {P : Program} {w w' : World} {ops : Array Oper} {rest : List Oper} {o : Oper} {a : Act} {Q : Exit → Act → World → Prop} (hgd : o.guard = none) (s x : Operand) (t u : TypeId) (ho : o.op = .call { callee := .builtin .append, args := #[s, x], argTypes := #[t, u] }) {y z v : Value} (hs : a.eval s = y) (hx : a.eval x = z)
    (hrun : (Builtin.append_ #[t, u] o.type #[y, z]).run P w = .ok v w') (h : wpList P ops Q rest (a.put o.dst v) w') : wpList P ops Q (o :: rest) a w := by
  refine wpList_plain hgd fun K hK => ?_
  unfold Oper.wp
  simp [execOp, ho, resolve, invoke, builtin, hs, hx, hrun, Result.andThen]
  exact hK _ _ h
def Bd (b : Nat) (l : List UInt8) (w : World) (Z : Nat → Prop) : Prop :=
  ∃ p v, (p = .pointer none ∨ p = .pointer (some ⟨b, 0, none⟩)) ∧ w.heap[b]? = some (.cells #[p, v] 155 (0, 0)) ∧ w.ownsRow 0 5 1 v l.length (bc l) ∧ v.ownBlock ≠ some b ∧ (l = [] → v = .slice none 0 0) ∧ (Z b ∧ ∀ y, v.ownBlock = some y → Z y) ∧ ∀ i, Z i → i < w.heap.size
theorem Bd.good (b : Nat) (l : List UInt8) : Good (Bd b l) :=
  ⟨fun ⟨p, v, hp, hb, ho, hne, h0, ⟨z1, z2⟩, hl⟩ f hs => ⟨p, v, hp, (f.block b (hl b z1) (hs b z1)).trans hb, row_turn ho f fun y e => hs y (z2 y e), hne, h0, ⟨z1, z2⟩, fun i hi => Nat.lt_of_lt_of_le (hl i hi) f.size⟩,
   fun ⟨p, v, hp, hb, ho, hne, h0, ⟨z1, z2⟩, _⟩ k1 k2 => ⟨p, v, hp, hb, ho, hne, h0, ⟨k1 b z1, fun y e => k1 y (z2 y e)⟩, k2⟩⟩
theorem Bd.new (w : World) : Bd w.heap.size [] (w.alloc (.cells #[.pointer none, .slice none 0 0] 155)) (fun i => i = w.heap.size) :=
  ⟨.pointer none, .slice none 0 0, .inl rfl, heap_alloc_new _ _, ⟨rfl, .inl ⟨rfl, rfl⟩⟩, by simp [Value.ownBlock], fun _ => rfl, ⟨rfl, fun y e => by simp [Value.ownBlock] at e⟩, fun i hi => by simp only [World.size_alloc]; omega⟩
theorem Tryz.infoBd : (Tryz.prog.info? 155).map (·.size) = some 2 := by kernel_rfl
theorem Tryz.liesBd : liesAt Tryz.prog Tryz.prog.depth 155 (2 / Tryz.prog.cellsOf 155) 0 155 1 = true := by kernel_rfl
set_option maxRecDepth 20000 in
theorem bl_used {w : World} {b : Nat} (h0 : w.cell? ⟨b, 0, none⟩ = some (.pointer (some ⟨b, 0, none⟩))) : Calls Tryz.prog 129 #[.pointer (some ⟨b, 0, none⟩)] w fun e w' => e = .returned (.tuple #[]) ∧ w' = w := by
  obtain ⟨j, hj, _⟩ := Option.map_eq_some_iff.1 Tryz.infoBd
  have hN := hid (Lib.run_neq_ptr_same (P := Tryz.prog) w (tp := 153) ⟨b, 0, none⟩ Tryz.underlying153 hj)
  clear hj
  go_enter Tryz.func129, Tryz.ntmps129
  go_wp2
  rw [hN.out]
  go_wp2
  go_end0
  exact ⟨rfl, rfl⟩
set_option maxRecDepth 20000 in
theorem bl_fresh {w : World} {b : Nat} (h0 : w.cell? ⟨b, 0, none⟩ = some (.pointer none)) (hsh : w.shape? b = some (155, 2)) (hfz : w.frozen? ⟨b, 0, none⟩ = false) : Calls Tryz.prog 129 #[.pointer (some ⟨b, 0, none⟩)] w fun e w' => e = .returned (.tuple #[]) ∧ w' = w.setCell ⟨b, 0, none⟩ (.pointer (some ⟨b, 0, none⟩)) := by
  obtain ⟨j, hj, hjs⟩ := Option.map_eq_some_iff.1 Tryz.infoBd
  have h1 := hid (Lib.run_to_unsafe (P := Tryz.prog) w ⟨b, 0, none⟩ Tryz.underlying153 Tryz.underlying229 hj (by rw [hjs]; decide) hsh (Nat.zero_lt_succ 1))
  have h2 := hid (Lib.run_from_unsafe (P := Tryz.prog) w ⟨b, 0, none⟩ Tryz.underlying229 Tryz.underlying153 hj hsh Tryz.liesBd)
  clear hj hjs
  go_enter Tryz.func129, Tryz.ntmps129
  go_wp2
  rw [h1.out]
  simp only [Result.andThen]
  rw [Oper.upon_value]
  go_wp2
  rw [run_callFunc_extern Tryz.func181 (by kernel_rfl) (by kernel_rfl) (by kernel_rfl) (e := Extern.AbiNoEscape.same) (by kernel_rfl)]
  rw [Lib.run_noEscape]
  simp only [Result.andThen]
  rw [Oper.upon_value]
  go_wp2
  rw [h2.out]
  simp only [Result.andThen]
  rw [Oper.upon_value]
  go_wp2
  go_end0
  exact ⟨rfl, rfl⟩
theorem bl_check {w : World} {b : Nat} {p v : Value} (hp : p = .pointer none ∨ p = .pointer (some ⟨b, 0, none⟩)) (hb : w.heap[b]? = some (.cells #[p, v] 155 (0, 0))) : Calls Tryz.prog 129 #[.pointer (some ⟨b, 0, none⟩)] w fun e w' => e = .returned (.tuple #[]) ∧ w'.heap[b]? = some (.cells #[.pointer (some ⟨b, 0, none⟩), v] 155 (0, 0)) ∧ Fr (fun i => i = b) w w' := by
  have c0 : w.cell? ⟨b, 0, none⟩ = some p := by rw [Lib.cell_of_heap hb]; rfl
  rcases hp with rfl | rfl
  · refine (bl_fresh c0 (by simp [World.shape?, hb]) (Lib.frozen_of_heap hb 0)).mono ?_
    rintro e w' ⟨rfl, rfl⟩
    exact ⟨rfl, by simp [World.setCell, Array.getElem?_modify, hb], (Fr.refl (fun i => i = b) w).setCell (p := ⟨b, 0, none⟩) rfl _⟩
  · refine (bl_used c0).mono ?_
    rintro e w' ⟨rfl, rfl⟩
    exact ⟨rfl, hb, Fr.refl _ _⟩
set_option maxRecDepth 20000 in
set_option maxHeartbeats 1000000 in
theorem bl_write {w : World} {b : Nat} {l : List UInt8} {Z : Nat → Prop} (h : Bd b l w Z) (s : ByteArray) (hs : 0 < s.size) (hn : l.length + s.size ≤ 1000000) : Calls Tryz.prog 93 #[.pointer (some ⟨b, 0, none⟩), .string s] w fun e w' => e = .returned (.tuple #[.int .i64 s.size, .nilIface]) ∧ ∃ Z', Bd b (l ++ s.data.toList) w' Z' ∧ Gw w w' Z Z' := by
  obtain ⟨p, v, hp, hb, ho, hne, h0, ⟨z1, z2⟩, hl⟩ := h
  have H1 := hid (bl_check hp hb)
  have HK : Hid (∀ (w1 w2 : World) (g cap : Nat), Fr (fun i => i = b) w w1 → w1.heap[b]? = some (.cells #[.pointer (some ⟨b, 0, none⟩), v] 155 (0, 0)) → w2.ownsRow 0 5 1 (.slice (some ⟨g, 0, none⟩) (l.length + s.size) cap) (l.length + s.size) (bc l ++ bc s.data.toList) → w1.grownBy w2 v.ownBlock → (v.ownBlock = some g ∨ g = w1.heap.size) → w2.heap[b]? = some (.cells #[.pointer (some ⟨b, 0, none⟩), v] 155 (0, 0)) ∧ ∃ Z', Bd b (l ++ s.data.toList) (w2.setCell ⟨b, 1, none⟩ (.slice (some ⟨g, 0, none⟩) (l.length + s.size) cap)) Z' ∧ Gw w (w2.setCell ⟨b, 1, none⟩ (.slice (some ⟨g, 0, none⟩) (l.length + s.size) cap)) Z Z') := fun w1 w2 g cap f1 hb1 ho2 hg hw => by
    have hlb := hl b z1
    have hs1 := f1.size
    have hb2 : w2.heap[b]? = some (.cells #[.pointer (some ⟨b, 0, none⟩), v] 155 (0, 0)) := by
      rw [hg.block b (by omega) (fun e => hne e.symm)]
      exact hb1
    have f2 : Fr Z w w2 := (f1.mono fun i _ e => by subst e; exact z1).grown hg fun k e => .inl (z2 k e)
    have f3 : Fr Z w (w2.setCell ⟨b, 1, none⟩ (.slice (some ⟨g, 0, none⟩) (l.length + s.size) cap)) := f2.setCell z1 _
    have hgb : g ≠ b := fun e => by
      subst e
      rcases hw with e | e
      · exact hne e
      · omega
    have hsz : s.size = s.data.toList.length := rfl
    have hlt : ∀ i, (Z i ∨ i = g) → i < (w2.setCell ⟨b, 1, none⟩ (.slice (some ⟨g, 0, none⟩) (l.length + s.size) cap)).heap.size := fun i hi => by
      rcases hi with hi | rfl
      · exact Nat.lt_of_lt_of_le (hl i hi) f3.size
      · have := (ho2.lt i rfl).2
        simpa [World.setCell] using this
    refine ⟨hb2, fun i => Z i ∨ i = g, ⟨.pointer (some ⟨b, 0, none⟩), .slice (some ⟨g, 0, none⟩) (l.length + s.size) cap, .inr rfl, by simp [World.setCell, Array.getElem?_modify, hb2], ?_, by simp [Value.ownBlock, hgb], fun e => ?_, ⟨.inl z1, fun y e => .inr (by simpa [Value.ownBlock] using e.symm)⟩, hlt⟩, ⟨fun _ => .inl, fun i hi => ?_, hlt, f3⟩⟩
    · rw [bc_append, List.length_append, ← hsz]
      exact row_turn ho2 ((Fr.refl (fun i => i = b) w2).setCell (p := ⟨b, 1, none⟩) rfl _) fun y e => by simp [Value.ownBlock] at e; omega
    · have := congrArg List.length e
      simp only [List.length_append, List.length_nil] at this
      omega
    · rcases hi with hi | rfl
      · exact .inl hi
      · rcases hw with e | e
        · exact .inl (z2 _ e)
        · exact .inr (by omega)
  have HO := hid (And.intro ho (And.intro hne (hl b z1)))
  clear hp hb ho hne h0 z1 z2 hl
  go_enter Tryz.func93, Tryz.ntmps93
  go_wp2_with fail
  refine H1.out.mono ?_
  rintro e w1 ⟨rfl, hb1, f1⟩
  have c1 : w1.cell? ⟨b, 1, none⟩ = some v := by rw [Lib.cell_of_heap hb1]; rfl
  obtain ⟨g, cap, w2, hrun, ho2, hg2, hw2⟩ := run_app_str 101 (row_turn HO.out.1 f1 fun x e e2 => HO.out.2.1 (by rw [e, e2])) s hs hn (Nat.zero_le _)
  obtain ⟨hb2, HZ⟩ := HK.out w1 w2 g cap f1 hb1 ho2 hg2 hw2
  have HZZ := hid HZ
  have d1 : w2.cell? ⟨b, 1, none⟩ = some v := by rw [Lib.cell_of_heap hb2]; rfl
  have fz : w2.frozen? ⟨b, 1, none⟩ = false := Lib.frozen_of_heap hb2 1
  clear HK HO H1 hb1 f1 ho2 hg2 hw2 hb2 HZ
  go_wp2_with (at_builtin; refine wpList_app rfl (.tmp 12) (.tmp 13) _ _ rfl rfl rfl hrun ?_)
  clear hrun
  go_wp2
  go_ret2
  exact ⟨by simp, HZZ.out⟩
theorem Tryz.cellsU8 : Tryz.prog.cellsOf 5 = 1 := by kernel_rfl
theorem fr_freeze {S : Nat → Prop} {a w : World} (h : Fr S a w) (p : Addr) (hp : S p.block) (n : Nat) : Fr S a (w.freeze p n) := by
  unfold World.freeze
  split
  · exact h
  · refine ⟨h.os, h.tape, h.output, by have := h.size; simpa using this, fun i hi hn => ?_⟩
    rw [← h.block i hi hn]
    simp only [Array.getElem?_modify]
    have : ¬ p.block = i := fun e => hn (e ▸ hp)
    simp [this]
set_option maxRecDepth 20000 in
set_option maxHeartbeats 1000000 in
theorem bl_string {w : World} {b : Nat} {l : List UInt8} {Z : Nat → Prop} (h : Bd b l w Z) : Calls Tryz.prog 94 #[.pointer (some ⟨b, 0, none⟩)] w fun e w' => e = .returned (.string ⟨l.toArray⟩) ∧ Fr Z w w' := by
  obtain ⟨p, v, hp, hb, ho, hne, h0, ⟨z1, z2⟩, hl⟩ := h
  have c1 : w.drew.cell? ⟨b, 1, none⟩ = some v := by
    have : w.drew.heap[b]? = some (.cells #[p, v] 155 (0, 0)) := hb
    rw [Lib.cell_of_heap this]; rfl
  by_cases hl0 : l = []
  · obtain rfl := h0 hl0
    subst hl0
    have hUS : ∀ W : World, (Builtin.unsafeString_ #[196, 3] 9 #[.pointer none, .int .i64 0]).run Tryz.prog W = .ok (.string .empty) W := fun W => Lib.run_unsafeString_none W _ _ _ _
    have hSD : ∀ W : World, (Builtin.unsafeSliceData_ #[101] 196 #[.slice none 0 0]).run Tryz.prog W = .ok (.pointer none) W := fun W => rfl
    have HF : Hid (Fr Z w w.drew) := (Fr.refl _ _).drew
    clear hp hb ho hne h0 z1 z2 hl
    go_enter Tryz.func94, Tryz.ntmps94
    go_wp2
    go_region
    all_goals (go_wp2; go_ret; exact ⟨rfl, HF.out⟩)
  · obtain ⟨g, cap, cur, rfl, hbg, hg, hnc, hcm, hcs, htake⟩ : ∃ g cap cur, v = .slice (some ⟨g, 0, none⟩) l.length cap ∧ 0 ≤ g ∧ w.heap[g]? = some (.cells cur 5 (0, 0)) ∧ l.length ≤ cap ∧ cap ≤ maxLen ∧ cur.size = cap * 1 ∧ cur.toList.take (l.length * 1) = bc l := by
      rcases ho.2 with ⟨_, hz⟩ | ⟨g, cap, cur, hv, r⟩
      · exact absurd (List.eq_nil_of_length_eq_zero hz) hl0
      · exact ⟨g, cap, cur, hv, r⟩
    have hlen : l.length ≠ 0 := fun e => hl0 (List.eq_nil_of_length_eq_zero e)
    have hSD : ∀ W : World, (Builtin.unsafeSliceData_ #[101] 196 #[.slice (some ⟨g, 0, none⟩) l.length cap]).run Tryz.prog W = .ok (.pointer (some ⟨g, 0, none⟩)) W := fun W => Lib.run_unsafeSliceData_row _ _ _ _ _ _ (by omega)
    have hUS : (Builtin.unsafeString_ #[196, 3] 9 #[.pointer (some ⟨g, 0, none⟩), .int .i64 l.length]).run Tryz.prog w.drew = .ok (.string ⟨l.toArray⟩) (w.drew.freeze ⟨g, 0, none⟩ l.length) := by
      refine Lib.run_unsafeString_row w.drew 196 3 9 5 Tryz.underlying196 Tryz.cellsU8 g cur.size (by have hg' : w.drew.heap[g]? = some (.cells cur 5 (0, 0)) := hg; simp [World.shape?, hg']) l hl0 (by omega) (by unfold maxLen at hcm; omega) ?_
      intro j x hx
      exact ho.cells (g := g) rfl j (.int .u8 x.toNat) (by simp [bc, hx])
    have HF : Hid (Fr Z w (w.drew.freeze ⟨g, 0, none⟩ l.length)) := fr_freeze (Fr.refl _ _).drew ⟨g, 0, none⟩ (z2 g rfl) _
    clear hp hb ho hne h0 z1 z2 hl hbg hg hnc hcm hcs htake hl0 hlen
    go_enter Tryz.func94, Tryz.ntmps94
    go_wp2
    go_region
    all_goals (go_wp2; go_ret; exact ⟨rfl, HF.out⟩)
end Go.Proofs.YtioplfbkfokkfaaGreatDoor

namespace Go.Proofs.YtioplfbkfokkfaaGreatDoor
open Go.RowKit
open An

section
variable {W w w0 : World} {a t B b : Nat} {Z Y : Nat → Prop} {bs : List UInt8} {ss : List Sp} {T : Tb} {O : World → (Nat → Prop) → Prop} {ad : Option Addr} {L : List Sq} {l : List UInt8}
set_option maxRecDepth 20000 in
set_option maxHeartbeats 1000000 in
theorem r_one (h : Things W w [Am 104 a bs ss, O, Blk B (abx a), Sv ad L, Bd b l]) {p m : Nat} (bb : Bool) (hp : 1 ≤ m ∧ p + m ≤ bs.length) (hl : l.length + m ≤ 1000000) (hk : ss.length ≤ 1000000) : Calls Tryz.prog 91 #[.agg #[.int .i64 p, .int .i64 m, .bool bb], .pointer (some ⟨B, 0, none⟩), .pointer (some ⟨b, 0, none⟩)] w fun e w' => e = .returned (.int .i64 0) ∧ Things W w' [Am 104 a bs (ss ++ [((p : Int), (m : Int), false)]), O, Blk B (abx a), Sv ad L, Bd b (l ++ (bs.drop p).take m)] := by
  have hF : Fr (fun _ => False) w (w.alloc (.cells #[.int .i64 p, .int .i64 m, .bool bb] 150)) := (Fr.refl _ _).alloc _
  have T0 := hid (h.kept hF)
  have c0 := abxc (T0.out.cells 2 rfl)
  obtain ⟨c1, c2⟩ := spbx w p m bb
  have hlen : ((bs.drop p).take m).length = m := by rw [List.length_take, List.length_drop]; omega
  have H1 : Hid (∀ w1, Things W w1 [Am 104 a bs ss, O, Blk B (abx a), Sv ad L, Bd b l] → Calls Tryz.prog 92 #[.pointer (some ⟨a, 0, none⟩), .int .i64 p, .int .i64 m] w1 fun e w' => e = .returned (.tuple #[.string ⟨((bs.drop p).take m).toArray⟩, .int .i64 0]) ∧ Things W w' [Am 104 a bs (ss ++ [((p : Int), (m : Int), false)]), O, Blk B (abx a), Sv ad L, Bd b l]) := fun w1 h1 => h1.lift 0 rfl (Am.good _ _ _ _) fun U hU => by
    have := am_read hU p m hp.2 hk
    rw [noted_one (by omega)] at this
    exact this
  have H2 : Hid (∀ w1, Things W w1 [Am 104 a bs (ss ++ [((p : Int), (m : Int), false)]), O, Blk B (abx a), Sv ad L, Bd b l] → Calls Tryz.prog 93 #[.pointer (some ⟨b, 0, none⟩), .string ⟨((bs.drop p).take m).toArray⟩] w1 fun e w' => e = .returned (.tuple #[.int .i64 ((⟨((bs.drop p).take m).toArray⟩ : ByteArray).size : Nat), .nilIface]) ∧ Things W w' [Am 104 a bs (ss ++ [((p : Int), (m : Int), false)]), O, Blk B (abx a), Sv ad L, Bd b (l ++ (bs.drop p).take m)]) := fun w1 h1 => h1.lift 4 rfl (Bd.good _ _) fun U hU => bl_write hU ⟨((bs.drop p).take m).toArray⟩ (show 0 < ((bs.drop p).take m).toArray.size by rw [List.size_toArray, hlen]; omega) (show l.length + ((bs.drop p).take m).toArray.size ≤ 1000000 by rw [List.size_toArray, hlen]; exact hl)
  clear h hF hp hk hl hlen
  generalize hwa : w.alloc (.cells #[.int .i64 p, .int .i64 m, .bool bb] 150) = wa at *
  generalize ((⟨((bs.drop p).take m).toArray⟩ : ByteArray).size : Nat) = sz at *
  go_enter Tryz.func91, Tryz.ntmps91
  go_wp2_with fail
  refine (H1.out _ T0.out).mono ?_
  rintro e w1 ⟨rfl, h1⟩
  have T1 := hid h1
  clear h1 H1 T0 c0 c1 c2
  go_wp2_with fail
  refine (H2.out _ T1.out).mono ?_
  rintro e w2 ⟨rfl, h2⟩
  have T2 := hid h2
  clear h2 H2 T1
  go_wp2
  go_ret
  exact ⟨by simp, T2.out⟩
theorem r_all {cap : Nat} (h : Things W w [Am 104 a bs ss, O, Blk B (abx a), Sv ad L, Bd b []]) (hap : Apt bs.length L) (hs : lenL L ≤ 1000000) (hk : ss.length + L.length ≤ 1000000) (hc : L.length ≤ cap) : Calls Tryz.prog 88 #[.slice ad L.length cap, .func (.func 91) #[] #[.pointer (some ⟨B, 0, none⟩), .pointer (some ⟨b, 0, none⟩)]] w fun e w' => e = .returned (.int .i64 0) ∧ Things W w' [Am 104 a bs (ss ++ tch L false), O, Blk B (abx a), Sv ad L, Bd b (rdB bs L)] := by
  refine (over_any (F := 91) (fun k w' => Things W w' [Am 104 a bs (ss ++ tch (L.take k) false), O, Blk B (abx a), Sv ad L, Bd b (rdB bs (L.take k))]) (fun _ _ => False) (fun k w' hi => hi.sps 3 rfl) hc (enters_of Tryz.func91 (by kernel_rfl) rfl) (fun k w' hk2 hi => ?_) (by simpa [rdB, tch] using h)).mono ?_
  · have hl := rdB_length (hap.take k)
    obtain ⟨p1, p2, p3, p4⟩ := hap.at hk2
    have hle := lenL_le L (k + 1)
    rw [lenL_take hk2] at hle
    have H := r_one hi (p := L[k].1.toNat) (m := L[k].2.1.toNat) L[k].2.2 (by omega) (by rw [hl]; omega) (by simp only [List.length_append, tch_length, List.length_take]; omega)
    rw [p2, p3] at H
    refine H.mono ?_
    rintro e w2 ⟨rfl, h2⟩
    rw [← rdB_snoc bs hk2, List.append_assoc, ← tch_snoc hk2] at h2
    exact ⟨0, rfl, fun _ => h2, fun e => (e rfl).elim⟩
  · rintro e w' ⟨j, rfl, h1, h2⟩
    by_cases hj : j = 0
    · subst hj
      have := h1 rfl
      rw [List.take_length] at this
      exact ⟨rfl, this⟩
    · exact (h2 hj).elim
theorem Things.bld (h : Things W w [Am 104 a bs ss, O, Blk B (abx a), Sv ad L]) : Things W (w.alloc (.cells #[.pointer none, .slice none 0 0] 155)) [Am 104 a bs ss, O, Blk B (abx a), Sv ad L, Bd w.heap.size []] :=
  h.more (Bd.good _ _) (Bd.new w) ((Fr.refl _ _).alloc _) fun i hi => by simp only [World.size_alloc]; omega
theorem r_string (h : Things W w [Am 104 a bs ss, O, Blk B (abx a), Sv ad L, Bd b l]) : Calls Tryz.prog 94 #[.pointer (some ⟨b, 0, none⟩)] w fun e w' => e = .returned (.string ⟨l.toArray⟩) ∧ ∃ X, Things W w' (Am 104 a bs ss :: O :: X) := by
  obtain ⟨U, h1, h2, h3⟩ := h.turn 4 rfl
  refine (bl_string h1).mono ?_
  rintro e w' ⟨rfl, f⟩
  exact ⟨rfl, _, h3 (fun w U => ∀ i, U i → i < w.heap.size) w' U ⟨fun h f _ i hi => Nat.lt_of_lt_of_le (h i hi) f.size, fun _ _ k => k⟩ (fun i hi => Nat.lt_of_lt_of_le (h2 i hi).2 f.size) (Gw.same (fun i hi => (h2 i hi).2) f)⟩
set_option maxRecDepth 20000 in
set_option maxHeartbeats 1000000 in
theorem v_read (h : Am 104 a bs ss w Z) (k : Tm t T w Y) (_hd : ∀ i, Z i → ¬ Y i) (ok : TbOk T) {x n : Int} (hx : I64 x) (hn : I64 n) (hb : n ≤ 16384) (hk : ss.length ≤ 900000) : Calls Tryz.prog 49 #[.pointer (some ⟨a, 0, none⟩), .pointer (some ⟨t, 0, none⟩), .int .i64 x, .int .i64 n] w fun e w' => e = .returned (.tuple #[.string ⟨(vrV T bs x n).toArray⟩, .int .i64 (vwE T bs.length x n)]) ∧ ∃ Z', Am 104 a bs (vrT T bs.length ss x n) w' Z' ∧ Gw w w' Z Z' := by
  have hF : Fr (fun _ => False) w (w.alloc (abx a)) := (Fr.refl _ _).alloc _
  have H1 := hid (v_find (h.kept hF) (k.kept hF) ok hx hn)
  have HA := hid h
  have HF := hid hF
  obtain ⟨v1, v2, v3⟩ := vwL_facts (N := bs.length) (x := x) ok hb
  have HV := hid (And.intro v1 (And.intro v2 v3))
  have c0 := abxc (heap_alloc_new w (abx a))
  clear h k ok hx hn hF v1 v2 v3 hb
  by_cases hv : VwOk T bs.length x n
  · obtain ⟨e1, e2⟩ := vw_yes hv.1 hv.2
    have E : Hid (vwE T bs.length x n = 0 ∧ vrV T bs x n = rdB bs (piL T x n) ∧ vrT T bs.length ss x n = ss ++ tch (piL T x n) false) := ⟨e2, if_pos hv, if_pos hv⟩
    rw [e1] at HV
    rw [e1, e2] at H1
    clear hv e1 e2
    rw [E.out.1, E.out.2.1, E.out.2.2]
    clear E
    generalize piL T x n = L at *
    go_enter Tryz.func49, Tryz.ntmps49
    go_wp2_with fail
    refine H1.out.mono ?_
    rintro e w1 ⟨ad, cap, rfl, hs, hb, f1, hc⟩
    have H2 := hid (r_all (v_begin HA.out hs hb f1).bld HV.out.1 (by have := HV.out.2.2; omega) (by have := HV.out.2.1; omega) hc)
    clear hs hb f1 hc H1
    go_wp2_with fail
    refine H2.out.mono ?_
    rintro e w2 ⟨rfl, h2⟩
    have H3 := hid (r_string h2)
    clear h2 H2
    go_wp2_with fail
    refine H3.out.mono ?_
    rintro e w3 ⟨rfl, X, h3⟩
    have T2 := hid (h3.finish HA.out.lt)
    clear h3 H3
    go_wp2
    go_ret2
    exact ⟨by simp, T2.out⟩
  · obtain ⟨e1, e2⟩ := vw_no hv
    have E : Hid (vwE T bs.length x n = 4 ∧ vrV T bs x n = [] ∧ vrT T bs.length ss x n = ss) := ⟨e2, if_neg hv, if_neg hv⟩
    rw [e1, e2] at H1
    clear hv e1 e2 HV
    rw [E.out.1, E.out.2.1, E.out.2.2]
    clear E
    go_enter Tryz.func49, Tryz.ntmps49
    go_wp2_with fail
    refine H1.out.mono ?_
    rintro e w1 ⟨ad, cap, rfl, hs, hb, f1, hc⟩
    have T2 := hid (am_nothing HA.out (HF.out.trans f1))
    clear hs hb f1 hc H1
    go_wp2
    go_ret2
    exact ⟨by simp, T2.out⟩
end
section
end
end Go.Proofs.YtioplfbkfokkfaaGreatDoor

namespace Go.Proofs.YtioplfbkfokkfaaGreatDoor
open Go.RowKit
open An

theorem Both.leftT {P Q : World → (Nat → Prop) → Prop} {w : World} {U : Nat → Prop} (h : Both P Q w U) (hQ : Good Q) : ∃ Z Y, P w Z ∧ Q w Y ∧ (∀ i, Z i → ¬ Y i) ∧ ∀ {P' : World → (Nat → Prop) → Prop} {w' : World} {Z' : Nat → Prop}, P' w' Z' → Gw w w' Z Z' → ∃ U', Both P' Q w' U' ∧ Gw w w' U U' := by
  obtain ⟨Z, Y, h1, h2, h3, h4, h5, h6⟩ := h
  refine ⟨Z, Y, h1, h2, h3, fun {P' w' Z'} k1 g => ?_⟩
  have hs := g.fr.size
  refine ⟨fun i => Z' i ∨ U i, ⟨Z', Y, k1, hQ.carry h2 g.fr fun i a b => h3 i b a, fun i a b => ?_, fun i a => .inl a, fun i a => .inr (h5 i a), fun i a => a.elim (g.lt i) fun a => Nat.lt_of_lt_of_le (h6 i a) hs⟩, ⟨fun i a => .inr a, fun i a => ?_, fun i a => a.elim (g.lt i) fun a => Nat.lt_of_lt_of_le (h6 i a) hs, g.fr.mono fun i _ => h4 i⟩⟩
  · rcases g.new i a with e | e
    · exact h3 i e b
    · have := h6 i (h5 i b); omega
  · rcases a with a | a
    · rcases g.new i a with e | e
      · exact .inl (h4 i e)
      · exact .inr e
    · exact .inl a
def Kc (a : Nat) (c : Ka.Ct) (w : World) (Z : Nat → Prop) : Prop := ∃ o ob s sb, Ka.Kt w a o ob s sb c ∧ (Z a ∧ Z o ∧ Z ob ∧ Z s ∧ Z sb) ∧ ∀ i, Z i → i < w.heap.size
theorem kt_on {w w' : World} {S : Nat → Prop} {a o ob s sb : Nat} {c : Ka.Ct} (h : Ka.Kt w a o ob s sb c) (f : Fr S w w') (ha : ¬ S a) (ho : ¬ S o) (hob : ¬ S ob) (hs : ¬ S s) (hsb : ¬ S sb) : Ka.Kt w' a o ob s sb c := by
  obtain ⟨cs, h1, h2⟩ := h.st
  exact ⟨⟨cs, by rw [f.block a h.lta ha]; exact h1, h2⟩, sh_on h.sho f ho hob, sh_on h.shs f hs hsb, h.ne, h.a0, h.ok⟩
theorem Kc.good (a : Nat) (c : Ka.Ct) : Good (Kc a c) :=
  ⟨fun ⟨o, ob, s, sb, h, ⟨z1, z2, z3, z4, z5⟩, hl⟩ f hs => ⟨o, ob, s, sb, kt_on h f (hs _ z1) (hs _ z2) (hs _ z3) (hs _ z4) (hs _ z5), ⟨z1, z2, z3, z4, z5⟩, fun i hi => Nat.lt_of_lt_of_le (hl i hi) f.size⟩,
   fun ⟨o, ob, s, sb, h, ⟨z1, z2, z3, z4, z5⟩, _⟩ k1 k2 => ⟨o, ob, s, sb, h, ⟨k1 _ z1, k1 _ z2, k1 _ z3, k1 _ z4, k1 _ z5⟩, k2⟩⟩
def Qq (q : Nat) (s : Qt.QS) (w : World) (Z : Nat → Prop) : Prop := Qt.Qm w q s ∧ Z q ∧ ∀ i, Z i → i < w.heap.size
theorem Qq.good (q : Nat) (s : Qt.QS) : Good (Qq q s) :=
  ⟨fun h f hs => ⟨h.1.carry f (hs _ h.2.1), h.2.1, fun i hi => Nat.lt_of_lt_of_le (h.2.2 i hi) f.size⟩, fun h k1 k2 => ⟨h.1, k1 _ h.2.1, k2⟩⟩
section
variable {W w : World} {ts : List (World → (Nat → Prop) → Prop)} {a m h t k j q : Nat} {M : Ms} {H : Hp} {c : Ka.Ct} {s : Qt.QS}
theorem kc_back {w' : World} {a o ob s sb : Nat} {c' : Ka.Ct} {S U : Nat → Prop} (z : U a ∧ U o ∧ U ob ∧ U s ∧ U sb) (hl : ∀ i, U i → i < w.heap.size) (k' : Ka.Kt w' a o ob s sb c') (f : Fr S w w') (hS : ∀ i, S i → U i) : ∃ U', Kc a c' w' U' ∧ Gw w w' U U' :=
  ⟨U, ⟨o, ob, s, sb, k', z, fun i hi => Nat.lt_of_lt_of_le (hl i hi) f.size⟩, Gw.same hl (f.mono fun i _ e => hS i e)⟩
theorem kq_grant (g : Things W w ts) (gr : G17 W) (j : Nat) (hj : ts[j]? = some (Kc a c)) (x : Int) : Calls Tryz.prog 82 #[.pointer (some ⟨a, 0, none⟩), .int .i64 x] w fun e w' => e = .returned (.tuple #[.int .u64 (Ka.grV c x), .int .i64 (Ka.grE c x)]) ∧ Things W w' (ts.set j (Kc a (Ka.grS c x))) :=
  g.lift j hj (Kc.good ..) fun U ⟨o, ob, s, sb, k, z, hl⟩ => (Ka.k_grant k (hid (gr.fr g.nw.fr).2) x).mono fun _ _ ⟨he, k', f⟩ => ⟨he, kc_back z hl k' f fun i e => by
    obtain ⟨z1, z2, z3, z4, z5⟩ := z
    rcases e with rfl | rfl <;> assumption⟩
theorem kq_restrict (g : Things W w ts) (gr : G17 W) (j : Nat) (hj : ts[j]? = some (Kc a c)) {b : Int} (b0 : 0 ≤ b) (b1 : b ≤ 18446744073709551615) (r : Int) : Calls Tryz.prog 43 #[.pointer (some ⟨a, 0, none⟩), .int .u64 b, .int .i64 r] w fun e w' => e = .returned (.tuple #[.int .u64 (Ka.reV c b r), .int .i64 (Ka.reE c b r)]) ∧ Things W w' (ts.set j (Kc a (Ka.reS c b r))) :=
  g.lift j hj (Kc.good ..) fun U ⟨o, ob, s, sb, k, z, hl⟩ => (Ka.k_restrict k (hid (gr.fr g.nw.fr).2) b0 b1 r).mono fun _ _ ⟨he, k', f⟩ => ⟨he, kc_back z hl k' f fun i e => by
    obtain ⟨z1, z2, z3, z4, z5⟩ := z
    rcases e with rfl | rfl <;> assumption⟩
theorem kq_revoke (g : Things W w ts) (j : Nat) (hj : ts[j]? = some (Kc a c)) (x : Int) : Calls Tryz.prog 95 #[.pointer (some ⟨a, 0, none⟩), .int .i64 x] w fun e w' => e = .returned (.int .i64 (Ka.rvN c x : Int)) ∧ Things W w' (ts.set j (Kc a (Ka.rvS c x))) :=
  g.lift j hj (Kc.good ..) fun U ⟨o, ob, s, sb, k, z, hl⟩ => (Ka.k_revoke k x).mono fun _ _ ⟨he, k', f⟩ => ⟨he, kc_back z hl k' f fun i e => by
    obtain ⟨z1, z2, z3, z4, z5⟩ := z
    rcases e with rfl | rfl | rfl <;> assumption⟩
theorem kq_find (g : Things W w ts) (j : Nat) (hj : ts[j]? = some (Kc a c)) {b : Int} (b0 : 0 ≤ b) (b1 : b ≤ 18446744073709551615) {r : Int} (hr : -9223372036854775808 ≤ r ∧ r ≤ 9223372036854775807) : Calls Tryz.prog 86 #[.pointer (some ⟨a, 0, none⟩), .int .u64 b, .int .i64 r] w fun e w' => e = .returned (.tuple #[.int .i64 (Ka.fiV c b r), .int .i64 (Ka.fiE c b r)]) ∧ Things W w' ts :=
  g.ask j hj fun _ ⟨_, _, _, _, k, _, _⟩ => Ka.k_find k b0 b1 hr
theorem kq_serial (g : Things W w ts) (j : Nat) (hj : ts[j]? = some (Kc a c)) : Calls Tryz.prog 35 #[.pointer (some ⟨a, 0, none⟩)] w fun e w' => e = .returned (.int .i64 c.nx) ∧ Things W w' ts :=
  g.ask j hj fun _ ⟨_, _, _, _, k, _, _⟩ => Ka.k_serial k
theorem kq_new (g : Things W w ts) (gr : G17 W) {t n : Int} (h : (0 ≤ t ∧ t ≤ 7) ∧ 1 ≤ n ∧ n ≤ 17592186044416) : Calls Tryz.prog 26 #[.int .i64 t, .int .i64 n] w fun e w' => ∃ a, e = .returned (.tuple #[.pointer (some ⟨a, 0, none⟩), .int .i64 0]) ∧ Things W w' (ts ++ [Kc a ⟨t, n, []⟩]) :=
  (Ka.k_new h w (gr.fr g.nw.fr).2).mono fun e w' ⟨a, o, ob, s, sb, he, ⟨⟨z1, z2, z3⟩, z4, z5⟩, k, f⟩ => ⟨a, he, g.more (Kc.good ..) (Z := fun i => i = a ∨ i = o ∨ i = ob ∨ i = s ∨ i = sb) ⟨o, ob, s, sb, k, ⟨.inl rfl, .inr (.inl rfl), .inr (.inr (.inl rfl)), .inr (.inr (.inr (.inl rfl))), .inr (.inr (.inr (.inr rfl)))⟩, fun i hi => by
    have y1 := k.lta; have y2 := k.sho.lta; have y3 := k.sho.ltb; have y4 := k.shs.lta; have y5 := k.shs.ltb
    rcases hi with rfl | rfl | rfl | rfl | rfl <;> assumption⟩ f fun _ hi => by
    have y1 := k.lta; have y2 := k.sho.lta; have y3 := k.sho.ltb; have y4 := k.shs.lta; have y5 := k.shs.ltb
    rcases hi with rfl | rfl | rfl | rfl | rfl <;> exact ⟨by assumption, by assumption⟩⟩
theorem qq_back {w' : World} {s' : Qt.QS} {U : Nat → Prop} (z : U q) (hl : ∀ i, U i → i < w.heap.size) (k' : Qt.Qm w' q s') (f : Fr (fun i => i = q) w w') : ∃ U', Qq q s' w' U' ∧ Gw w w' U U' :=
  ⟨U, ⟨k', z, fun i hi => Nat.lt_of_lt_of_le (hl i hi) f.size⟩, Gw.same hl (f.mono fun _ _ e => e ▸ z)⟩
theorem kq_res (g : Things W w ts) (j : Nat) (hj : ts[j]? = some (Qq q s)) {x y : Int} (r : Rt x y) : Calls Tryz.prog 78 #[.pointer (some ⟨q, 0, none⟩), .complex .f64 (fb x) (fb y)] w fun e w' => e = .returned (.int .i64 (Qt.resE s x y)) ∧ Things W w' (ts.set j (Qq q (Qt.resS s x y))) :=
  g.lift j hj (Qq.good ..) fun _ ⟨k, z, hl⟩ => (Qt.q_res k r).mono fun _ _ ⟨he, k', f⟩ => ⟨he, qq_back z hl k' f⟩
theorem kq_com (g : Things W w ts) (j : Nat) (hj : ts[j]? = some (Qq q s)) {x y : Int} (r : Rt x y) : Calls Tryz.prog 81 #[.pointer (some ⟨q, 0, none⟩), .complex .f64 (fb x) (fb y)] w fun e w' => e = .returned (.int .i64 (Qt.comE s x y)) ∧ Things W w' (ts.set j (Qq q (Qt.comS s x y))) :=
  g.lift j hj (Qq.good ..) fun _ ⟨k, z, hl⟩ => (Qt.q_com k r).mono fun _ _ ⟨he, k', f⟩ => ⟨he, qq_back z hl k' f⟩
theorem kq_can (g : Things W w ts) (j : Nat) (hj : ts[j]? = some (Qq q s)) {x y : Int} (r : Rt x y) : Calls Tryz.prog 80 #[.pointer (some ⟨q, 0, none⟩), .complex .f64 (fb x) (fb y)] w fun e w' => e = .returned (.int .i64 (Qt.canE s x y)) ∧ Things W w' (ts.set j (Qq q (Qt.canS s x y))) :=
  g.lift j hj (Qq.good ..) fun _ ⟨k, z, hl⟩ => (Qt.q_can k r).mono fun _ _ ⟨he, k', f⟩ => ⟨he, qq_back z hl k' f⟩
theorem kq_ref (g : Things W w ts) (j : Nat) (hj : ts[j]? = some (Qq q s)) {x y : Int} (r : Rt x y) : Calls Tryz.prog 33 #[.pointer (some ⟨q, 0, none⟩), .complex .f64 (fb x) (fb y)] w fun e w' => e = .returned (.int .i64 (Qt.refE s x y)) ∧ Things W w' (ts.set j (Qq q (Qt.refS s x y))) :=
  g.lift j hj (Qq.good ..) fun _ ⟨k, z, hl⟩ => (Qt.q_ref k r).mono fun _ _ ⟨he, k', f⟩ => ⟨he, qq_back z hl k' f⟩
theorem kq_cha (g : Things W w ts) (j : Nat) (hj : ts[j]? = some (Qq q s)) : Calls Tryz.prog 34 #[.pointer (some ⟨q, 0, none⟩)] w fun e w' => e = .returned (.complex .f64 (fb s.cb) (fb s.cp)) ∧ Things W w' ts :=
  g.ask j hj fun _ ⟨k, _, _⟩ => (Qt.q_cha k).mono fun _ _ ⟨he, m, hm⟩ => ⟨he, hm ▸ (Fr.refl _ _).drewN m⟩
theorem kq_qnew (g : Things W w ts) {x y : Int} (r : Rt x y) : Calls Tryz.prog 62 #[.complex .f64 (fb x) (fb y)] w fun e w' => ∃ q, e = .returned (.tuple #[.pointer (some ⟨q, 0, none⟩), .int .i64 0]) ∧ Things W w' (ts ++ [Qq q (Qt.newQ x y)]) :=
  (Qt.q_new r w).mono fun _ _ ⟨q, he, hq, k, f⟩ => ⟨q, he, g.more (Qq.good ..) (Z := fun i => i = q) ⟨k, rfl, fun i hi => hi ▸ k.lt⟩ f fun i hi => by subst hi; exact ⟨hq, k.lt⟩⟩
theorem qq_ok (g : Things W w ts) (j : Nat) (hj : ts[j]? = some (Qq q s)) : s.Ok := by obtain ⟨U, h, _⟩ := g.get j hj; exact h.1.ok
theorem Things.arenaH {Pr : Program} {F : Nat} {args : Array Value} {R : Ending → Prop} {bs' : List UInt8} {ss' : List Sp} (g : Things W w ts) (j : Nat) (hj : ts[j]? = some (Hs a m h t k M H))
    (call : ∀ Z Y, Am 104 a M.bs M.ss w Z → Tm t H.T w Y → (∀ i, Z i → ¬ Y i) → Calls Pr F args w fun e w' => R e ∧ ∃ Z', Am 104 a bs' ss' w' Z' ∧ Gw w w' Z Z') : Calls Pr F args w fun e w' => R e ∧ Things W w' (ts.set j (Hs a m h t k ⟨M.has, bs', ss'⟩ H)) := by
  obtain ⟨U, h1, h2, h3⟩ := g.turn j hj
  obtain ⟨V, Y0, v1, w0, v2, v3⟩ := Both.leftT h1 (Hm.good ..)
  obtain ⟨Z, z1, z2, z3⟩ := Both.left v1 (Ct.good ..)
  obtain ⟨Y, y1, y5⟩ := Both.snd w0
  have y2 : ∀ i, Z i → ¬ Y i := fun i a b => v2 i (z2 i a) (y5 i b)
  refine (call Z Y z1 y1 y2).mono ?_
  rintro e w' ⟨he, Z', k1, k2⟩
  obtain ⟨V', a1, a2⟩ := z3 k1 k2
  obtain ⟨U', b1, b2⟩ := v3 (P' := Ac a m k ⟨M.has, bs', ss'⟩) a1 a2
  exact ⟨he, h3 _ w' U' (Hs.good ..) b1 b2⟩
theorem kq_write (g : Things W w ts) (j : Nat) (hj : ts[j]? = some (Hs a m h t k M H)) (hc : Hc k M H) {x : Int} (hx : I64 x) (s : ByteArray) (hs : s.size ≤ 16384) : Calls Tryz.prog 47 #[.pointer (some ⟨a, 0, none⟩), .pointer (some ⟨t, 0, none⟩), .int .i64 x, .string s] w fun e w' => e = .returned (.int .i64 (vwE H.T M.bs.length x s.size)) ∧ Things W w' (ts.set j (Hs a m h t k ⟨M.has, vwB H.T M.bs x s.data.toList, vwT H.T M.bs.length M.ss x s.size⟩ H)) :=
  g.arenaH j hj fun _ _ h1 h2 h3 => v_write h1 h2 h3 hc.ok.tp.tb hx s hs (by have := hc.ss; omega)
theorem kq_read (g : Things W w ts) (j : Nat) (hj : ts[j]? = some (Hs a m h t k M H)) (hc : Hc k M H) {x n : Int} (hx : I64 x) (hn : I64 n) (hs : n ≤ 16384) : Calls Tryz.prog 49 #[.pointer (some ⟨a, 0, none⟩), .pointer (some ⟨t, 0, none⟩), .int .i64 x, .int .i64 n] w fun e w' => e = .returned (.tuple #[.string ⟨(vrV H.T M.bs x n).toArray⟩, .int .i64 (vwE H.T M.bs.length x n)]) ∧ Things W w' (ts.set j (Hs a m h t k ⟨M.has, M.bs, vrT H.T M.bs.length M.ss x n⟩ H)) :=
  g.arenaH j hj fun _ _ h1 h2 h3 => v_read h1 h2 h3 hc.ok.tp.tb hx hn hs (by have := hc.ss; omega)
end
end Go.Proofs.YtioplfbkfokkfaaGreatDoor
