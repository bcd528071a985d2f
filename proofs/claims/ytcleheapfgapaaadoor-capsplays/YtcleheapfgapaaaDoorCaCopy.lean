/-
  What the calls of package caps do: Copy.
-/
import Derived.Test.YtcleheapfgapaaaDoorCaNew
import Derived.Great.Walk
namespace Go.Proofs.YtcleheapfgapaaaDoor
open Go.RowKit

theorem wpList_zero {P : Program} {ops : Array Oper} {rest : List Oper} {o : Oper} {a : Act} {w : World} {Q : Exit → Act → World → Prop} (hg : o.guard = none) (t : TypeId) (ho : o.op = .alloc t) (d : Option Tmp) (hd : o.dst = d)
    (cs : Array Value) (hz : ∀ w, (zeroValue t).run P w = .ok (.agg cs) w) (h : wpList P ops Q rest (a.put d (.pointer (some ⟨w.heap.size, 0, none⟩))) (w.alloc (.cells cs t))) : wpList P ops Q (o :: rest) a w := by
  refine Great.wpList_allocTo hg d hd _ _ ?_ h
  unfold execOp
  simp [ho, Instr.alloc, hz, newVar, newRow, Value.cells]
theorem wpList_over {P : Program} {ops : Array Oper} {rest : List Oper} {o : Oper} {a : Act} {w : World} {Q : Exit → Act → World → Prop} (hgd : o.guard = none) (ty : TypeId) (x y : Operand) (ho : o.op = .store ty x y)
    (hd : o.dst = none) (cells : Array Value) (hx : a.eval x = .pointer (some ⟨w.heap.size, 0, none⟩)) (hy : a.eval y = .agg cells)
    (old : Array Value) (hi : (P.info? ty).map (·.size) = some cells.size) (hold : old.size = cells.size) (h1 : cells.all (·.oneCell') = true)
    (h : wpList P ops Q rest a (w.alloc (.cells cells ty))) : wpList P ops Q (o :: rest) a (w.alloc (.cells old ty)) := by
  refine wpList_store_rowTo hgd ty x y ho hd w.heap.size cells hx hy ty old (heap_alloc_last w _) hi hold h1 ?_
  rw [World.setRow_alloc_new]
  exact h
theorem cell_far {w : World} {a B : Nat} (h : a ≠ B) (i j : Nat) (v : Value) : (w.setCell ⟨B, i, none⟩ v).cell? ⟨a, j, none⟩ = w.cell? ⟨a, j, none⟩ := World.cell?_of_block (Below.heap_setCell w _ _ a h)
/-- Other shelves. -/
theorem Ck.shelves {cs : Array Value} {T nx : Int} {L : List Sl} {o s : Nat} (h : Ck cs T nx L o s) (o' s' : Nat) : Ck ((cs.setIfInBounds 2 (.pointer (some ⟨o', 0, none⟩))).setIfInBounds 3 (.pointer (some ⟨s', 0, none⟩))) T nx L o' s' := by
  refine ⟨by rw [Array.size_setIfInBounds, Array.size_setIfInBounds]; exact h.sz, fun i hi => ?_⟩
  rw [Array.getElem?_setIfInBounds, Array.getElem?_setIfInBounds, Array.size_setIfInBounds, h.sz]
  by_cases e3 : 3 = i
  · subst e3; rfl
  rw [if_neg e3]
  by_cases e2 : 2 = i
  · subst e2; rfl
  rw [if_neg e2, h.at_ i hi]
  unfold ckv
  by_cases h4 : i < 4
  · rw [if_pos h4, if_pos h4]
    by_cases e0 : i = 0
    · rw [if_pos e0, if_pos e0]
    · rw [if_neg e0, if_neg e0, if_pos (by omega), if_pos (by omega)]
  · rw [if_neg h4, if_neg h4]
theorem Ck.one {cs : Array Value} {T nx : Int} {L : List Sl} {o s : Nat} (h : Ck cs T nx L o s) : cs.all (·.oneCell') = true := by
  rw [Array.all_eq_true]
  intro i hi
  have := h.at_ i (by rw [← h.sz]; exact hi)
  rw [Array.getElem?_eq_getElem hi] at this
  rw [Option.some.inj this]
  exact ckv_one ..
section
variable {w : World} {a o ob s sb : Nat} {c : Ct}
set_option maxRecDepth 20000 in
set_option maxHeartbeats 1000000 in
theorem k_copy (h : Kt w a o ob s sb c) : Calls Tryd.prog 21 #[.pointer (some ⟨a, 0, none⟩)] w fun e w' => ∃ a' o' ob' s' sb', e = .returned (.pointer (some ⟨a', 0, none⟩)) ∧ ((w.heap.size ≤ a' ∧ w.heap.size ≤ o' ∧ w.heap.size ≤ ob') ∧ w.heap.size ≤ s' ∧ w.heap.size ≤ sb') ∧ Kt w' a' o' ob' s' sb' c ∧ Fr (fun _ => False) w w' := by
  have HH := hid h
  obtain ⟨cs, hcs, hck⟩ := h.st
  obtain ⟨i0, cs0, hi0, hz0, hsz, hs0, _⟩ := zero_cells
  have hz : ∀ w, (zeroValue 68).run Tryd.prog w = .ok (.agg cs0) w := (zero_of_info (n := 12484) (by rw [hi0]; simp [hz0, hsz])).1
  have hsize : (Tryd.prog.info? 68).map (·.size) = some cs.size := by rw [hi0, hck.sz]; simp [hsz]
  have hold : cs0.size = cs.size := by rw [hs0, hck.sz]
  have hone := hck.one
  have HC := hid hck
  have c2 := h.c2
  have c3 := h.c3
  clear h hck hi0 hz0 hsz hs0
  go_enter Tryd.func21, Tryd.ntmps21
  go_wp2_with (first | refine wpList_load_row rfl 68 (.tmp 7) rfl a rfl 68 cs (0, 0) _ hcs Tryd.underlying68 rfl hsize ?_ | refine wpList_zero rfl 68 rfl (some 3) rfl cs0 hz ?_ | refine wpList_over rfl 68 (.tmp 3) (.tmp 8) rfl rfl cs rfl rfl cs0 hsize hold hone ?_)
  go_simp
  have K1 := hid (HH.out.kept ((Fr.refl _ _).alloc (.cells cs 68)))
  have F1 := hid ((Fr.refl (fun _ => False) w).alloc (.cells cs 68))
  have B1 : Hid ((w.alloc (.cells cs 68)).heap[w.heap.size]? = some (.cells cs 68 (0, 0))) := heap_alloc_new w _
  have HLT : Hid (a < w.heap.size) := HH.out.lta
  have HH0 : Hid (0 < w.heap.size) := by have := HH.out.a0; have := HH.out.lta; show 0 < _; omega
  have hne : a ≠ w.heap.size := by have := HLT.out; omega
  clear c2 c3 hcs hz hsize hold hone HH
  generalize hw1 : w.alloc (.cells cs 68) = w1 at *
  have HB1 : Hid (w.heap.size < w1.heap.size) := by rw [← hw1]; show _ < _; simp
  generalize hB : w.heap.size = B at *
  clear hw1
  have c2 := K1.out.c2
  have c3 := K1.out.c3
  have H1 := hid fun (w0 : World) (h : Kt w0 a o ob s sb c) => Sf.s_copy h.sho
  have H2 := hid fun (w0 : World) (h : Kt w0 a o ob s sb c) => Sf.s_copy h.shs
  go_region_held3 (fun w' => w'.cell? ⟨a, 2, none⟩ = some (.pointer (some ⟨o, 0, none⟩)) ∧ w'.cell? ⟨a, 3, none⟩ = some (.pointer (some ⟨s, 0, none⟩))) (first | exact ⟨by assumption, by assumption⟩ | exact ⟨by simp only [cell_far hne]; assumption, by simp only [cell_far hne]; assumption⟩ | go_keep) (first | (go_at_call_of 34 o; refine (H1.out _ (K1.out.kept (Fr.refl _ _).drew)).mono ?_; rintro e w2 ⟨o', ob', rfl, h2, f2, z1, z2⟩; have f2' := (Fr.refl (fun _ => False) w1).drew.trans f2; have K2 := hid (K1.out.kept f2'); have S2 := hid h2; have F2 := hid (F1.out.trans f2'); have Z2 : Hid (w1.heap.size ≤ o' ∧ w1.heap.size ≤ ob') := ⟨z1, z2⟩; have B2 := hid ((f2'.block B HB1.out id).trans B1.out); have L2 := hid f2'.size; have c22 := K2.out.c2; have c23 := K2.out.c3; clear f2 f2' h2 z1 z2) | (go_at_call_of 34 s; refine (H2.out _ K2.out).mono ?_; rintro e w3 ⟨s', sb', rfl, h3, f3, z3, z4⟩; have K3 := hid (K2.out.kept f3); have S3 := hid h3; have T3 := hid (S2.out.carry f3 id id id); have F3 := hid (F2.out.trans f3); have Z3 : Hid ((o' < w2.heap.size ∧ ob' < w2.heap.size) ∧ w2.heap.size ≤ s' ∧ w2.heap.size ≤ sb') := ⟨⟨S2.out.lta, S2.out.ltb⟩, z3, z4⟩; have B3 := hid ((f3.block B (by have := HB1.out; have := L2.out; have : w1.drew.heap.size = w1.heap.size := rfl; omega) id).trans B2.out); have c32 := K3.out.c2; have c33 := K3.out.c3; have p2 := (cell_at B3.out 2).trans (HC.out.at_ 2 (by omega)); have p3 := (cell_at B3.out 3).trans (HC.out.at_ 3 (by omega)); have g : ∀ i, w3.frozen? ⟨B, i, none⟩ = false := fun i => (by simp [World.frozen?, B3.out]); clear f3 h3 z3 z4))
  have F4 := hid (Fr.setCell (S := fun i => i = B) (Fr.setCell (S := fun i => i = B) (Fr.refl _ w3) (p := ⟨B, 2, none⟩) rfl (.pointer (some ⟨o', 0, none⟩))) (p := ⟨B, 3, none⟩) rfl (.pointer (some ⟨s', 0, none⟩)))
  have B4 := hid (heap_set (heap_set B3.out 2 (.pointer (some ⟨o', 0, none⟩))) 3 (.pointer (some ⟨s', 0, none⟩)))
  clear p2 p3 g c32 c33 c22 c23 c2 c3
  generalize (w3.setCell ⟨B, 2, none⟩ (.pointer (some ⟨o', 0, none⟩))).setCell ⟨B, 3, none⟩ (.pointer (some ⟨s', 0, none⟩)) = w4 at *
  go_wp2
  go_ret
  have q1 := HLT.out
  have q2 := HB1.out
  have q3 := Z2.out
  have q4 := Z3.out
  have q5 := L2.out
  have q6 : w1.drew.heap.size = w1.heap.size := rfl
  have q7 := HH0.out
  have hw := F3.out
  refine ⟨B, o', ob', s', sb', by simp, by omega, ?_, ?_⟩
  · refine ⟨⟨_, B4.out, HC.out.shelves o' s'⟩, T3.out.carry F4.out (by omega) (by omega) (by omega), S3.out.carry F4.out (by omega) (by omega) (by omega), by omega, by omega, K1.out.ok⟩
  · exact (hw.mono fun _ _ e => e.elim).trans' F4.out fun i hi e => by omega
end
end Go.Proofs.YtcleheapfgapaaaDoor
