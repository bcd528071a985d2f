/-
  What the document's own table does: Unmap.
-/
import Derived.Test.YtpmajadljlibbaaTaRefB
namespace Go.Proofs.Ytpmajadljlibbaa
open Go.RowKit

/-- A row of pairs that grows, beside a table: all that turns is new. -/
structure Gr2 (w wr : World) (y : Value) (N : Tb) : Prop where
  row : wr.ownsRow w.heap.size 58 2 y N.length (pc N)
  fr : Fr (fun k => w.heap.size ≤ k) w wr
theorem Gr2.start (w : World) {w1 : World} (f : Fr (fun _ => False) w w1) : Gr2 w w1 (.slice none 0 0) [] := ⟨⟨rfl, .inl ⟨rfl, rfl⟩⟩, f.mono fun _ _ e => e.elim⟩
theorem Gr2.le {w wr : World} {y : Value} {N : Tb} (h : Gr2 w wr y N) : w.heap.size ≤ wr.heap.size := h.fr.size
theorem Gr2.rt {w wr : World} {y : Value} {N : Tb} (h : Gr2 w wr y N) {base q : Nat} {v : Value} {T : Tb} (k : Rtb w base q v T) : Rtb wr base q v T := k.carry h.fr (by have := k.ltr; omega) fun x e => by have := k.own_lt e; omega
theorem Gr2.form {w wr : World} {y : Value} {N : Tb} (h : Gr2 w wr y N) : ∃ ad cap, y = .slice ad N.length cap := by
  rcases h.row.2 with ⟨e1, e2⟩ | ⟨g, cap, cur, e1, _⟩
  · exact ⟨none, 0, by rw [e2]; exact e1⟩
  · exact ⟨_, cap, e1⟩
theorem Gr2.next {w wr w' : World} {y : Value} {N : Tb} (h : Gr2 w wr y N) {x : Int × Int} {ob : Obj} {g cap n : Nat} (ho : w'.ownsRow w.heap.size 58 2 (.slice (some ⟨g, 0, none⟩) n cap) (N ++ [x]).length (pc (N ++ [x]))) (f : Fr (fun k => y.ownBlock = some k) (wr.alloc ob) w') : Gr2 w w' (.slice (some ⟨g, 0, none⟩) n cap) (N ++ [x]) :=
  ⟨ho, Fr.trans' (h.fr.alloc ob) f fun i _ e => (h.row.lt i e).1⟩
section
variable {w : World} {base q : Nat} {v : Value} {T : Tb}
/-- The row takes the table's place. -/
theorem Rtb.laid {w wr : World} {y : Value} {N : Tb} (h : Gr2 w wr y N) (k : Rtb w base q v T) (hN : N.length ≤ 5000) : Rtb (wr.setCell ⟨q, 0, none⟩ y) base q y N ∧ Fr (fun k => k = q ∨ v.ownBlock = some k) w (wr.setCell ⟨q, 0, none⟩ y) ∧ Fv w v y := by
  have hq := k.ltr
  have hlo := k.lo
  have hst := (h.rt k).st
  have hne : y.ownBlock ≠ some q := fun e => by have := (h.row.lt q e).1; omega
  refine ⟨⟨?_, ?_, hne, hN, hlo⟩, ?_, .inr fun g e => (h.row.lt g e).1⟩
  · rw [heap_setCell_same wr q 0 _ _ _ hst]; rfl
  · exact own_carry (S := fun x => x = q) (own_low h.row (by omega)) (Fr.setCell (S := fun x => x = q) (p := ⟨q, 0, none⟩) (Fr.refl _ _) rfl _) fun x hx e => hne (by rw [← e]; exact hx)
  · exact Fr.trans' ((Fr.new h.fr).mono fun _ _ e => e.elim) (Fr.setCell (S := fun x => x = q) (p := ⟨q, 0, none⟩) (Fr.refl _ _) rfl _) fun i _ e => .inl e
set_option maxRecDepth 20000 in
set_option maxHeartbeats 1000000 in
theorem f_unmap (h : Rtb w base q v T) (ok : TbOk T) (x : Int) : Calls Try.prog 12 #[.pointer (some ⟨q, 0, none⟩), .int .i64 x] w fun e w' => e = .returned (.tuple #[.int .i64 (tbUV T x), .int .i64 (tbUE T x)]) ∧ ∃ v', Rtb w' base q v' (tbU T x) ∧ Fr (fun k => k = q ∨ v.ownBlock = some k) w w' ∧ Fv w v v' := by
  have HR := hid h
  have hlen := h.len
  have H1 := hid (f_find h x)
  clear h
  by_cases hf : tbF T x < 0
  · have e1 : tbUV T x = 0 := if_pos hf
    have e2 : tbUE T x = 13 := if_pos hf
    have E3 := hid (tbU_none (ok.f_none hf).2)
    rw [e1, e2]
    clear e1 e2 ok
    generalize tbF T x = fx at *
    go_enter Try.func12, Try.ntmps12
    go_wp2_with fail
    refine H1.out.mono ?_
    rintro e w1 ⟨rfl, f⟩
    have HF := hid f
    clear f H1
    go_wp2
    go_ret2
    exact ⟨by simp, v, by rw [E3.out]; exact HR.out.kept HF.out, HF.out.mono fun _ _ e => e.elim, .inl rfl⟩
  have e1 : tbUV T x = tbF T x := if_neg hf
  have e2 : tbUE T x = 0 := if_neg hf
  rw [e1, e2]
  clear e1 e2 ok
  generalize tbF T x = fx at *
  go_enter Try.func12, Try.ntmps12
  go_wp2_with fail
  refine H1.out.mono ?_
  rintro e w1 ⟨rfl, f⟩
  have HG := hid (Gr2.start w f)
  clear f H1
  go_wp2
  go_loopw [7, 8] (fun y i wr => ∃ m : Nat, m ≤ T.length ∧ i = .int .i64 m ∧ Hid (Gr2 w wr y (tbU (T.take m) x))) (fun _ i _ => T.length - (intOf i).toNat)
  case atStart => exact ⟨0, by omega, rfl, HG⟩
  case round =>
    clear HG
    obtain ⟨m, hm, rfl, HG⟩ := hrel
    have HR2 := hid (HG.out.rt HR.out)
    have c0 := HR2.out.c0
    by_cases hlt : m < T.length
    · obtain ⟨g, cap, e, x0, x1⟩ := HR2.out.cells m hlt
      subst e
      have hs := tbU_snoc (T.take m) T[m] x
      rw [← List.take_succ_eq_append_getElem hlt] at hs
      have hN : (tbU (T.take m) x).length ≤ 5000 := by have := tbU_len (T.take m) x; rw [List.length_take] at this; omega
      by_cases hx : T[m].1 = x
      · rw [if_pos hx] at hs
        rw [← hs] at HG
        clear hs HR HR2
        generalize T[m].2 = y2 at *
        generalize T[m].1 = y1 at *
        subst hx
        go_wp2
        go_roundw
        case rel => exact ⟨m + 1, by omega, by go_num, HG⟩
        case measure => simp [intOf]; omega
      · rw [if_neg hx] at hs
        have hbs := HG.out.le
        have HS := hid hs
        have hT : T[m] = (T[m].1, T[m].2) := rfl
        have HX : Hid (∀ w0 : World, PairsAt (w0.alloc (.cells #[.int .i64 T[m].1, .int .i64 T[m].2] 58)) (some ⟨w0.heap.size, 0, none⟩) [T[m]]) := fun w0 => pairs_one (heap_alloc_new w0 _)
        generalize tbU (T.take m) x = N at *
        clear hs HR HR2 hT
        generalize T[m] = tm at *
        obtain ⟨y1, y2⟩ := tm
        simp only at *
        go_wp2_with (at_builtin; refine wpList_pairs rfl (.tmp 33) (.tmp 41) rfl (HG.out.row.alloc _) (.inr (by simp)) 1 (HX.out wr) (by simp; omega) (by simp; omega) rfl rfl ?_)
        intro g3 cap3 w3 ho3 hf3 hs3
        have HG3 := hid (HG.out.next (x := (y1, y2)) (by rw [List.length_append]; exact ho3) hf3)
        clear ho3 hf3 hs3 HG HX
        rw [← HS.out] at HG3
        go_wp2
        go_roundw
        case rel => exact ⟨m + 1, by omega, by go_num, HG3⟩
        case measure => simp [intOf]; omega
    · obtain rfl : T.length = m := by omega
      rw [List.take_length] at HG
      obtain ⟨ad, cap, rfl, _⟩ := HR2.out.form
      have HL := hid (HR.out.laid HG.out (by have := tbU_len T x; omega))
      obtain ⟨ad9, cap9, rfl⟩ := HG.out.form
      generalize (tbU T x).length = n9 at *
      have fz := HR2.out.fz 0
      clear HR HR2
      go_wp2
      go_ret2
      exact ⟨by simp, _, HL.out.1, HL.out.2.1, HL.out.2.2⟩
end
end Go.Proofs.Ytpmajadljlibbaa
