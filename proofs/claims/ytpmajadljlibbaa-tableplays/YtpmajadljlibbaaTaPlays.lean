/-
  In every order of calls local pages are the pages that the document says: the walk of the law TablePlays.
-/
import Derived.Test.YtpmajadljlibbaaTaAwake
import Derived.Test.YtpmajadljlibbaaTaOpen
import Derived.Test.YtpmajadljlibbaaTaRef
import Derived.Deep.CutBlock
import Derived.Deep.DeepCutAuto
namespace Go.Proofs.Ytpmajadljlibbaa
open Go.RowKit

set_option maxRecDepth 20000 in
set_option maxHeartbeats 4000000 in
theorem plays_walk (sv : Value) (w : World) (h : ∃ ad cap l, sv = .slice ad (List.length l) cap ∧ OpsAt w ad l ∧ l.length ≤ maxLen) : Calls Try.prog 3 #[sv] w fun e w' => e = .returned (.bool true) ∧ Fr (fun _ => False) w w' := by
  obtain ⟨ad, cap, l, rfl, hops, hmax⟩ := h
  have T0 : Hid (Things w w []) := Things.start (Nw.start w)
  have HA : Hid (∀ w0 ts, Things w w0 ts → Calls Try.prog 7 #[] w0 fun e w' => e = .returned (.bool true) ∧ Things w w' ts) := fun w0 ts h => awake_t h
  have H0 : Hid (∀ w0 ts, Things w w0 ts → Calls Try.prog 8 #[] w0 fun e w' => ∃ t, e = .returned (.pointer (some ⟨t, 0, none⟩)) ∧ Things w w' (ts ++ [Tm t []])) := fun w0 ts h => g_new h
  have HO := hid hops
  clear hops
  go_enter Try.func3, Try.ntmps3
  go_wp2_with fail
  refine (HA.out _ _ T0.out).mono ?_
  rintro e w1 ⟨rfl, h1⟩
  have T1 := hid h1
  clear h1 T0
  by_cases hl : 200 < l.length
  · have hl' : 200 < (l.length : Int) := by omega
    clear HO H0
    go_wp2_with fail
    refine (HA.out _ _ T1.out).mono ?_
    rintro e w5 ⟨rfl, h1⟩
    have T5 := hid h1
    clear h1 T1
    go_wp2
    go_ret
    exact ⟨by simp, T5.out.nw.fr⟩
  have hl' : (l.length : Int) ≤ 200 := by omega
  clear HA
  go_wp2_with fail
  refine (H0.out _ _ T1.out).mono ?_
  rintro e w2 ⟨t0, rfl, h1⟩
  have T2 : Hid (Things w (w2.alloc (.cells #[.slice none 0 0] 29)) [Tm t0 [], Dt w.heap.size w2.heap.size []]) := Things.dtNew (ts := [_]) h1
  clear h1 T1 H0
  go_wp2
  generalize hq : w2.heap.size = q at *
  clear hq
  go_loopw [3, 29] (fun pv i wr => ∃ j p : Nat, j ≤ l.length ∧ pv = .pointer (some ⟨p, 0, none⟩) ∧ i = .int .i64 j ∧ ∃ T, TbOk T ∧ T.length ≤ j ∧ Things w wr [Tm p T, Dt w.heap.size q T]) (fun _ i _ => l.length - (intOf i).toNat)
  case atStart => exact ⟨0, t0, by omega, rfl, rfl, [], TbOk.none, by simp, T2.out⟩
  case round =>
    clear T2
    obtain ⟨j, p, hj, rfl, rfl, T, hok, hlen, ht⟩ := hrel
    have T3 := hid ht
    have OK0 := hid hok
    clear ht hok
    by_cases hlt : j < l.length
    case neg =>
      clear HO
      go_wp2
      go_ret
      exact ⟨by simp, T3.out.nw.fr⟩
    obtain ⟨bb, off, rfl, hbb, p1, p2, p3, hB⟩ := HO.out.fr T3.out.nw.fr j hlt
    generalize hop : l[j] = op2 at p1 p2 p3 hB
    obtain ⟨kd, x, y⟩ := op2
    simp only at p1 p2 p3 hB
    have HX0 : Hid (I64 x) := hB.2.1
    have HY0 : Hid (I64 y) := hB.2.2
    have T0 : Hid (Things w (wr.alloc (.cells #[.int .i64 kd, .int .i64 x, .int .i64 y] 31)) [Tm p T, Dt w.heap.size q T, Blk wr.heap.size (.cells #[.int .i64 kd, .int .i64 x, .int .i64 y] 31 (0, 0))]) := T3.out.blk _
    clear hop HO T3 hB
    generalize hw0 : wr.alloc (.cells #[.int .i64 kd, .int .i64 x, .int .i64 y] 31) = wa at T0
    generalize hB : wr.heap.size = B at T0
    have HXC0 : Hid (∀ w0 k2 R1 R2, Things w w0 [R1, R2, Blk B (.cells #[.int .i64 k2, .int .i64 x, .int .i64 y] 31 (0, 0))] → w0.cell? ⟨B, 1, none⟩ = some (.int .i64 x) ∧ w0.cell? ⟨B, 2, none⟩ = some (.int .i64 y)) := fun w0 k2 R1 R2 h => by
      have hb := h.cells 2 rfl
      exact ⟨by simp [World.cell?, hb], by simp [World.cell?, hb]⟩
    obtain ⟨c1, c2⟩ := HXC0.out _ _ _ _ T0.out
    have c0 : wa.cell? ⟨B, 0, none⟩ = some (.int .i64 kd) := by
      have hb := T0.out.cells 2 rfl
      simp [World.cell?, hb]
    go_upto_block 2 with fail
    go_cut [3, 7, 8, 9, 10] (fun tv ev fv av bv wx => ∃ (p2 : Nat) (T2 : Tb) (me uv : Int), tv = .pointer (some ⟨p2, 0, none⟩) ∧ ev = .int .i64 me ∧ fv = .int .i64 me ∧ av = .int .i64 uv ∧ bv = .int .i64 uv ∧ Hid (TbOk T2) ∧ Hid (T2.length ≤ j + 1) ∧ Hid (Things w wx [Tm p2 T2, Dt w.heap.size q T2, Blk B (.cells #[.int .i64 kd, .int .i64 x, .int .i64 y] 31 (0, 0))]))
    case first =>
      by_cases h1 : kd = 1
      · subst h1
        have H5 : Hid (∀ w0, Things w w0 [Tm p T, Dt w.heap.size q T, Blk B (.cells #[.int .i64 1, .int .i64 x, .int .i64 y] 31 (0, 0))] → Calls Try.prog 9 #[.pointer (some ⟨p, 0, none⟩), .int .i64 x, .int .i64 y] w0 fun e w' => e = .returned (.int .i64 (tbME T x y)) ∧ Things w w' [Tm p (tbM T x y), Dt w.heap.size q T, Blk B (.cells #[.int .i64 1, .int .i64 x, .int .i64 y] 31 (0, 0))]) := fun w0 h => g_map h 0 rfl OK0.out HX0.out HY0.out
        have H6 : Hid (∀ w0, Things w w0 [Tm p (tbM T x y), Dt w.heap.size q T, Blk B (.cells #[.int .i64 1, .int .i64 x, .int .i64 y] 31 (0, 0))] → Calls Try.prog 10 #[.pointer (some ⟨q, 0, none⟩), .int .i64 x, .int .i64 y] w0 fun e w' => e = .returned (.int .i64 (tbME T x y)) ∧ Things w w' [Tm p (tbM T x y), Dt w.heap.size q (tbM T x y), Blk B (.cells #[.int .i64 1, .int .i64 x, .int .i64 y] 31 (0, 0))]) := fun w0 h => y_map h 1 rfl (by omega) x y
        have OK2 : Hid (TbOk (tbM T x y)) := OK0.out.map x y
        have HL2 : Hid ((tbM T x y).length ≤ j + 1) := by have := tbM_len T x y; show _ ≤ _; omega
        clear OK0
        generalize tbME T x y = me at *
        generalize tbM T x y = L2 at *
        go_wp2_with fail
        go_region_held3 (fun w' => w'.cell? ⟨B, 1, none⟩ = some (.int .i64 x) ∧ w'.cell? ⟨B, 2, none⟩ = some (.int .i64 y)) (first | exact ⟨by assumption, by assumption⟩ | go_keep) (first | (go_at_call 10; refine (H6.out _ T7.out).mono ?_; rintro e w7 ⟨rfl, h7⟩; have T8 := hid h7; obtain ⟨c71, c72⟩ := HXC0.out _ _ _ _ h7; clear h7) | (go_at_call 9; refine (H5.out _ (T0.out.kept (Fr.refl _ _).drew)).mono ?_; rintro e w6 ⟨rfl, h6⟩; have T7 := hid h6; obtain ⟨c61, c62⟩ := HXC0.out _ _ _ _ h6; clear h6))
        clear H5 H6 T0 T7 c0 c1 c2 c61 c62 hw0
        go_wp2_with fail
        go_meet
        exact ⟨p, L2, me, 0, rfl, rfl, rfl, rfl, rfl, OK2, HL2, T8⟩
      have n1 := h1
      clear h1
      by_cases h1 : kd = 2
      · subst h1
        have H5 : Hid (∀ w0, Things w w0 [Tm p T, Dt w.heap.size q T, Blk B (.cells #[.int .i64 2, .int .i64 x, .int .i64 y] 31 (0, 0))] → Calls Try.prog 11 #[.pointer (some ⟨p, 0, none⟩), .int .i64 x] w0 fun e w' => e = .returned (.tuple #[.int .i64 (tbUV T x), .int .i64 (tbUE T x)]) ∧ Things w w' [Tm p (tbU T x), Dt w.heap.size q T, Blk B (.cells #[.int .i64 2, .int .i64 x, .int .i64 y] 31 (0, 0))]) := fun w0 h => g_unmap h 0 rfl OK0.out HX0.out
        have H6 : Hid (∀ w0, Things w w0 [Tm p (tbU T x), Dt w.heap.size q T, Blk B (.cells #[.int .i64 2, .int .i64 x, .int .i64 y] 31 (0, 0))] → Calls Try.prog 12 #[.pointer (some ⟨q, 0, none⟩), .int .i64 x] w0 fun e w' => e = .returned (.tuple #[.int .i64 (tbUV T x), .int .i64 (tbUE T x)]) ∧ Things w w' [Tm p (tbU T x), Dt w.heap.size q (tbU T x), Blk B (.cells #[.int .i64 2, .int .i64 x, .int .i64 y] 31 (0, 0))]) := fun w0 h => y_unmap h 1 rfl OK0.out x
        have OK2 : Hid (TbOk (tbU T x)) := OK0.out.unmap x
        have HL2 : Hid ((tbU T x).length ≤ j + 1) := by have := tbU_len T x; show _ ≤ _; omega
        clear OK0
        generalize tbUV T x = uv at *
        generalize tbUE T x = me at *
        generalize tbU T x = L2 at *
        go_wp2_with fail
        refine (H5.out _ T0.out).mono ?_
        rintro e w6 ⟨rfl, h6⟩
        have T7 := hid h6
        obtain ⟨c61, c62⟩ := HXC0.out _ _ _ _ h6
        clear h6 H5 T0 c0 c1 c2 hw0
        go_wp2_with fail
        refine (H6.out _ T7.out).mono ?_
        rintro e w7 ⟨rfl, h7⟩
        have T8 := hid h7
        obtain ⟨c71, c72⟩ := HXC0.out _ _ _ _ h7
        clear h7 H6 T7 c61 c62
        go_wp2_with fail
        go_meet
        exact ⟨p, L2, me, uv, rfl, rfl, rfl, rfl, rfl, OK2, HL2, T8⟩
      have n2 := h1
      clear h1
      by_cases h1 : kd = 3
      · subst h1
        have H5 : Hid (∀ w0, Things w w0 [Tm p T, Dt w.heap.size q T, Blk B (.cells #[.int .i64 3, .int .i64 x, .int .i64 y] 31 (0, 0))] → Calls Try.prog 13 #[.pointer (some ⟨p, 0, none⟩), .int .i64 x, .int .i64 y] w0 fun e w' => e = .returned (.tuple #[.int .i64 (tbSV T x y), .int .i64 (tbSE T x y)]) ∧ Things w w' [Tm p (tbS T x y), Dt w.heap.size q T, Blk B (.cells #[.int .i64 3, .int .i64 x, .int .i64 y] 31 (0, 0))]) := fun w0 h => g_swap h 0 rfl OK0.out HX0.out HY0.out
        have H6 : Hid (∀ w0, Things w w0 [Tm p (tbS T x y), Dt w.heap.size q T, Blk B (.cells #[.int .i64 3, .int .i64 x, .int .i64 y] 31 (0, 0))] → Calls Try.prog 14 #[.pointer (some ⟨q, 0, none⟩), .int .i64 x, .int .i64 y] w0 fun e w' => e = .returned (.tuple #[.int .i64 (tbSV T x y), .int .i64 (tbSE T x y)]) ∧ Things w w' [Tm p (tbS T x y), Dt w.heap.size q (tbS T x y), Blk B (.cells #[.int .i64 3, .int .i64 x, .int .i64 y] 31 (0, 0))]) := fun w0 h => y_swap h 1 rfl x y
        have OK2 : Hid (TbOk (tbS T x y)) := OK0.out.swap x y
        have HL2 : Hid ((tbS T x y).length ≤ j + 1) := by have := tbS_len T x y; show _ ≤ _; omega
        clear OK0
        generalize tbSV T x y = uv at *
        generalize tbSE T x y = me at *
        generalize tbS T x y = L2 at *
        go_wp2_with fail
        refine (H5.out _ T0.out).mono ?_
        rintro e w6 ⟨rfl, h6⟩
        have T7 := hid h6
        obtain ⟨c61, c62⟩ := HXC0.out _ _ _ _ h6
        clear h6 H5 T0 c0 c1 c2 hw0
        go_wp2_with fail
        refine (H6.out _ T7.out).mono ?_
        rintro e w7 ⟨rfl, h7⟩
        have T8 := hid h7
        obtain ⟨c71, c72⟩ := HXC0.out _ _ _ _ h7
        clear h7 H6 T7 c61 c62
        go_wp2_with fail
        go_meet
        exact ⟨p, L2, me, uv, rfl, rfl, rfl, rfl, rfl, OK2, HL2, T8⟩
      have n3 := h1
      clear h1
      by_cases h1 : kd = 4
      · subst h1
        by_cases hy : 8192 < y
        · have T9 := hid (Things.less (ts := [_, _]) T0.out)
          have OK2 := OK0
          clear OK0 T0 HXC0
          go_wp2
          go_roundw
          case rel => exact ⟨j + 1, p, by omega, rfl, by go_num, T, OK2.out, by omega, T9.out⟩
          case measure => simp [intOf]; omega
        have H5 : Hid (∀ w0, Things w w0 [Tm p T, Dt w.heap.size q T, Blk B (.cells #[.int .i64 4, .int .i64 x, .int .i64 y] 31 (0, 0))] → Calls Try.prog 15 #[.pointer (some ⟨p, 0, none⟩), .int .i64 x, .int .i64 y] w0 fun e w' => ∃ ad cap, e = .returned (.tuple #[.slice ad (piL T x y).length cap, .int .i64 (piE T x y)]) ∧ Things w w' ([Tm p T, Dt w.heap.size q T, Blk B (.cells #[.int .i64 4, .int .i64 x, .int .i64 y] 31 (0, 0))] ++ [Sv ad (piL T x y)])) := fun w0 h => g_pieces h 0 rfl OK0.out HX0.out HY0.out
        have H6 : Hid (∀ w0 R, Things w w0 ([Tm p T, Dt w.heap.size q T, Blk B (.cells #[.int .i64 4, .int .i64 x, .int .i64 y] 31 (0, 0))] ++ [R]) → Calls Try.prog 16 #[.pointer (some ⟨q, 0, none⟩), .int .i64 x, .int .i64 y] w0 fun e w' => ∃ ad cap, e = .returned (.tuple #[.slice ad (piL T x y).length cap, .int .i64 (piE T x y)]) ∧ Things w w' ([Tm p T, Dt w.heap.size q T, Blk B (.cells #[.int .i64 4, .int .i64 x, .int .i64 y] 31 (0, 0))] ++ [R] ++ [Sv ad (piL T x y)])) := fun w0 R h => y_pieces h 1 rfl OK0.out (by omega)
        have hpl : (piL T x y).length ≤ 1000000 := by have := piL_len (T := T) (a := x) (n := y) (by omega); omega
        have H7 : Hid (∀ w0 ad5 cap5 ad6 cap6, Things w w0 ([Tm p T, Dt w.heap.size q T, Blk B (.cells #[.int .i64 4, .int .i64 x, .int .i64 y] 31 (0, 0))] ++ [Sv ad5 (piL T x y)] ++ [Sv ad6 (piL T x y)]) → Calls Try.prog 17 #[.slice ad5 (piL T x y).length cap5, .slice ad6 (piL T x y).length cap6] w0 fun e w' => e = .returned (.bool true) ∧ Things w w' [Tm p T, Dt w.heap.size q T, Blk B (.cells #[.int .i64 4, .int .i64 x, .int .i64 y] 31 (0, 0))]) := fun w0 ad5 cap5 ad6 cap6 h => (spans_same (h.sps 3 rfl) (h.sps 4 rfl) (by omega)).mono fun _ _ ⟨he, f⟩ => ⟨he, Things.less (ts := [_, _, _]) (Things.less (ts := [_, _, _, _]) (h.kept f))⟩
        have HXD : Hid (∀ w0 R, Things w w0 ([Tm p T, Dt w.heap.size q T, Blk B (.cells #[.int .i64 4, .int .i64 x, .int .i64 y] 31 (0, 0))] ++ [R]) → w0.cell? ⟨B, 1, none⟩ = some (.int .i64 x) ∧ w0.cell? ⟨B, 2, none⟩ = some (.int .i64 y)) := fun w0 R h => HXC0.out _ _ _ _ (Things.less (ts := [_, _, _]) h)
        have OK2 := OK0
        have HL2 : Hid (T.length ≤ j + 1) := by show _ ≤ _; omega
        clear OK0
        generalize piE T x y = pe at *
        generalize piL T x y = M at *
        go_wp2_with fail
        refine (H5.out _ T0.out).mono ?_
        rintro e w6 ⟨ad6, cap6, rfl, h6⟩
        have T7 := hid h6
        obtain ⟨c61, c62⟩ := HXD.out _ _ h6
        clear h6 H5 T0 c0 c1 c2 hw0
        go_wp2_with fail
        refine (H6.out _ _ T7.out).mono ?_
        rintro e w7 ⟨ad7, cap7, rfl, h7⟩
        have T8 := hid h7
        clear h7 H6 T7 c61 c62
        go_wp2_with fail
        refine (H7.out _ _ _ _ _ T8.out).mono ?_
        rintro e w8 ⟨rfl, h8⟩
        have T9 := hid h8
        clear h8 H7 T8 HXD
        go_wp2_with fail
        go_meet
        exact ⟨p, T, 0, 0, rfl, rfl, rfl, rfl, rfl, OK2, HL2, T9⟩
      have H5 : Hid (∀ w0, Things w w0 [Tm p T, Dt w.heap.size q T, Blk B (.cells #[.int .i64 kd, .int .i64 x, .int .i64 y] 31 (0, 0))] → Calls Try.prog 18 #[.pointer (some ⟨p, 0, none⟩)] w0 fun e w' => ∃ pc, e = .returned (.pointer (some ⟨pc, 0, none⟩)) ∧ Things w w' ([Tm p T, Dt w.heap.size q T, Blk B (.cells #[.int .i64 kd, .int .i64 x, .int .i64 y] 31 (0, 0))] ++ [Tm pc T])) := fun w0 h => g_copy h 0 rfl OK0.out
      have H6 : Hid (∀ w0 R, Things w w0 ([Tm p T, Dt w.heap.size q T, Blk B (.cells #[.int .i64 kd, .int .i64 x, .int .i64 y] 31 (0, 0))] ++ [R]) → Calls Try.prog 9 #[.pointer (some ⟨p, 0, none⟩), .int .i64 300, .int .i64 y] w0 fun e w' => ∃ me, e = .returned (.int .i64 me) ∧ ∃ Q1, Things w w' ([Q1, Dt w.heap.size q T, Blk B (.cells #[.int .i64 kd, .int .i64 x, .int .i64 y] 31 (0, 0))] ++ [R])) := fun w0 R h => (g_map h 0 rfl OK0.out (v := 300) (by decide) HY0.out).mono fun _ _ ⟨he, h⟩ => ⟨_, he, _, h⟩
      have HXD : Hid (∀ w0 R, Things w w0 ([Tm p T, Dt w.heap.size q T, Blk B (.cells #[.int .i64 kd, .int .i64 x, .int .i64 y] 31 (0, 0))] ++ [R]) → w0.cell? ⟨B, 1, none⟩ = some (.int .i64 x) ∧ w0.cell? ⟨B, 2, none⟩ = some (.int .i64 y)) := fun w0 R h => HXC0.out _ _ _ _ (Things.less (ts := [_, _, _]) h)
      have OK2 := OK0
      have HL2 : Hid (T.length ≤ j + 1) := by show _ ≤ _; omega
      clear OK0
      go_wp2_with fail
      refine (H5.out _ T0.out).mono ?_
      rintro e w6 ⟨pc, rfl, h6⟩
      have T7 := hid h6
      obtain ⟨c61, c62⟩ := HXD.out _ _ h6
      clear h6 H5 T0 c0 c1 c2 hw0
      go_wp2_with fail
      refine (H6.out _ _ T7.out).mono ?_
      rintro e w7 ⟨me, rfl, Q7, h7⟩
      have T9 : Hid (Things w w7 [Tm pc T, Dt w.heap.size q T, Blk B (.cells #[.int .i64 kd, .int .i64 x, .int .i64 y] 31 (0, 0))]) := Things.takeLast h7 0
      clear h7 H6 T7 c61 c62 HXD
      go_wp2_with fail
      go_meet
      exact ⟨pc, T, 0, 0, rfl, rfl, rfl, rfl, rfl, OK2, HL2, T9⟩
    case rest =>
      obtain ⟨p2, T2, me, uv, rfl, rfl, rfl, rfl, rfl, OK2, HL2, T8⟩ := hcut
      clear T0 OK0 hw0 c0 c1 c2
      obtain ⟨vv, hvv⟩ := T8.out.openDt 1 rfl
      obtain ⟨ad2, cap2, rfl, _⟩ := Things.dv hvv 1 rfl
      have VV : Hid (Things w _ [Tm p2 T2, Dv w.heap.size q (.slice ad2 T2.length cap2) T2, Blk B (.cells #[.int .i64 kd, .int .i64 x, .int .i64 y] 31 (0, 0))]) := hvv
      clear hvv T8
      have hLL : T2.length ≤ 201 := by have := HL2.out; omega
      have hAL : (T2.map Prod.fst).length ≤ 201 := by rw [List.length_map]; exact hLL
      have HX1 : Hid (∀ w0, Things w w0 [Tm p2 T2, Dv w.heap.size q (.slice ad2 T2.length cap2) T2, Blk B (.cells #[.int .i64 kd, .int .i64 x, .int .i64 y] 31 (0, 0))] → Calls Try.prog 19 #[.pointer (some ⟨p2, 0, none⟩), .int .i64 x] w0 fun e w' => e = .returned (.int .i64 (tbF T2 x)) ∧ Things w w' [Tm p2 T2, Dv w.heap.size q (.slice ad2 T2.length cap2) T2, Blk B (.cells #[.int .i64 kd, .int .i64 x, .int .i64 y] 31 (0, 0))]) := fun w0 h => g_find h 0 rfl OK2.out HX0.out
      have HX2 : Hid (∀ w0, Things w w0 [Tm p2 T2, Dv w.heap.size q (.slice ad2 T2.length cap2) T2, Blk B (.cells #[.int .i64 kd, .int .i64 x, .int .i64 y] 31 (0, 0))] → Calls Try.prog 20 #[.pointer (some ⟨q, 0, none⟩), .int .i64 x] w0 fun e w' => e = .returned (.int .i64 (tbF T2 x)) ∧ Things w w' [Tm p2 T2, Dv w.heap.size q (.slice ad2 T2.length cap2) T2, Blk B (.cells #[.int .i64 kd, .int .i64 x, .int .i64 y] 31 (0, 0))]) := fun w0 h => z_find h 1 rfl x
      have HX3 : Hid (∀ w0, Things w w0 [Tm p2 T2, Dv w.heap.size q (.slice ad2 T2.length cap2) T2, Blk B (.cells #[.int .i64 kd, .int .i64 x, .int .i64 y] 31 (0, 0))] → Calls Try.prog 21 #[.pointer (some ⟨p2, 0, none⟩), .int .i64 y] w0 fun e w' => e = .returned (.int .i64 (tbH T2 y)) ∧ Things w w' [Tm p2 T2, Dv w.heap.size q (.slice ad2 T2.length cap2) T2, Blk B (.cells #[.int .i64 kd, .int .i64 x, .int .i64 y] 31 (0, 0))]) := fun w0 h => g_holder h 0 rfl OK2.out HY0.out
      have HX4 : Hid (∀ w0, Things w w0 [Tm p2 T2, Dv w.heap.size q (.slice ad2 T2.length cap2) T2, Blk B (.cells #[.int .i64 kd, .int .i64 x, .int .i64 y] 31 (0, 0))] → Calls Try.prog 22 #[.pointer (some ⟨q, 0, none⟩), .int .i64 y] w0 fun e w' => e = .returned (.int .i64 (tbH T2 y)) ∧ Things w w' [Tm p2 T2, Dv w.heap.size q (.slice ad2 T2.length cap2) T2, Blk B (.cells #[.int .i64 kd, .int .i64 x, .int .i64 y] 31 (0, 0))]) := fun w0 h => z_holder h 1 rfl y
      have HX5 : Hid (∀ w0, Things w w0 [Tm p2 T2, Dv w.heap.size q (.slice ad2 T2.length cap2) T2, Blk B (.cells #[.int .i64 kd, .int .i64 x, .int .i64 y] 31 (0, 0))] → Calls Try.prog 23 #[.pointer (some ⟨p2, 0, none⟩)] w0 fun e w' => e = .returned (.int .i64 T2.length) ∧ Things w w' [Tm p2 T2, Dv w.heap.size q (.slice ad2 T2.length cap2) T2, Blk B (.cells #[.int .i64 kd, .int .i64 x, .int .i64 y] 31 (0, 0))]) := fun w0 h => g_len h 0 rfl OK2.out
      have HX6 : Hid (∀ w0, Things w w0 [Tm p2 T2, Dv w.heap.size q (.slice ad2 T2.length cap2) T2, Blk B (.cells #[.int .i64 kd, .int .i64 x, .int .i64 y] 31 (0, 0))] → Calls Try.prog 25 #[.pointer (some ⟨p2, 0, none⟩)] w0 fun e w' => ∃ ad cap, e = .returned (.slice ad T2.length cap) ∧ Things w w' ([Tm p2 T2, Dv w.heap.size q (.slice ad2 T2.length cap2) T2, Blk B (.cells #[.int .i64 kd, .int .i64 x, .int .i64 y] 31 (0, 0))] ++ [Lv ad (T2.map Prod.fst)])) := fun w0 h => (g_all h 0 rfl OK2.out).mono fun e w' ⟨ad, cap, he, h2⟩ => ⟨ad, cap, by rw [he, List.length_map], h2⟩
      have HX7 : Hid (∀ w0 R, Things w w0 ([Tm p2 T2, Dv w.heap.size q (.slice ad2 T2.length cap2) T2, Blk B (.cells #[.int .i64 kd, .int .i64 x, .int .i64 y] 31 (0, 0))] ++ [R]) → Calls Try.prog 26 #[.pointer (some ⟨q, 0, none⟩)] w0 fun e w' => ∃ ad cap, e = .returned (.slice ad T2.length cap) ∧ Things w w' ([Tm p2 T2, Dv w.heap.size q (.slice ad2 T2.length cap2) T2, Blk B (.cells #[.int .i64 kd, .int .i64 x, .int .i64 y] 31 (0, 0))] ++ [R] ++ [Rw w.heap.size (.slice ad T2.length cap) (T2.map Prod.fst)])) := fun w0 R h => (z_all h 1 rfl).mono fun e w' ⟨yv, he, h2⟩ => by
        obtain ⟨ad, cap, e9, _⟩ := h2.row 4 rfl
        rw [List.length_map] at e9
        subst e9
        exact ⟨ad, cap, he, h2⟩
      have HX8 : Hid (∀ w0 ad5 cap5 ad6 cap6, Things w w0 ([Tm p2 T2, Dv w.heap.size q (.slice ad2 T2.length cap2) T2, Blk B (.cells #[.int .i64 kd, .int .i64 x, .int .i64 y] 31 (0, 0))] ++ [Lv ad5 (T2.map Prod.fst)] ++ [Rw w.heap.size (.slice ad6 T2.length cap6) (T2.map Prod.fst)]) → Calls Try.prog 24 #[.slice ad5 T2.length cap5, .slice ad6 T2.length cap6] w0 fun e w' => e = .returned (.bool true) ∧ Things w w' [Tm p2 T2, Dv w.heap.size q (.slice ad2 T2.length cap2) T2, Blk B (.cells #[.int .i64 kd, .int .i64 x, .int .i64 y] 31 (0, 0))]) := fun w0 ad5 cap5 ad6 cap6 h => (show Calls Try.prog 24 #[.slice ad5 T2.length cap5, .slice ad6 T2.length cap6] w0 fun e w' => e = .returned (.bool true) ∧ Fr (fun _ => False) w0 w' by have h9 := same_yes cap5 cap6 (h.nums 3 rfl) (h.rowNums 4 rfl) (by omega); rw [List.length_map] at h9; exact h9).mono fun _ _ ⟨he, f⟩ => ⟨he, Things.less (ts := [_, _, _]) (Things.less (ts := [_, _, _, _]) (h.kept f))⟩
      have HXA : Hid (∀ w0, Things w w0 [Tm p2 T2, Dv w.heap.size q (.slice ad2 T2.length cap2) T2, Blk B (.cells #[.int .i64 kd, .int .i64 x, .int .i64 y] 31 (0, 0))] → w0.cell? ⟨q, 0, none⟩ = some (.slice ad2 T2.length cap2) ∧ w0.cell? ⟨B, 1, none⟩ = some (.int .i64 x) ∧ w0.cell? ⟨B, 2, none⟩ = some (.int .i64 y)) := fun w0 h => by
        obtain ⟨_, _, _, hc⟩ := Things.dv h 1 rfl
        have hb := h.cells 2 rfl
        exact ⟨hc, by simp [World.cell?, hb], by simp [World.cell?, hb]⟩
      have HXB : Hid (∀ w0 R, Things w w0 ([Tm p2 T2, Dv w.heap.size q (.slice ad2 T2.length cap2) T2, Blk B (.cells #[.int .i64 kd, .int .i64 x, .int .i64 y] 31 (0, 0))] ++ [R]) → w0.cell? ⟨q, 0, none⟩ = some (.slice ad2 T2.length cap2) ∧ w0.cell? ⟨B, 1, none⟩ = some (.int .i64 x) ∧ w0.cell? ⟨B, 2, none⟩ = some (.int .i64 y)) := fun w0 R h => HXA.out w0 (Things.less h)
      have HXC : Hid (∀ w0 R R2, Things w w0 ([Tm p2 T2, Dv w.heap.size q (.slice ad2 T2.length cap2) T2, Blk B (.cells #[.int .i64 kd, .int .i64 x, .int .i64 y] 31 (0, 0))] ++ [R] ++ [R2]) → w0.cell? ⟨q, 0, none⟩ = some (.slice ad2 T2.length cap2) ∧ w0.cell? ⟨B, 1, none⟩ = some (.int .i64 x) ∧ w0.cell? ⟨B, 2, none⟩ = some (.int .i64 y)) := fun w0 R R2 h => HXB.out w0 R (Things.less h)
      generalize tbF T2 x = fx at HX1 HX2
      generalize tbH T2 y = hx at HX3 HX4
      obtain ⟨y0, y1, y2⟩ := HXA.out _ VV.out
      go_wp2_with fail
      refine wp_region_held_drew (S := fun w' => w'.cell? ⟨q, 0, none⟩ = some (.slice ad2 T2.length cap2) ∧ w'.cell? ⟨B, 1, none⟩ = some (.int .i64 x) ∧ w'.cell? ⟨B, 2, none⟩ = some (.int .i64 y)) (by kernel_rfl) ?_ (fun hHeld => ?_)
      · exact ⟨y0, y1, y2⟩
      refine wpAnyH_take (i := 0) (oi := ⟨some 124, _, _, _, _, _⟩) (v := ?v1) rfl (by kernel_rfl) (by kernel_rfl) (by kernel_rfl) (fun _ _ _ h => h) (Or.inl ⟨by rfl, ?hy1⟩) (by assumption) ?rest1
      case hy1 => (intro w hSw; (try dsimp only at hSw); go_simp; try with_reducible rfl)
      simp only [Act.put, List.setIfInBounds_toArray, List.set_cons_zero, List.set_cons_succ]
      refine wpAnyH_take (i := 1) (oi := ⟨some 125, _, _, _, _, _⟩) (v := ?v2) rfl (by kernel_rfl) (by kernel_rfl) (by kernel_rfl) (fun _ _ _ h => h) (Or.inl ⟨by rfl, ?hy2⟩) (by assumption) ?rest2
      case hy2 => (intro w hSw; (try dsimp only at hSw); go_simp; try with_reducible rfl)
      simp only [Act.put, List.setIfInBounds_toArray, List.set_cons_zero, List.set_cons_succ]
      refine wpAnyH_take (i := 2) (oi := ⟨some 126, _, _, _, _, _⟩) (v := ?v3) rfl (by kernel_rfl) (by kernel_rfl) (by kernel_rfl) (fun _ _ _ h => h) (Or.inl ⟨by rfl, ?hy3⟩) (by assumption) ?rest3
      case hy3 => (intro w hSw; (try dsimp only at hSw); go_simp; try with_reducible rfl)
      simp only [Act.put, List.setIfInBounds_toArray, List.set_cons_zero, List.set_cons_succ]
      refine wpAnyH_take (i := 3) (oi := ⟨some 127, _, _, _, _, _⟩) (v := ?v4) rfl (by kernel_rfl) (by kernel_rfl) (by kernel_rfl) (fun _ _ _ h => h) (Or.inl ⟨by rfl, ?hy4⟩) (by assumption) ?rest4
      case hy4 => (intro w hSw; (try dsimp only at hSw); go_simp; try with_reducible rfl)
      simp only [Act.put, List.setIfInBounds_toArray, List.set_cons_zero, List.set_cons_succ]
      refine wpAnyH_take (i := 4) (oi := ⟨some 128, _, _, _, _, _⟩) (v := ?v5) rfl (by kernel_rfl) (by kernel_rfl) (by kernel_rfl) (fun _ _ _ h => h) (Or.inl ⟨by rfl, ?hy5⟩) (by assumption) ?rest5
      case hy5 => (intro w hSw; (try dsimp only at hSw); go_simp; try with_reducible rfl)
      simp only [Act.put, List.setIfInBounds_toArray, List.set_cons_zero, List.set_cons_succ]
      refine wpAnyH_take (i := 5) (oi := ⟨some 129, _, _, _, _, _⟩) (v := ?v6) rfl (by kernel_rfl) (by kernel_rfl) (by kernel_rfl) (fun _ _ _ h => h) (Or.inl ⟨by rfl, ?hy6⟩) (by assumption) ?rest6
      case hy6 => (intro w hSw; (try dsimp only at hSw); go_simp; try with_reducible rfl)
      simp only [Act.put, List.setIfInBounds_toArray, List.set_cons_zero, List.set_cons_succ]
      refine wpAnyH_take (i := 6) (oi := ⟨some 130, _, _, _, _, _⟩) (v := ?v7) rfl (by kernel_rfl) (by kernel_rfl) (by kernel_rfl) (fun _ _ _ h => h) (Or.inl ⟨by rfl, ?hy7⟩) (by assumption) ?rest7
      case hy7 => (intro w hSw; (try dsimp only at hSw); go_simp; try with_reducible rfl)
      simp only [Act.put, List.setIfInBounds_toArray, List.set_cons_zero, List.set_cons_succ]
      refine wpAnyH_take (i := 7) (oi := ⟨some 131, _, _, _, _, _⟩) (v := ?v8) rfl (by kernel_rfl) (by kernel_rfl) (by kernel_rfl) (fun _ _ _ h => h) (Or.inl ⟨by rfl, ?hy8⟩) (by assumption) ?rest8
      case hy8 => (intro w hSw; (try dsimp only at hSw); go_simp; try with_reducible rfl)
      simp only [Act.put, List.setIfInBounds_toArray, List.set_cons_zero, List.set_cons_succ]
      refine wpAnyH_take (i := 8) (oi := ⟨some 132, _, _, _, _, _⟩) (v := ?v9) rfl (by kernel_rfl) (by kernel_rfl) (by kernel_rfl) (fun _ _ _ h => h) (Or.inl ⟨by rfl, ?hy9⟩) (by assumption) ?rest9
      case hy9 => (intro w hSw; (try dsimp only at hSw); go_simp; try with_reducible rfl)
      simp only [Act.put, List.setIfInBounds_toArray, List.set_cons_zero, List.set_cons_succ]
      refine wpAnyH_take (i := 9) (oi := ⟨some 133, _, _, _, _, _⟩) (v := ?v10) rfl (by kernel_rfl) (by kernel_rfl) (by kernel_rfl) (fun _ _ _ h => h) (Or.inl ⟨by rfl, ?hy10⟩) (by assumption) ?rest10
      case hy10 => (intro w hSw; (try dsimp only at hSw); go_simp; try with_reducible rfl)
      simp only [Act.put, List.setIfInBounds_toArray, List.set_cons_zero, List.set_cons_succ]
      refine wpAnyH_take (i := 10) (oi := ⟨some 134, _, _, _, _, _⟩) (v := ?v11) rfl (by kernel_rfl) (by kernel_rfl) (by kernel_rfl) (fun _ _ _ h => h) (Or.inl ⟨by rfl, ?hy11⟩) (by assumption) ?rest11
      case hy11 => (intro w hSw; (try dsimp only at hSw); go_simp; try with_reducible rfl)
      simp only [Act.put, List.setIfInBounds_toArray, List.set_cons_zero, List.set_cons_succ]
      refine wpAnyH_take (i := 11) (oi := ⟨some 135, _, _, _, _, _⟩) (v := ?v12) rfl (by kernel_rfl) (by kernel_rfl) (by kernel_rfl) (fun _ _ _ h => h) (Or.inl ⟨by rfl, ?hy12⟩) (by assumption) ?rest12
      case hy12 => (intro w hSw; (try dsimp only at hSw); go_simp; try with_reducible rfl)
      simp only [Act.put, List.setIfInBounds_toArray, List.set_cons_zero, List.set_cons_succ]
      refine wpAnyH_take (i := 13) (oi := ⟨some 137, _, _, _, _, _⟩) (v := ?v13) rfl (by kernel_rfl) (by kernel_rfl) (by kernel_rfl) (fun _ _ _ h => h) (Or.inl ⟨by rfl, ?hy13⟩) (by assumption) ?rest13
      case hy13 => (intro w hSw; (try dsimp only at hSw); go_simp; try with_reducible rfl)
      simp only [Act.put, List.setIfInBounds_toArray, List.set_cons_zero, List.set_cons_succ]
      refine wpAnyH_take (i := 14) (oi := ⟨some 138, _, _, _, _, _⟩) (v := ?v14) rfl (by kernel_rfl) (by kernel_rfl) (by kernel_rfl) (fun _ _ _ h => h) (Or.inl ⟨by rfl, ?hy14⟩) (by assumption) ?rest14
      case hy14 => (intro w hSw; (try dsimp only at hSw); go_simp; try with_reducible rfl)
      simp only [Act.put, List.setIfInBounds_toArray, List.set_cons_zero, List.set_cons_succ]
      refine wpAnyH_take (i := 15) (oi := ⟨some 139, _, _, _, _, _⟩) (v := ?v15) rfl (by kernel_rfl) (by kernel_rfl) (by kernel_rfl) (fun _ _ _ h => h) (Or.inl ⟨by rfl, ?hy15⟩) (by assumption) ?rest15
      case hy15 => (intro w hSw; (try dsimp only at hSw); go_simp; try with_reducible rfl)
      simp only [Act.put, List.setIfInBounds_toArray, List.set_cons_zero, List.set_cons_succ]
      refine wpAnyH_ready (rs := [12]) (by kernel_rfl) (by simp) ?_
      refine AllReadyH.cons (o := ⟨some 136, _, _, _, _, _⟩) rfl (fun K hK => ?_) AllReadyH.nil
      go_simp
      go_wp2_with (go_at_call 19; refine (HX1.out _ (VV.out.kept (Fr.refl _ _).drew)).mono ?_; rintro e v1 ⟨rfl, h1⟩; have V1 := hid h1; obtain ⟨y1a, y1b, y1c⟩ := HXA.out _ h1; clear h1)
      refine hK.out _ _ ?_ (fun hHeld => ?_)
      · exact ⟨y1a, y1b, y1c⟩
      clear hK K
      refine wpAnyH_ready (rs := [16]) (by kernel_rfl) (by simp) ?_
      refine AllReadyH.cons (o := ⟨some 140, _, _, _, _, _⟩) rfl (fun K hK => ?_) AllReadyH.nil
      go_simp
      go_wp2_with (go_at_call 20; refine (HX2.out _ V1.out).mono ?_; rintro e v2 ⟨rfl, h1⟩; have V2 := hid h1; obtain ⟨y2a, y2b, y2c⟩ := HXA.out _ h1; clear h1)
      refine hK.out _ _ ?_ (fun hHeld => ?_)
      · exact ⟨y2a, y2b, y2c⟩
      clear hK K
      refine wpAnyH_take (i := 17) (oi := ⟨some 141, _, _, _, _, _⟩) (v := ?v16) rfl (by kernel_rfl) (by kernel_rfl) (by kernel_rfl) (fun _ _ _ h => h) (Or.inl ⟨by rfl, ?hy16⟩) (by assumption) ?rest16
      case hy16 => (intro w hSw; (try dsimp only at hSw); go_simp; try with_reducible rfl)
      simp only [Act.put, List.setIfInBounds_toArray, List.set_cons_zero, List.set_cons_succ]
      refine wpAnyH_take (i := 18) (oi := ⟨some 142, _, _, _, _, _⟩) (v := ?v17) rfl (by kernel_rfl) (by kernel_rfl) (by kernel_rfl) (fun _ _ _ h => h) (Or.inl ⟨by rfl, ?hy17⟩) (by assumption) ?rest17
      case hy17 => (intro w hSw; (try dsimp only at hSw); go_simp; try with_reducible rfl)
      simp only [Act.put, List.setIfInBounds_toArray, List.set_cons_zero, List.set_cons_succ]
      refine wpAnyH_take (i := 19) (oi := ⟨some 143, _, _, _, _, _⟩) (v := ?v18) rfl (by kernel_rfl) (by kernel_rfl) (by kernel_rfl) (fun _ _ _ h => h) (Or.inl ⟨by rfl, ?hy18⟩) (by assumption) ?rest18
      case hy18 => (intro w hSw; (try dsimp only at hSw); go_simp; try with_reducible rfl)
      simp only [Act.put, List.setIfInBounds_toArray, List.set_cons_zero, List.set_cons_succ]
      refine wpAnyH_take (i := 20) (oi := ⟨some 144, _, _, _, _, _⟩) (v := ?v19) rfl (by kernel_rfl) (by kernel_rfl) (by kernel_rfl) (fun _ _ _ h => h) (Or.inl ⟨by rfl, ?hy19⟩) (by assumption) ?rest19
      case hy19 => (intro w hSw; (try dsimp only at hSw); go_simp; try with_reducible rfl)
      simp only [Act.put, List.setIfInBounds_toArray, List.set_cons_zero, List.set_cons_succ]
      refine wpAnyH_take (i := 21) (oi := ⟨some 145, _, _, _, _, _⟩) (v := ?v20) rfl (by kernel_rfl) (by kernel_rfl) (by kernel_rfl) (fun _ _ _ h => h) (Or.inl ⟨by rfl, ?hy20⟩) (by assumption) ?rest20
      case hy20 => (intro w hSw; (try dsimp only at hSw); go_simp; try with_reducible rfl)
      simp only [Act.put, List.setIfInBounds_toArray, List.set_cons_zero, List.set_cons_succ]
      refine wpAnyH_take (i := 22) (oi := ⟨some 146, _, _, _, _, _⟩) (v := ?v21) rfl (by kernel_rfl) (by kernel_rfl) (by kernel_rfl) (fun _ _ _ h => h) (Or.inl ⟨by rfl, ?hy21⟩) (by assumption) ?rest21
      case hy21 => (intro w hSw; (try dsimp only at hSw); go_simp; try with_reducible rfl)
      simp only [Act.put, List.setIfInBounds_toArray, List.set_cons_zero, List.set_cons_succ]
      refine wpAnyH_take (i := 24) (oi := ⟨some 148, _, _, _, _, _⟩) (v := ?v22) rfl (by kernel_rfl) (by kernel_rfl) (by kernel_rfl) (fun _ _ _ h => h) (Or.inl ⟨by rfl, ?hy22⟩) (by assumption) ?rest22
      case hy22 => (intro w hSw; (try dsimp only at hSw); go_simp; try with_reducible rfl)
      simp only [Act.put, List.setIfInBounds_toArray, List.set_cons_zero, List.set_cons_succ]
      refine wpAnyH_take (i := 25) (oi := ⟨some 149, _, _, _, _, _⟩) (v := ?v23) rfl (by kernel_rfl) (by kernel_rfl) (by kernel_rfl) (fun _ _ _ h => h) (Or.inl ⟨by rfl, ?hy23⟩) (by assumption) ?rest23
      case hy23 => (intro w hSw; (try dsimp only at hSw); go_simp; try with_reducible rfl)
      simp only [Act.put, List.setIfInBounds_toArray, List.set_cons_zero, List.set_cons_succ]
      refine wpAnyH_take (i := 26) (oi := ⟨some 150, _, _, _, _, _⟩) (v := ?v24) rfl (by kernel_rfl) (by kernel_rfl) (by kernel_rfl) (fun _ _ _ h => h) (Or.inl ⟨by rfl, ?hy24⟩) (by assumption) ?rest24
      case hy24 => (intro w hSw; (try dsimp only at hSw); go_simp; try with_reducible rfl)
      simp only [Act.put, List.setIfInBounds_toArray, List.set_cons_zero, List.set_cons_succ]
      refine wpAnyH_ready (rs := [23]) (by kernel_rfl) (by simp) ?_
      refine AllReadyH.cons (o := ⟨some 147, _, _, _, _, _⟩) rfl (fun K hK => ?_) AllReadyH.nil
      go_simp
      go_wp2_with (go_at_call 21; refine (HX3.out _ V2.out).mono ?_; rintro e v3 ⟨rfl, h1⟩; have V3 := hid h1; obtain ⟨y3a, y3b, y3c⟩ := HXA.out _ h1; clear h1)
      refine hK.out _ _ ?_ (fun hHeld => ?_)
      · exact ⟨y3a, y3b, y3c⟩
      clear hK K
      refine wpAnyH_ready (rs := [27]) (by kernel_rfl) (by simp) ?_
      refine AllReadyH.cons (o := ⟨some 151, _, _, _, _, _⟩) rfl (fun K hK => ?_) AllReadyH.nil
      go_simp
      go_wp2_with (go_at_call 22; refine (HX4.out _ V3.out).mono ?_; rintro e v4 ⟨rfl, h1⟩; have V4 := hid h1; obtain ⟨y4a, y4b, y4c⟩ := HXA.out _ h1; clear h1)
      refine hK.out _ _ ?_ (fun hHeld => ?_)
      · exact ⟨y4a, y4b, y4c⟩
      clear hK K
      refine wpAnyH_take (i := 28) (oi := ⟨some 152, _, _, _, _, _⟩) (v := ?v25) rfl (by kernel_rfl) (by kernel_rfl) (by kernel_rfl) (fun _ _ _ h => h) (Or.inl ⟨by rfl, ?hy25⟩) (by assumption) ?rest25
      case hy25 => (intro w hSw; (try dsimp only at hSw); go_simp; try with_reducible rfl)
      simp only [Act.put, List.setIfInBounds_toArray, List.set_cons_zero, List.set_cons_succ]
      refine wpAnyH_take (i := 29) (oi := ⟨some 153, _, _, _, _, _⟩) (v := ?v26) rfl (by kernel_rfl) (by kernel_rfl) (by kernel_rfl) (fun _ _ _ h => h) (Or.inl ⟨by rfl, ?hy26⟩) (by assumption) ?rest26
      case hy26 => (intro w hSw; (try dsimp only at hSw); go_simp; try with_reducible rfl)
      simp only [Act.put, List.setIfInBounds_toArray, List.set_cons_zero, List.set_cons_succ]
      refine wpAnyH_take (i := 30) (oi := ⟨some 154, _, _, _, _, _⟩) (v := ?v27) rfl (by kernel_rfl) (by kernel_rfl) (by kernel_rfl) (fun _ _ _ h => h) (Or.inl ⟨by rfl, ?hy27⟩) (by assumption) ?rest27
      case hy27 => (intro w hSw; (try dsimp only at hSw); go_simp; try with_reducible rfl)
      simp only [Act.put, List.setIfInBounds_toArray, List.set_cons_zero, List.set_cons_succ]
      refine wpAnyH_take (i := 31) (oi := ⟨some 155, _, _, _, _, _⟩) (v := ?v28) rfl (by kernel_rfl) (by kernel_rfl) (by kernel_rfl) (fun _ _ _ h => h) (Or.inl ⟨by rfl, ?hy28⟩) (by assumption) ?rest28
      case hy28 => (intro w hSw; (try dsimp only at hSw); go_simp; try with_reducible rfl)
      simp only [Act.put, List.setIfInBounds_toArray, List.set_cons_zero, List.set_cons_succ]
      refine wpAnyH_take (i := 33) (oi := ⟨some 157, _, _, _, _, _⟩) (v := ?v29) rfl (by kernel_rfl) (by kernel_rfl) (by kernel_rfl) (fun _ _ _ h => h) (Or.inl ⟨by rfl, ?hy29⟩) (by assumption) ?rest29
      case hy29 => (intro w hSw; (try dsimp only at hSw); go_simp; try with_reducible rfl)
      simp only [Act.put, List.setIfInBounds_toArray, List.set_cons_zero, List.set_cons_succ]
      refine wpAnyH_take (i := 34) (oi := ⟨some 158, _, _, _, _, _⟩) (v := ?v30) rfl (by kernel_rfl) (by kernel_rfl) (by kernel_rfl) (fun _ _ _ h => h) (Or.inl ⟨by rfl, ?hy30⟩) (by assumption) ?rest30
      case hy30 => (intro w hSw; (try dsimp only at hSw); go_simp; try with_reducible rfl)
      simp only [Act.put, List.setIfInBounds_toArray, List.set_cons_zero, List.set_cons_succ]
      refine wpAnyH_take (i := 35) (oi := ⟨some 159, _, _, _, _, _⟩) (v := ?v31) rfl (by kernel_rfl) (by kernel_rfl) (by kernel_rfl) (fun _ _ _ h => h) (Or.inl ⟨by rfl, ?hy31⟩) (by assumption) ?rest31
      case hy31 => (intro w hSw; (try dsimp only at hSw); go_simp; try with_reducible rfl)
      simp only [Act.put, List.setIfInBounds_toArray, List.set_cons_zero, List.set_cons_succ]
      refine wpAnyH_take (i := 36) (oi := ⟨some 160, _, _, _, _, _⟩) (v := ?v32) rfl (by kernel_rfl) (by kernel_rfl) (by kernel_rfl) (fun _ _ _ h => h) (Or.inl ⟨by rfl, ?hy32⟩) (by assumption) ?rest32
      case hy32 => (intro w hSw; (try dsimp only at hSw); go_simp; try with_reducible rfl)
      simp only [Act.put, List.setIfInBounds_toArray, List.set_cons_zero, List.set_cons_succ]
      refine wpAnyH_take (i := 37) (oi := ⟨some 161, _, _, _, _, _⟩) (v := ?v33) rfl (by kernel_rfl) (by kernel_rfl) (by kernel_rfl) (fun _ _ _ h => h) (Or.inl ⟨by rfl, ?hy33⟩) (by assumption) ?rest33
      case hy33 => (intro w hSw; (try dsimp only at hSw); go_simp; try with_reducible rfl)
      simp only [Act.put, List.setIfInBounds_toArray, List.set_cons_zero, List.set_cons_succ]
      refine wpAnyH_ready (rs := [32]) (by kernel_rfl) (by simp) ?_
      refine AllReadyH.cons (o := ⟨some 156, _, _, _, _, _⟩) rfl (fun K hK => ?_) AllReadyH.nil
      go_simp
      go_wp2_with (go_at_call 23; refine (HX5.out _ V4.out).mono ?_; rintro e v5 ⟨rfl, h1⟩; have V5 := hid h1; obtain ⟨y5a, y5b, y5c⟩ := HXA.out _ h1; clear h1)
      refine hK.out _ _ ?_ (fun hHeld => ?_)
      · exact ⟨y5a, y5b, y5c⟩
      clear hK K
      refine wpAnyH_take (i := 38) (oi := ⟨some 162, _, _, _, _, _⟩) (v := ?v34) rfl (by kernel_rfl) (by kernel_rfl) (by kernel_rfl) (fun _ _ _ h => h) (Or.inl ⟨by rfl, ?hy34⟩) (by assumption) ?rest34
      case hy34 => (intro w hSw; (try dsimp only at hSw); go_simp; try with_reducible rfl)
      simp only [Act.put, List.setIfInBounds_toArray, List.set_cons_zero, List.set_cons_succ]
      refine wpAnyH_take (i := 39) (oi := ⟨some 163, _, _, _, _, _⟩) (v := ?v35) rfl (by kernel_rfl) (by kernel_rfl) (by kernel_rfl) (fun _ _ _ h => h) (Or.inl ⟨by rfl, ?hy35⟩) (by assumption) ?rest35
      case hy35 => (intro w hSw; (try dsimp only at hSw); go_simp; try with_reducible rfl)
      simp only [Act.put, List.setIfInBounds_toArray, List.set_cons_zero, List.set_cons_succ]
      refine wpAnyH_take (i := 40) (oi := ⟨some 164, _, _, _, _, _⟩) (v := ?v36) rfl (by kernel_rfl) (by kernel_rfl) (by kernel_rfl) (fun _ _ _ h => h) (Or.inl ⟨by rfl, ?hy36⟩) (by assumption) ?rest36
      case hy36 => (intro w hSw; (try dsimp only at hSw); go_simp; try with_reducible rfl)
      simp only [Act.put, List.setIfInBounds_toArray, List.set_cons_zero, List.set_cons_succ]
      refine wpAnyH_take (i := 41) (oi := ⟨some 165, _, _, _, _, _⟩) (v := ?v37) rfl (by kernel_rfl) (by kernel_rfl) (by kernel_rfl) (fun _ _ _ h => h) (Or.inl ⟨by rfl, ?hy37⟩) (by assumption) ?rest37
      case hy37 => (intro w hSw; (try dsimp only at hSw); go_simp; try with_reducible rfl)
      simp only [Act.put, List.setIfInBounds_toArray, List.set_cons_zero, List.set_cons_succ]
      refine wpAnyH_take (i := 43) (oi := ⟨some 167, _, _, _, _, _⟩) (v := ?v38) rfl (by kernel_rfl) (by kernel_rfl) (by kernel_rfl) (fun _ _ _ h => h) (Or.inl ⟨by rfl, ?hy38⟩) (by assumption) ?rest38
      case hy38 => (intro w hSw; (try dsimp only at hSw); go_simp; try with_reducible rfl)
      simp only [Act.put, List.setIfInBounds_toArray, List.set_cons_zero, List.set_cons_succ]
      refine wpAnyH_ready (rs := [42]) (by kernel_rfl) (by simp) ?_
      refine AllReadyH.cons (o := ⟨some 166, _, _, _, _, _⟩) rfl (fun K hK => ?_) AllReadyH.nil
      go_simp
      go_wp2_with (go_at_call 25; refine (HX6.out _ V5.out).mono ?_; rintro e v6 ⟨ad5, cap5, rfl, h1⟩; have V6 := hid h1; obtain ⟨y6a, y6b, y6c⟩ := HXB.out _ _ h1; clear h1)
      refine hK.out _ _ ?_ (fun hHeld => ?_)
      · exact ⟨y6a, y6b, y6c⟩
      clear hK K
      refine wpAnyH_ready (rs := [44]) (by kernel_rfl) (by simp) ?_
      refine AllReadyH.cons (o := ⟨some 168, _, _, _, _, _⟩) rfl (fun K hK => ?_) AllReadyH.nil
      go_simp
      go_wp2_with (go_at_call 26; refine (HX7.out _ _ V6.out).mono ?_; rintro e v7 ⟨ad6, cap6, rfl, h1⟩; have V7 := hid h1; obtain ⟨y7a, y7b, y7c⟩ := HXC.out _ _ _ h1; clear h1)
      refine hK.out _ _ ?_ (fun hHeld => ?_)
      · exact ⟨y7a, y7b, y7c⟩
      clear hK K
      refine wpAnyH_ready (rs := [45]) (by kernel_rfl) (by simp) ?_
      refine AllReadyH.cons (o := ⟨some 169, _, _, _, _, _⟩) rfl (fun K hK => ?_) AllReadyH.nil
      go_simp
      go_wp2_with (go_at_call 24; refine (HX8.out _ _ cap5 _ cap6 V7.out).mono ?_; rintro e v8 ⟨rfl, h1⟩; have V8 := hid h1; obtain ⟨y8a, y8b, y8c⟩ := HXA.out _ h1; clear h1)
      refine hK.out _ _ ?_ (fun hHeld => ?_)
      · exact ⟨y8a, y8b, y8c⟩
      clear hK K
      refine wpAnyH_take (i := 46) (oi := ⟨some 170, _, _, _, _, _⟩) (v := ?v39) rfl (by kernel_rfl) (by kernel_rfl) (by kernel_rfl) (fun _ _ _ h => h) (Or.inl ⟨by rfl, ?hy39⟩) (by assumption) ?rest39
      case hy39 => (intro w hSw; (try dsimp only at hSw); go_simp; try with_reducible rfl)
      simp only [Act.put, List.setIfInBounds_toArray, List.set_cons_zero, List.set_cons_succ]
      refine wpAnyH_take (i := 47) (oi := ⟨some 171, _, _, _, _, _⟩) (v := ?v40) rfl (by kernel_rfl) (by kernel_rfl) (by kernel_rfl) (fun _ _ _ h => h) (Or.inl ⟨by rfl, ?hy40⟩) (by assumption) ?rest40
      case hy40 => (intro w hSw; (try dsimp only at hSw); go_simp; try with_reducible rfl)
      simp only [Act.put, List.setIfInBounds_toArray, List.set_cons_zero, List.set_cons_succ]
      refine wpAnyH_done (by kernel_rfl) ?_ _
      go_wp2
      go_roundw
      case rel => exact ⟨j + 1, p2, by omega, rfl, by go_num, T2, OK2.out, HL2.out, Things.less (ts := [_, _]) (Things.shutDt V8.out 1 rfl)⟩
      case measure => simp [intOf]; omega
end Go.Proofs.Ytpmajadljlibbaa
