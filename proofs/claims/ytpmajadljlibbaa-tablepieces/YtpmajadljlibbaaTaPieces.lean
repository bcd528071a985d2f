/-
  Pieces are as many bytes as were asked for, each lies in a page of the table's own, and no byte of the arena is in two: the walk of the law TablePieces.
-/
import Derived.Test.YtpmajadljlibbaaTaAwake
import Derived.Test.YtpmajadljlibbaaTaOpen
import Derived.Test.YtpmajadljlibbaaSeen
namespace Go.Proofs.Ytpmajadljlibbaa
open Go.RowKit

set_option maxRecDepth 20000 in
set_option maxHeartbeats 4000000 in
theorem pieces_walk (sv : Value) (a n : Int) (ha : I64 a) (hn : I64 n) (w : World) (h : ∃ ad cap l, sv = .slice ad (List.length l) cap ∧ OpsAt w ad l ∧ l.length ≤ maxLen) : Calls Try.prog 4 #[sv, .int .i64 a, .int .i64 n] w fun e w' => e = .returned (.bool true) ∧ Fr (fun _ => False) w w' := by
  obtain ⟨ad, cap, l, rfl, hops, hmax⟩ := h
  have T0 : Hid (Things w w []) := Things.start (Nw.start w)
  have HA : Hid (∀ w0 ts, Things w w0 ts → Calls Try.prog 7 #[] w0 fun e w' => e = .returned (.bool true) ∧ Things w w' ts) := fun w0 ts h => awake_t h
  have H0 : Hid (∀ w0, Things w w0 [] → Calls Try.prog 8 #[] w0 fun e w' => ∃ t, e = .returned (.pointer (some ⟨t, 0, none⟩)) ∧ Things w w' [Tm t []]) := fun w0 h => g_new h
  have HO := hid hops
  have HA64 := hid ha
  have HN64 := hid hn
  clear hops ha hn
  go_enter Try.func4, Try.ntmps4
  go_wp2_with fail
  refine (H0.out _ T0.out).mono ?_
  rintro e w1 ⟨t, rfl, h1⟩
  have T1 : Hid (Things w w1 [Tm t []]) := h1
  clear h1 T0 H0
  go_wp2_with fail
  refine (HA.out _ _ T1.out).mono ?_
  rintro e w2 ⟨rfl, h1⟩
  have T2 := hid h1
  clear h1 T1
  by_cases hl : 200 < l.length
  · have hl' : 200 < (l.length : Int) := by omega
    clear HO
    go_wp2_with fail
    refine (HA.out _ _ T2.out).mono ?_
    rintro e w5 ⟨rfl, h1⟩
    have T5 := hid h1
    clear h1 T2
    go_wp2
    go_ret
    exact ⟨by simp, T5.out.nw.fr⟩
  have hl' : (l.length : Int) ≤ 200 := by omega
  by_cases hn : 16384 < n
  · clear HO
    go_wp2_with fail
    refine (HA.out _ _ T2.out).mono ?_
    rintro e w5 ⟨rfl, h1⟩
    have T5 := hid h1
    clear h1 T2
    go_wp2
    go_ret
    exact ⟨by simp, T5.out.nw.fr⟩
  have hn' : n ≤ 16384 := by omega
  clear HA
  go_wp2
  have HM : Hid (∀ w0 T x y, TbOk T → I64 x → I64 y → Things w w0 [Tm t T] → Calls Try.prog 9 #[.pointer (some ⟨t, 0, none⟩), .int .i64 x, .int .i64 y] w0 fun e w' => e = .returned (.int .i64 (tbME T x y)) ∧ Things w w' [Tm t (tbM T x y)]) := fun w0 T x y ok hx hy h => g_map h 0 rfl ok hx hy
  have HU : Hid (∀ w0 T x, TbOk T → I64 x → Things w w0 [Tm t T] → Calls Try.prog 11 #[.pointer (some ⟨t, 0, none⟩), .int .i64 x] w0 fun e w' => e = .returned (.tuple #[.int .i64 (tbUV T x), .int .i64 (tbUE T x)]) ∧ Things w w' [Tm t (tbU T x)]) := fun w0 T x ok hx h => g_unmap h 0 rfl ok hx
  have HW : Hid (∀ w0 T x y, TbOk T → I64 x → I64 y → Things w w0 [Tm t T] → Calls Try.prog 13 #[.pointer (some ⟨t, 0, none⟩), .int .i64 x, .int .i64 y] w0 fun e w' => e = .returned (.tuple #[.int .i64 (tbSV T x y), .int .i64 (tbSE T x y)]) ∧ Things w w' [Tm t (tbS T x y)]) := fun w0 T x y ok hx hy h => g_swap h 0 rfl ok hx hy
  go_loopw [36] (fun i wr => ∃ (j : Nat) (T : Tb), j ≤ l.length ∧ i = .int .i64 j ∧ Hid (TbOk T) ∧ Hid (Things w wr [Tm t T])) (fun i _ => l.length - (intOf i).toNat)
  case atStart => exact ⟨0, [], by omega, rfl, TbOk.none, T2⟩
  case round =>
    obtain ⟨j, T, hj, rfl, OK, T3⟩ := hrel
    clear T2
    by_cases hlt : j < l.length
    · obtain ⟨bb, off, rfl, hbb, hc1, hc2, hc3, hB⟩ := HO.out.fr T3.out.nw.fr j hlt
      generalize hk : l[j] = o at hc1 hc2 hc3 hB
      obtain ⟨kind, x, y⟩ := o
      simp only at hc1 hc2 hc3 hB
      have T4 := hid (T3.out.kept ((Fr.refl _ _).alloc (.cells #[.int .i64 kind, .int .i64 x, .int .i64 y] 31)))
      have HB := hid hB
      clear hk HO T3 hB
      by_cases hk1 : kind = 1
      · subst hk1
        have HC := hid fun w0 h => HM.out w0 T x y OK.out HB.out.2.1 HB.out.2.2 h
        have OK2 := hid (OK.out.map x y)
        clear HM HU HW OK HB
        generalize tbM T x y = T2 at *
        generalize tbME T x y = me at *
        go_wp2_with fail
        refine (HC.out _ T4.out).mono ?_
        rintro e w5 ⟨rfl, h5⟩
        have T5 := hid h5
        clear h5 T4 HC
        go_wp2
        go_roundw
        case rel => exact ⟨j + 1, T2, by omega, by go_num, OK2, T5⟩
        case measure => simp [intOf]; omega
      by_cases hk2 : kind = 2
      · subst hk2
        have HC := hid fun w0 h => HU.out w0 T x OK.out HB.out.2.1 h
        have OK2 := hid (OK.out.unmap x)
        clear HM HU HW OK HB hk1
        generalize tbU T x = T2 at *
        generalize tbUV T x = uv at *
        generalize tbUE T x = me at *
        go_wp2_with fail
        refine (HC.out _ T4.out).mono ?_
        rintro e w5 ⟨rfl, h5⟩
        have T5 := hid h5
        clear h5 T4 HC
        go_wp2
        go_roundw
        case rel => exact ⟨j + 1, T2, by omega, by go_num, OK2, T5⟩
        case measure => simp [intOf]; omega
      · have HC := hid fun w0 h => HW.out w0 T x y OK.out HB.out.2.1 HB.out.2.2 h
        have OK2 := hid (OK.out.swap x y)
        clear HM HU HW OK HB
        generalize tbS T x y = T2 at *
        generalize tbSV T x y = uv at *
        generalize tbSE T x y = me at *
        go_wp2_with fail
        refine (HC.out _ T4.out).mono ?_
        rintro e w5 ⟨rfl, h5⟩
        have T5 := hid h5
        clear h5 T4 HC
        go_wp2
        go_roundw
        case rel => exact ⟨j + 1, T2, by omega, by go_num, OK2, T5⟩
        case measure => simp [intOf]; omega
    · obtain rfl : l.length = j := by omega
      clear HO HM HU HW
      have H1 : Hid (∀ w0, Things w w0 [Tm t T] → Calls Try.prog 15 #[.pointer (some ⟨t, 0, none⟩), .int .i64 a, .int .i64 n] w0 fun e w' => ∃ ad cap, e = .returned (.tuple #[.slice ad (piL T a n).length cap, .int .i64 (piE T a n)]) ∧ Things w w' [Tm t T, Sv ad (piL T a n)]) := fun w0 h => g_pieces h 0 rfl OK.out HA64.out HN64.out
      by_cases he : piE T a n = 0
      case neg =>
        obtain ⟨e1, e2⟩ := piE_not he
        rw [e1, e2] at H1
        clear he e1 e2 OK
        go_wp2_with fail
        refine (H1.out _ T3.out).mono ?_
        rintro e w5 ⟨ad5, cap5, rfl, h5⟩
        have T5 := hid h5
        clear h5 T3 H1
        go_wp2
        go_ret
        exact ⟨by simp, T5.out.nw.fr⟩
      obtain ⟨hw, hp⟩ := piE_zero he
      have hpc := pcs_ok (by omega) _ _ hp
      rw [he] at H1
      have hlen : (piL T a n).length ≤ 16384 := by
        have h1 := hpc.sum
        have : ∀ M : List Sq, (∀ j (h : j < M.length), 1 ≤ M[j].2.1) → (M.length : Int) ≤ (M.map fun s => s.2.1).sum := by
          intro M
          induction M with
          | nil => intro _; simp
          | cons s r ih =>
            intro hall
            have h0 := hall 0 (by simp)
            have := ih fun j hj => by have := hall (j + 1) (by simpa using hj); simpa using this
            simp at h0 ⊢
            omega
        have h2 := this _ fun j hj => (hpc.all j hj).2.1
        omega
      have HPC := hid hpc
      clear he hp hpc
      have HW2 := hid hw
      clear hw
      generalize piL T a n = M at *
      go_wp2_with fail
      refine (H1.out _ T3.out).mono ?_
      rintro e w5 ⟨ad5, cap5, rfl, h5⟩
      have T5 := hid h5.set
      clear h5 T3 H1
      have hmm := @run_makeMap Try.prog
      go_wp2
      clear hmm
      have HH : Hid (∀ w0 R1 R2 R3 x, I64 x → Things w w0 [Tm t T, R1, R2, R3] → Calls Try.prog 21 #[.pointer (some ⟨t, 0, none⟩), .int .i64 x] w0 fun e w' => e = .returned (.int .i64 (tbH T x)) ∧ Things w w' [Tm t T, R1, R2, R3]) := fun w0 R1 R2 R3 x hx h => g_holder h 0 rfl OK.out hx
      go_loopw [12, 82] (fun y i wr => ∃ (j : Nat) (S : Int), j ≤ M.length ∧ i = .int .i64 j ∧ y = .int .i64 S ∧ (0 ≤ S ∧ S ≤ 512 * j) ∧ Hid (S = ((M.take j).map fun s => s.2.1).sum) ∧ Hid (Things w wr [Tm t T, Sv ad5 M, Mp w5.heap.size j ((M.take j).map fun s => s.1 / 512).reverse])) (fun _ i _ => M.length - (intOf i).toNat)
      case atStart => exact ⟨0, 0, by omega, rfl, rfl, by omega, by show (0 : Int) = _; simp, by show Things _ _ _; simpa using T5.out⟩
      case round =>
        obtain ⟨j, S, hj, rfl, rfl, hS, HS, T6⟩ := hrel
        clear T5
        by_cases hlt : j < M.length
        · obtain ⟨bb, off, rfl, hbb, hc1, hc2, hc3⟩ := T6.out.sps 1 rfl j hlt
          obtain ⟨q1, q2, q3, q4, q5⟩ := HPC.out.all j hlt
          have hheld := HPC.out.held OK.out hlt
          have hfr := OK.out.f_range (a / 512 + j)
          have hnew : M[j].1 / 512 ∉ ((M.take j).map fun s => s.1 / 512).reverse := fun e => by
            rw [List.mem_reverse, List.mem_map] at e
            obtain ⟨s, hs, e2⟩ := e
            obtain ⟨i, hi, rfl⟩ := List.getElem_of_mem hs
            rw [List.length_take] at hi
            rw [List.getElem_take] at e2
            have := HPC.out.apart OK.out (i := i) (j := j) (by omega) hlt e2
            omega
          have hsum : ((M.take (j + 1)).map fun s => s.2.1).sum = S + M[j].2.1 := by
            rw [List.take_succ_eq_append_getElem hlt, List.map_append, List.sum_append, HS.out]; simp
          have hseen : ((M.take (j + 1)).map fun s => s.1 / 512).reverse = M[j].1 / 512 :: ((M.take j).map fun s => s.1 / 512).reverse := by
            rw [List.take_succ_eq_append_getElem hlt, List.map_append, List.reverse_append]; simp
          have hx64 : I64 (M[j].1 / 512) := by rw [q4]; omega
          have HC := hid fun w0 R1 R2 R3 h => HH.out w0 R1 R2 R3 (M[j].1 / 512) hx64 h
          have d1 : Int.tdiv M[j].1 512 = M[j].1 / 512 := Int.tdiv_eq_ediv_of_nonneg q1
          have d2 : IntKind.i64.wrap (M[j].1 / 512) = M[j].1 / 512 := by rw [IntKind.wrap_i64]; omega
          have d3 : Int.tmod M[j].1 512 = M[j].1 % 512 := Int.tmod_eq_emod_of_nonneg q1
          have d4 : IntKind.i64.wrap (M[j].1 % 512) = M[j].1 % 512 := by rw [IntKind.wrap_i64]; omega
          have d5 : IntKind.i64.wrap (M[j].1 % 512 + M[j].2.1) = M[j].1 % 512 + M[j].2.1 := by rw [IntKind.wrap_i64]; omega
          have d6 : IntKind.i64.wrap (S + M[j].2.1) = S + M[j].2.1 := by rw [IntKind.wrap_i64]; omega
          have T7 := hid (T6.out.blk (.cells #[.int .i64 M[j].1, .int .i64 M[j].2.1, .bool M[j].2.2] 49))
          obtain ⟨z1, z2⟩ : 1 ≤ M[j].2.1 ∧ M[j].2.1 ≤ 512 := by omega
          have HSUM := hid hsum
          have HSEEN := hid hseen
          clear HH HS T6 hsum hseen q4 q5 hfr HPC OK
          have hwf := wf_small hx64.1 hx64.2
          clear hx64
          generalize ((M.take j).map fun s => s.1 / 512).reverse = seen at *
          generalize M[j] = mj at *
          obtain ⟨m1, m2, m3⟩ := mj
          simp only at *
          generalize m1 / 512 = x at *
          generalize m1 % 512 = r at *
          generalize tbH T x = hx at *
          generalize hB7 : wr.heap.size = B7 at *
          go_wp2_with fail
          refine (HC.out _ _ _ _ T7.out).mono ?_
          rintro e w8 ⟨rfl, h8⟩
          have hlk := h8.look 2 rfl hwf
          rw [decide_eq_false hnew] at hlk
          obtain ⟨w9, hrun, h9⟩ := h8.store 2 rfl (by simp only [maxLen]; omega) hwf
          have T9 : Hid (Things w w9 [Tm t T, Sv (some ⟨bb, off, none⟩) M, Mp w5.heap.size (j + 1) (x :: seen), Blk B7 (.cells #[.int .i64 m1, .int .i64 m2, .bool m3] 49 (0, 0))]) := h9
          have k1 : w9.cell? ⟨B7, 1, none⟩ = some (.int .i64 m2) := by
            have hh := T9.out.cells 3 rfl
            simp [World.cell?, hh]
          clear h8 h9 T7 HC hwf
          go_wp2
          go_roundw
          case rel => exact ⟨j + 1, S + m2, by omega, by go_num, rfl, by omega, HSUM.out.symm, by show Things _ _ _; rw [HSEEN.out]; exact Things.less (ts := [_, _, _]) T9.out⟩
          case measure => simp [intOf]; omega
        · obtain rfl : M.length = j := by omega
          have hs := HS.out
          rw [List.take_length, HPC.out.sum] at hs
          have hw := HW2.out
          obtain rfl : S = n := by omega
          clear hs hw HS HPC HH OK HW2
          go_wp2
          go_ret
          exact ⟨by simp, T6.out.nw.fr⟩
end Go.Proofs.Ytpmajadljlibbaa
