/-
  A local page that was given a page has it till it is taken away: the walk of the law TableBack.
-/
import Derived.Test.YtpmajadljlibbaaTaAwake
import Derived.Test.YtpmajadljlibbaaTaOpen
namespace Go.Proofs.Ytpmajadljlibbaa
open Go.RowKit

set_option maxRecDepth 20000 in
set_option maxHeartbeats 4000000 in
theorem back_walk (sv : Value) (v p : Int) (hv : I64 v) (hp : I64 p) (w : World) (h : ∃ ad cap l, sv = .slice ad (List.length l) cap ∧ OpsAt w ad l ∧ l.length ≤ maxLen) : Calls Try.prog 6 #[sv, .int .i64 v, .int .i64 p] w fun e w' => e = .returned (.bool true) ∧ Fr (fun _ => False) w w' := by
  obtain ⟨ad, cap, l, rfl, hops, hmax⟩ := h
  have T0 : Hid (Things w w []) := Things.start (Nw.start w)
  have HA : Hid (∀ w0 ts, Things w w0 ts → Calls Try.prog 7 #[] w0 fun e w' => e = .returned (.bool true) ∧ Things w w' ts) := fun w0 ts h => awake_t h
  have H0 : Hid (∀ w0, Things w w0 [] → Calls Try.prog 8 #[] w0 fun e w' => ∃ t, e = .returned (.pointer (some ⟨t, 0, none⟩)) ∧ Things w w' [Tm t []]) := fun w0 h => g_new h
  have HO := hid hops
  have HV := hid hv
  have HP := hid hp
  clear hops hv hp
  go_enter Try.func6, Try.ntmps6
  go_wp2_with fail
  refine (H0.out _ T0.out).mono ?_
  rintro e w1 ⟨t, rfl, h1⟩
  have T1 : Hid (Things w w1 [Tm t []]) := h1
  clear h1 T0 H0
  go_wp2_with fail
  refine (HA.out _ _ T1.out).mono ?_
  rintro e w2 ⟨rfl, h1⟩
  have T2 := hid h1
  clear h1 T1
  by_cases hl : 200 < l.length
  · have hl' : 200 < (l.length : Int) := by omega
    clear HO
    go_wp2_with fail
    refine (HA.out _ _ T2.out).mono ?_
    rintro e w5 ⟨rfl, h1⟩
    have T5 := hid h1
    clear h1 T2
    go_wp2
    go_ret
    exact ⟨by simp, T5.out.nw.fr⟩
  have hl' : (l.length : Int) ≤ 200 := by omega
  clear HA
  go_wp2
  have HM : Hid (∀ w0 T x y, TbOk T → I64 x → I64 y → Things w w0 [Tm t T] → Calls Try.prog 9 #[.pointer (some ⟨t, 0, none⟩), .int .i64 x, .int .i64 y] w0 fun e w' => e = .returned (.int .i64 (tbME T x y)) ∧ Things w w' [Tm t (tbM T x y)]) := fun w0 T x y ok hx hy h => g_map h 0 rfl ok hx hy
  go_loopw [31] (fun i wr => ∃ (j : Nat) (T : Tb), j ≤ l.length ∧ i = .int .i64 j ∧ T.length ≤ j ∧ Hid (TbOk T) ∧ Hid (Things w wr [Tm t T])) (fun i _ => l.length - (intOf i).toNat)
  case atStart => exact ⟨0, [], by omega, rfl, by simp, TbOk.none, T2⟩
  case round =>
    obtain ⟨j, T, hj, rfl, hTl, OK, T3⟩ := hrel
    clear T2
    by_cases hlt : j < l.length
    · obtain ⟨bb, off, rfl, hbb, hc1, hc2, hc3, hB⟩ := HO.out.fr T3.out.nw.fr j hlt
      generalize hk : l[j] = o at hc1 hc2 hc3 hB
      obtain ⟨kind, x, y⟩ := o
      simp only at hc1 hc2 hc3 hB
      have T4 := hid (T3.out.kept ((Fr.refl _ _).alloc (.cells #[.int .i64 kind, .int .i64 x, .int .i64 y] 31)))
      have HC := hid fun w0 h => HM.out w0 T x y OK.out hB.2.1 hB.2.2 h
      have OK2 := hid (OK.out.map x y)
      have HL2 := hid (tbM_len T x y)
      clear hk HO T3 hB HM OK
      generalize tbM T x y = T2 at *
      generalize tbME T x y = me at *
      go_wp2_with fail
      refine (HC.out _ T4.out).mono ?_
      rintro e w5 ⟨rfl, h5⟩
      have T5 := hid h5
      clear h5 T4 HC
      go_wp2
      go_roundw
      case rel => exact ⟨j + 1, T2, by omega, by go_num, by have := HL2.out; omega, OK2, T5⟩
      case measure => simp [intOf]; omega
    · obtain rfl : l.length = j := by omega
      clear HO
      have ok := OK.out
      have H1 : Hid (∀ w0, Things w w0 [Tm t T] → Calls Try.prog 23 #[.pointer (some ⟨t, 0, none⟩)] w0 fun e w' => e = .returned (.int .i64 T.length) ∧ Things w w' [Tm t T]) := fun w0 h => g_len h 0 rfl ok
      have H2 : Hid (∀ w0, Things w w0 [Tm t T] → Calls Try.prog 19 #[.pointer (some ⟨t, 0, none⟩), .int .i64 v] w0 fun e w' => e = .returned (.int .i64 (tbF T v)) ∧ Things w w' [Tm t T]) := fun w0 h => g_find h 0 rfl ok HV.out
      have H3 : Hid (∀ w0, Things w w0 [Tm t T] → Calls Try.prog 21 #[.pointer (some ⟨t, 0, none⟩), .int .i64 p] w0 fun e w' => e = .returned (.int .i64 (tbH T p)) ∧ Things w w' [Tm t T]) := fun w0 h => g_holder h 0 rfl ok HP.out
      have H4 := hid fun w0 h => HM.out w0 T v p ok HV.out HP.out h
      clear HM
      by_cases he : tbME T v p = 0
      · rw [he, tbM_yes he] at H4
        obtain ⟨⟨v1, p1⟩, f1, f2⟩ := tbME_zero.1 he
        have ok2 := ok.ins v1 p1 f1 f2
        have m2 : (v, p) ∈ tbI T v p := mem_tbI.2 (.inl rfl)
        have g1 := tbF_mem ok2 m2
        have g2 := tbH_mem ok2 m2
        have g3 := tbI_len (v := v) (p := p) T
        have g4 := tbU_tbI (p := p) (ok.f_none f1).2
        have e1 := (ok.f_none f1).1
        have e2 := (ok.h_none f2).1
        have g5 : tbUV (tbI T v p) v = p := by unfold tbUV; rw [g1, if_neg (by omega)]
        have g6 : tbUE (tbI T v p) v = 0 := by unfold tbUE; rw [g1, if_neg (by omega)]
        have H5 : Hid (∀ w0, Things w w0 [Tm t (tbI T v p)] → Calls Try.prog 19 #[.pointer (some ⟨t, 0, none⟩), .int .i64 v] w0 fun e w' => e = .returned (.int .i64 p) ∧ Things w w' [Tm t (tbI T v p)]) := fun w0 h => by
          have := g_find h 0 rfl ok2 HV.out
          rw [g1] at this
          exact this
        have H6 : Hid (∀ w0, Things w w0 [Tm t (tbI T v p)] → Calls Try.prog 21 #[.pointer (some ⟨t, 0, none⟩), .int .i64 p] w0 fun e w' => e = .returned (.int .i64 v) ∧ Things w w' [Tm t (tbI T v p)]) := fun w0 h => by
          have := g_holder h 0 rfl ok2 HP.out
          rw [g2] at this
          exact this
        have H7 : Hid (∀ w0, Things w w0 [Tm t (tbI T v p)] → Calls Try.prog 23 #[.pointer (some ⟨t, 0, none⟩)] w0 fun e w' => e = .returned (.int .i64 ((T.length : Int) + 1)) ∧ Things w w' [Tm t (tbI T v p)]) := fun w0 h => by
          have := g_len h 0 rfl ok2
          rw [g3, Int.natCast_add] at this
          exact this
        have H8 : Hid (∀ w0, Things w w0 [Tm t (tbI T v p)] → Calls Try.prog 11 #[.pointer (some ⟨t, 0, none⟩), .int .i64 v] w0 fun e w' => e = .returned (.tuple #[.int .i64 p, .int .i64 0]) ∧ Things w w' [Tm t T]) := fun w0 h => by
          have := g_unmap h 0 rfl ok2 HV.out
          rw [g5, g6, g4] at this
          exact this
        rw [e1] at H2
        rw [e2] at H3
        have t1 : IntKind.i64.wrap ((T.length : Int) + 1) = (T.length : Int) + 1 := by rw [IntKind.wrap_i64]; omega
        clear ok he v1 p1 f1 f2 ok2 m2 g1 g2 g3 g4 e1 e2 g5 g6 OK
        generalize tbI T v p = T2 at *
        generalize T.length = n at *
        go_wp2_with fail
        refine (H1.out _ T3.out).mono ?_
        rintro e w4 ⟨rfl, h1⟩
        have T4 := hid h1
        clear h1 T3
        go_wp2_with fail
        refine (H2.out _ T4.out).mono ?_
        rintro e w5 ⟨rfl, h1⟩
        have T5 := hid h1
        clear h1 T4
        go_wp2_with fail
        refine (H3.out _ T5.out).mono ?_
        rintro e w6 ⟨rfl, h1⟩
        have T6 := hid h1
        clear h1 T5
        go_wp2_with fail
        refine (H4.out _ T6.out).mono ?_
        rintro e w7 ⟨rfl, h1⟩
        have T7 := hid h1
        clear h1 T6
        go_wp2_with fail
        refine (H5.out _ T7.out).mono ?_
        rintro e w8 ⟨rfl, h1⟩
        have T8 := hid h1
        clear h1 T7
        go_wp2_with fail
        refine (H6.out _ T8.out).mono ?_
        rintro e w9 ⟨rfl, h1⟩
        have T9 := hid h1
        clear h1 T8
        go_wp2_with fail
        refine (H7.out _ T9.out).mono ?_
        rintro e w10 ⟨rfl, h1⟩
        have T10 := hid h1
        clear h1 T9
        go_wp2_with fail
        refine (H8.out _ T10.out).mono ?_
        rintro e w11 ⟨rfl, h1⟩
        have T11 := hid h1
        clear h1 T10
        go_wp2_with fail
        refine (H1.out _ T11.out).mono ?_
        rintro e w12 ⟨rfl, h1⟩
        have T12 := hid h1
        clear h1 T11
        go_wp2_with fail
        refine (H2.out _ T12.out).mono ?_
        rintro e w13 ⟨rfl, h1⟩
        have T13 := hid h1
        clear h1 T12
        go_wp2_with fail
        refine (H3.out _ T13.out).mono ?_
        rintro e w14 ⟨rfl, h1⟩
        have T14 := hid h1
        clear h1 T13
        go_wp2
        go_ret
        exact ⟨by simp, T14.out.nw.fr⟩
      · rw [tbM_no he] at H4
        clear ok OK
        generalize tbME T v p = me at *
        generalize tbF T v = fv at *
        generalize tbH T p = hp at *
        generalize T.length = n at *
        go_wp2_with fail
        refine (H1.out _ T3.out).mono ?_
        rintro e w4 ⟨rfl, h1⟩
        have T4 := hid h1
        clear h1 T3
        go_wp2_with fail
        refine (H2.out _ T4.out).mono ?_
        rintro e w5 ⟨rfl, h1⟩
        have T5 := hid h1
        clear h1 T4
        go_wp2_with fail
        refine (H3.out _ T5.out).mono ?_
        rintro e w6 ⟨rfl, h1⟩
        have T6 := hid h1
        clear h1 T5
        go_wp2_with fail
        refine (H4.out _ T6.out).mono ?_
        rintro e w7 ⟨rfl, h1⟩
        have T7 := hid h1
        clear h1 T6
        go_wp2_with fail
        refine (H1.out _ T7.out).mono ?_
        rintro e w8 ⟨rfl, h1⟩
        have T8 := hid h1
        clear h1 T7
        go_wp2_with fail
        refine (H2.out _ T8.out).mono ?_
        rintro e w9 ⟨rfl, h1⟩
        have T9 := hid h1
        clear h1 T8
        go_wp2_with fail
        refine (H3.out _ T9.out).mono ?_
        rintro e w10 ⟨rfl, h1⟩
        have T10 := hid h1
        clear h1 T9
        go_wp2
        go_ret
        exact ⟨by simp, T10.out.nw.fr⟩
end Go.Proofs.Ytpmajadljlibbaa
