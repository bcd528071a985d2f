/-
  Who takes the first one away again and again, has them in the order in which they came: the walk of the law LineOrder.
-/
import Derived.Test.YtecckdedijhacaaLiAwake
import Derived.Test.YtecckdedijhacaaObjs1
namespace Go.Proofs.Ytecckdedijhacaa
open Go.RowKit

set_option maxRecDepth 20000 in
set_option maxHeartbeats 2000000 in
theorem order_walk (sv : Value) (w : World) (h : ∃ ad cap l, sv = .slice ad (List.length l) cap ∧ NumsAt w ad l ∧ l.length ≤ maxLen ∧ ∀ i (hi : i < l.length), -9223372036854775808 ≤ l[i] ∧ l[i] ≤ 9223372036854775807) : Calls Try.prog 4 #[sv] w fun e w' => e = .returned (.bool true) ∧ Fr (fun _ => False) w w' := by
  obtain ⟨ad, cap, l, rfl, hnums, hmax, hbnd⟩ := h
  have HT : Hid (Things w w []) := Things.start (Nw.start w)
  have HA : Hid (∀ w0 ts, Things w w0 ts → Calls Try.prog 7 #[] w0 fun e w' => e = .returned (.bool true) ∧ Things w w' ts) := fun w0 ts h => awake_t h
  have HN := hid hnums
  have HB := hid hbnd
  have H0 : Hid (∀ w0, Things w w0 [] → Calls Try.prog 8 #[] w0 fun e w' => ∃ p, e = .returned (.pointer (some ⟨p, 0, none⟩)) ∧ Things w w' [Lm p []]) := fun w0 h => l_new h
  clear hnums hbnd
  go_enter Try.func4, Try.ntmps4
  go_wp2_with fail
  refine (HA.out _ _ HT.out).mono ?_
  rintro e w1 ⟨rfl, h1⟩
  have T1 := hid h1
  clear h1 HT
  by_cases hl : 1000 < l.length
  · have hl' : 1000 < (l.length : Int) := by omega
    clear HN HB H0
    go_wp2_with fail
    refine (HA.out _ _ T1.out).mono ?_
    rintro e w5 ⟨rfl, h1⟩
    have T5 := hid h1
    clear h1 T1
    go_wp2
    go_ret
    exact ⟨by simp, T5.out.nw.fr⟩
  have hl' : (l.length : Int) ≤ 1000 := by omega
  clear HA
  go_wp2_with fail
  refine (H0.out _ T1.out).mono ?_
  rintro e w2 ⟨p, rfl, h1⟩
  have T2 : Hid (Things w w2 [Lm p [], Rw w.heap.size (.slice none 0 0) []]) := h1.more (Rw.good _ _ _) (Rw.empty _ _) (Fr.refl _ _) fun _ e => e.elim
  clear h1 T1 H0
  go_wp2
  have HP : Hid (∀ w0 L x y, LiOk L → L.length ≤ 1000 → I64 x → Things w w0 [Lm p L, Rw w.heap.size y L] → Calls Try.prog 9 #[.pointer (some ⟨p, 0, none⟩), .int .i64 x] w0 fun e w' => e = .returned (.int .i64 (liPE L x)) ∧ Things w w' [Lm p (liP L x), Rw w.heap.size y L]) := fun w0 L x y ok hl hx h => l_push h 0 rfl ok (by omega) hx
  go_loopw [4, 20] (fun y i wr => ∃ (j : Nat) (L : List Int), j ≤ l.length ∧ L.length ≤ j ∧ i = .int .i64 j ∧ Hid (LiOk L) ∧ Hid (Things w wr [Lm p L, Rw w.heap.size y L])) (fun _ i _ => l.length - (intOf i).toNat)
  case atStart => exact ⟨0, [], by omega, by simp, rfl, LiOk.none, T2⟩
  case round =>
    clear T2
    obtain ⟨j, L, hj, hL, rfl, OK, T⟩ := hrel
    by_cases hlt : j < l.length
    · obtain ⟨bb, off, rfl, hbb, hc1⟩ := HN.out.fr T.out.nw.fr j hlt
      have HX : Hid (I64 l[j]) := HB.out j hlt
      generalize l[j] = x at hc1 HX
      clear HN HB
      have OK2 := hid (OK.out.push HX.out)
      by_cases he : liPE L x = 0
      · have h1 := fun w0 y h => HP.out w0 L x y OK.out (by omega) HX.out h
        rw [he, liP_yes he] at h1
        have HC := hid h1
        rw [liP_yes he] at OK2
        clear h1 HP OK HX he
        go_wp2_with fail
        refine (HC.out _ _ T.out).mono ?_
        rintro e w5 ⟨rfl, h5⟩
        have T5 := hid h5
        have HR := hid (h5.push 1 rfl).1
        have hbs : w.heap.size ≤ w5.heap.size := h5.nw.le
        clear h5 T HC
        go_wp2_with (at_builtin; refine push1s rfl (.tmp 28) (.tmp 30) rfl w.heap.size _ _ x rfl (HR.out.alloc _) w5.heap.size rfl (by simp) (by omega) (by simp; omega) ?_)
        intro g cap6 w6 hown hg hw6
        have T6 : Hid (Things w w6 [Lm p (L ++ [x]), Rw w.heap.size (.slice (some ⟨g, 0, none⟩) (L.length + 1) cap6) (L ++ [x])]) := (T5.out.push 1 rfl).2 ((Fr.refl _ _).alloc _) hown rfl hg (hw6.imp id fun e => by omega)
        clear hown hg hw6 HR T5
        go_wp2
        go_roundw
        case rel => exact ⟨j + 1, _, by omega, by simp; omega, by go_num, OK2, T6⟩
        case measure => simp [intOf]; omega
      · have h1 := fun w0 y h => HP.out w0 L x y OK.out (by omega) HX.out h
        rw [liP_no he] at h1
        have HC := hid h1
        have heb : (liPE L x == 0) = false := by simpa using he
        clear h1 HP OK2 HX
        go_wp2_with fail
        refine (HC.out _ _ T.out).mono ?_
        rintro e w5 ⟨rfl, h5⟩
        have T5 := hid h5
        clear h5 T HC
        generalize liPE L x = pe at *
        go_wp2
        go_roundw
        case rel => exact ⟨j + 1, _, by omega, by omega, by go_num, OK, T5⟩
        case measure => simp [intOf]; omega
    · obtain rfl : l.length = j := by omega
      clear HP HN HB
      obtain ⟨ad2, cap2, rfl, -⟩ := T.out.row 1 rfl
      go_wp2
      go_loopw [35] (fun i wr => ∃ j : Nat, j ≤ L.length ∧ i = .int .i64 j ∧ Hid (LiOk (L.drop j)) ∧ Hid (Things w wr [Lm p (L.drop j), Rw w.heap.size (.slice ad2 L.length cap2) L])) (fun i _ => L.length - (intOf i).toNat)
      case atStart => exact ⟨0, by omega, rfl, OK, T⟩
      case round =>
        clear T OK
        obtain ⟨j, hj, rfl, OK, T⟩ := hrel
        by_cases hlt : j < L.length
        · obtain ⟨bb, off, rfl, hbb, hc1⟩ := T.out.rowNums 1 rfl j hlt
          have OK2 : Hid (LiOk (L.drop (j + 1))) := ⟨OK.out.nd.sublist (by rw [← List.drop_drop]; exact List.drop_sublist _ _), fun x hx => OK.out.at_ x (List.mem_of_mem_drop (i := 1) (by rw [List.drop_drop]; exact hx))⟩
          have hd := List.drop_eq_getElem_cons hlt
          generalize hR : Rw w.heap.size (.slice (some ⟨bb, off, none⟩) L.length cap2) L = R at *
          have hMl : (L.drop (j + 1)).length ≤ 1000 := by rw [List.length_drop]; omega
          rw [hd] at OK T
          generalize L[j] = x at *
          have T2 : Hid (∀ w0, Things w w0 [Lm p (L.drop (j + 1)), R] → Things w w0 [Lm p (L.drop (j + 1)), R]) := fun _ h => h
          generalize hM : L.drop (j + 1) = M at *
          have hx := OK.out.at_ x (by simp)
          have hxM : x ∉ M := (List.nodup_cons.1 OK.out.nd).1
          have HF : Hid (∀ w0, Things w w0 [Lm p (x :: M), R] → Calls Try.prog 14 #[.pointer (some ⟨p, 0, none⟩)] w0 fun e w' => e = .returned (.int .i64 x) ∧ Things w w' [Lm p (x :: M), R]) := fun w0 h => l_front h 0 rfl OK.out
          have HQ : Hid (∀ w0, Things w w0 [Lm p (x :: M), R] → Calls Try.prog 11 #[.pointer (some ⟨p, 0, none⟩), .int .i64 x] w0 fun e w' => e = .returned (.int .i64 0) ∧ Things w w' [Lm p M, R]) := fun w0 h => by
            have := l_remove h 0 rfl OK.out (by simp; omega) (k := x) ⟨by omega, by omega⟩
            rw [liR_head OK.out.nd, liRE_zero.2 (by simp)] at this
            exact this
          have HH : Hid (∀ w0, Things w w0 [Lm p M, R] → Calls Try.prog 16 #[.pointer (some ⟨p, 0, none⟩), .int .i64 x] w0 fun e w' => e = .returned (.bool false) ∧ Things w w' [Lm p M, R]) := fun w0 h => by
            have := l_has h 0 rfl OK2.out (by omega) (k := x) ⟨by omega, by omega⟩
            rw [decide_eq_false hxM] at this
            exact this
          clear hx hxM T2 OK hd
          go_wp2_with fail
          refine (HF.out _ T.out).mono ?_
          rintro e w5 ⟨rfl, h5⟩
          have T5 := hid h5
          clear h5 T HF
          go_wp2_with fail
          refine (HQ.out _ T5.out).mono ?_
          rintro e w6 ⟨rfl, h6⟩
          have T6 := hid h6
          clear h6 T5 HQ
          go_wp2_with fail
          refine (HH.out _ T6.out).mono ?_
          rintro e w7 ⟨rfl, h7⟩
          have T7 := hid h7
          clear h7 T6 HH
          go_wp2
          go_roundw
          case rel => exact ⟨j + 1, by omega, by go_num, by rw [hM]; exact OK2, by rw [hM]; exact T7⟩
          case measure => simp [intOf]; omega
        · obtain rfl : L.length = j := by omega
          rw [List.drop_length] at T
          have HF : Hid (∀ w0 R, Things w w0 [Lm p [], R] → Calls Try.prog 14 #[.pointer (some ⟨p, 0, none⟩)] w0 fun e w' => e = .returned (.int .i64 (-1)) ∧ Things w w' [Lm p [], R]) := fun w0 R h => l_front h 0 rfl LiOk.none
          have HL : Hid (∀ w0 R, Things w w0 [Lm p [], R] → Calls Try.prog 20 #[.pointer (some ⟨p, 0, none⟩)] w0 fun e w' => e = .returned (.int .i64 0) ∧ Things w w' [Lm p [], R]) := fun w0 R h => l_len h 0 rfl LiOk.none (by simp)
          clear OK
          go_wp2_with fail
          refine (HF.out _ _ T.out).mono ?_
          rintro e w5 ⟨rfl, h5⟩
          have T5 := hid h5
          clear h5 T HF
          go_wp2_with fail
          refine (HL.out _ _ T5.out).mono ?_
          rintro e w6 ⟨rfl, h6⟩
          have T6 := hid h6
          clear h6 T5 HL
          go_wp2
          go_ret
          exact ⟨by simp, T6.out.nw.fr⟩
end Go.Proofs.Ytecckdedijhacaa
