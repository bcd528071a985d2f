/-
  Whoever leaves, the others stand as they did: the walk of the law LineStays.
-/
import Derived.Test.YtecckdedijhacaaLiAwake
import Derived.Test.YtecckdedijhacaaObjs1
namespace Go.Proofs.Ytecckdedijhacaa
open Go.RowKit

set_option maxRecDepth 20000 in
set_option maxHeartbeats 2000000 in
theorem stays_walk (sv : Value) (k : Int) (hk : I64 k) (w : World) (h : ∃ ad cap l, sv = .slice ad (List.length l) cap ∧ NumsAt w ad l ∧ l.length ≤ maxLen ∧ ∀ i (hi : i < l.length), -9223372036854775808 ≤ l[i] ∧ l[i] ≤ 9223372036854775807) : Calls Try.prog 6 #[sv, .int .i64 k] w fun e w' => e = .returned (.bool true) ∧ Fr (fun _ => False) w w' := by
  obtain ⟨ad, cap, l, rfl, hnums, hmax, hbnd⟩ := h
  have HT : Hid (Things w w []) := Things.start (Nw.start w)
  have HA : Hid (∀ w0 ts, Things w w0 ts → Calls Try.prog 7 #[] w0 fun e w' => e = .returned (.bool true) ∧ Things w w' ts) := fun w0 ts h => awake_t h
  have HN := hid hnums
  have HB := hid hbnd
  have HK := hid hk
  have H0 : Hid (∀ w0, Things w w0 [] → Calls Try.prog 8 #[] w0 fun e w' => ∃ p, e = .returned (.pointer (some ⟨p, 0, none⟩)) ∧ Things w w' [Lm p []]) := fun w0 h => l_new h
  clear hnums hbnd hk
  go_enter Try.func6, Try.ntmps6
  go_wp2_with fail
  refine (HA.out _ _ HT.out).mono ?_
  rintro e w1 ⟨rfl, h1⟩
  have T1 := hid h1
  clear h1 HT
  by_cases hl : 1000 < l.length
  · have hl' : 1000 < (l.length : Int) := by omega
    clear HN HB H0
    go_wp2_with fail
    refine (HA.out _ _ T1.out).mono ?_
    rintro e w5 ⟨rfl, h1⟩
    have T5 := hid h1
    clear h1 T1
    go_wp2
    go_ret
    exact ⟨by simp, T5.out.nw.fr⟩
  have hl' : (l.length : Int) ≤ 1000 := by omega
  clear HA
  go_wp2_with fail
  refine (H0.out _ T1.out).mono ?_
  rintro e w2 ⟨p, rfl, h1⟩
  have T2 : Hid (Things w w2 [Lm p []]) := h1
  clear h1 T1 H0
  go_wp2
  have HP : Hid (∀ w0 L x, LiOk L → L.length ≤ 1000 → I64 x → Things w w0 [Lm p L] → Calls Try.prog 9 #[.pointer (some ⟨p, 0, none⟩), .int .i64 x] w0 fun e w' => e = .returned (.int .i64 (liPE L x)) ∧ Things w w' [Lm p (liP L x)]) := fun w0 L x ok hl hx h => l_push h 0 rfl ok (by omega) hx
  go_loopw [25] (fun i wr => ∃ (j : Nat) (L : List Int), j ≤ l.length ∧ L.length ≤ j ∧ i = .int .i64 j ∧ Hid (LiOk L) ∧ Hid (Things w wr [Lm p L])) (fun i _ => l.length - (intOf i).toNat)
  case atStart => exact ⟨0, [], by omega, by simp, rfl, LiOk.none, T2⟩
  case round =>
    clear T2
    obtain ⟨j, L, hj, hL, rfl, OK, T⟩ := hrel
    by_cases hlt : j < l.length
    · obtain ⟨bb, off, rfl, hbb, hc1⟩ := HN.out.fr T.out.nw.fr j hlt
      have HX : Hid (I64 l[j]) := HB.out j hlt
      generalize l[j] = x at hc1 HX
      clear HN HB
      have OK2 := hid (OK.out.push HX.out)
      have HL2 := hid (liP_len L x)
      have HC := hid fun w0 h => HP.out w0 L x OK.out (by omega) HX.out h
      clear HP OK HX
      generalize liP L x = L2 at *
      generalize liPE L x = pe at *
      go_wp2_with fail
      refine (HC.out _ T.out).mono ?_
      rintro e w5 ⟨rfl, h5⟩
      have T5 := hid h5
      clear h5 T HC
      go_wp2
      go_roundw
      case rel => exact ⟨j + 1, L2, by omega, by have := HL2.out; omega, by go_num, OK2, T5⟩
      case measure => simp [intOf]; omega
    · obtain rfl : l.length = j := by omega
      clear HP HN HB
      have H1 : Hid (∀ w0, Things w w0 [Lm p L] → Calls Try.prog 19 #[.pointer (some ⟨p, 0, none⟩)] w0 fun e w' => ∃ ad cap, e = .returned (.slice ad L.length cap) ∧ Things w w' [Lm p L, Lv ad L]) := fun w0 h => l_all h 0 rfl OK.out (by omega)
      have H2 : Hid (∀ w0 R, Things w w0 [Lm p L, R] → Calls Try.prog 16 #[.pointer (some ⟨p, 0, none⟩), .int .i64 k] w0 fun e w' => e = .returned (.bool (decide (k ∈ L))) ∧ Things w w' [Lm p L, R]) := fun w0 R h => l_has h 0 rfl OK.out (by omega) HK.out
      have H3 : Hid (∀ w0 R, Things w w0 [Lm p L, R] → Calls Try.prog 11 #[.pointer (some ⟨p, 0, none⟩), .int .i64 k] w0 fun e w' => e = .returned (.int .i64 (liRE L k)) ∧ Things w w' [Lm p (liR L k), R]) := fun w0 R h => l_remove h 0 rfl OK.out (by omega) HK.out
      have OK2 := hid (OK.out.remove k)
      have hM := liR_len L k
      have HE : Hid ((liRE L k == 0) = decide (k ∈ L)) := by
        by_cases h : k ∈ L
        · rw [liRE_zero.2 h, decide_eq_true h]; rfl
        · have h2 : ¬ liRE L k = 0 := fun e => h (liRE_zero.1 e)
          show (liRE L k == 0) = decide (k ∈ L)
          rw [decide_eq_false h]; simpa using h2
      generalize hbe : liRE L k = re at *
      generalize hbt : decide (k ∈ L) = te at *
      clear OK hbe hbt
      go_wp2_with fail
      refine (H1.out _ T.out).mono ?_
      rintro e w3 ⟨ad3, cap3, rfl, h3⟩
      have T3 := hid h3
      clear h3 T H1
      go_wp2_with fail
      refine (H2.out _ _ T3.out).mono ?_
      rintro e w4 ⟨rfl, h4⟩
      have T4 := hid h4
      clear h4 T3 H2
      go_wp2_with fail
      refine (H3.out _ _ T4.out).mono ?_
      rintro e w5 ⟨rfl, h5⟩
      have T5 : Hid (Things w w5 [Lm p (liR L k), Lv ad3 L, Rw w.heap.size (.slice none 0 0) []]) := h5.more (Rw.good _ _ _) (Rw.empty _ _) (Fr.refl _ _) fun _ e => e.elim
      clear h5 T4 H3
      go_wp2
      go_loopw [11, 43] (fun y i wr => ∃ (j : Nat), j ≤ L.length ∧ i = .int .i64 j ∧ Hid (Things w wr [Lm p (liR L k), Lv ad3 L, Rw w.heap.size y (liR (L.take j) k)])) (fun _ i _ => L.length - (intOf i).toNat)
      case atStart => exact ⟨0, by omega, rfl, T5⟩
      case round =>
        clear T5
        obtain ⟨j, hj, rfl, T⟩ := hrel
        by_cases hlt : j < L.length
        · obtain ⟨bb, off, rfl, hbb, hc1⟩ := T.out.nums 1 rfl j hlt
          have hs := liR_snoc (L.take j) L[j] k
          rw [← List.take_succ_eq_append_getElem hlt] at hs
          have hN := liR_len (L.take j) k
          rw [List.length_take] at hN
          generalize L[j] = x at *
          generalize liR (L.take j) k = N at *
          generalize liR L k = M at *
          by_cases hx : x = k
          · rw [if_pos hx] at hs
            subst hx
            have T2 : Hid (∀ wr y, Things w wr [Lm p M, Lv (some ⟨bb, off, none⟩) L, Rw w.heap.size y N] → Things w wr [Lm p M, Lv (some ⟨bb, off, none⟩) L, Rw w.heap.size y (liR (L.take (j + 1)) x)]) := fun wr y h => by rw [hs]; exact h
            clear hs HE OK2
            go_wp2
            go_roundw
            case rel => exact ⟨j + 1, by omega, by go_num, T2.out _ _ T.out⟩
            case measure => simp [intOf]; omega
          · rw [if_neg hx] at hs
            have T2 : Hid (∀ wr y, Things w wr [Lm p M, Lv (some ⟨bb, off, none⟩) L, Rw w.heap.size y (N ++ [x])] → Things w wr [Lm p M, Lv (some ⟨bb, off, none⟩) L, Rw w.heap.size y (liR (L.take (j + 1)) k)]) := fun wr y h => by rw [hs]; exact h
            have HR := hid (T.out.push 2 rfl).1
            have hbs : w.heap.size ≤ wr.heap.size := T.out.nw.le
            clear hs HE OK2
            go_wp2_with (at_builtin; refine push1s rfl (.tmp 50) (.tmp 52) rfl w.heap.size _ _ x rfl (HR.out.alloc _) wr.heap.size rfl (by simp) (by omega) (by simp; omega) ?_)
            intro g cap6 w6 hown hg hw6
            have T6 : Hid (Things w w6 [Lm p M, Lv (some ⟨bb, off, none⟩) L, Rw w.heap.size (.slice (some ⟨g, 0, none⟩) (N.length + 1) cap6) (N ++ [x])]) := (T.out.push 2 rfl).2 ((Fr.refl _ _).alloc _) hown rfl hg (hw6.imp id fun e => by omega)
            clear hown hg hw6 HR T
            go_wp2
            go_roundw
            case rel => exact ⟨j + 1, by omega, by go_num, T2.out _ _ T6.out⟩
            case measure => simp [intOf]; omega
        · obtain rfl : L.length = j := by omega
          rw [List.take_length] at T
          have hnk := liR_not L k
          generalize liR L k = M at *
          obtain ⟨ad4, cap4, rfl, -⟩ := T.out.row 2 rfl
          generalize Lv ad3 L = R at *
          have H1 : Hid (∀ w0 R2, Things w w0 [Lm p M, R, R2] → Calls Try.prog 19 #[.pointer (some ⟨p, 0, none⟩)] w0 fun e w' => ∃ ad cap, e = .returned (.slice ad M.length cap) ∧ Things w w' [Lm p M, R, R2, Lv ad M]) := fun w0 R2 h => l_all h 0 rfl OK2.out (by omega)
          have H2 : Hid (∀ w0 ad5 cap5, Things w w0 [Lm p M, R, Rw w.heap.size (.slice ad4 M.length cap4) M, Lv ad5 M] → Calls Try.prog 18 #[.slice ad5 M.length cap5, .slice ad4 M.length cap4] w0 fun e w' => e = .returned (.bool true) ∧ Things w w' [Lm p M, R, Rw w.heap.size (.slice ad4 M.length cap4) M, Lv ad5 M]) := fun w0 ad5 cap5 h => (same_yes cap5 cap4 (h.nums 3 rfl) (h.rowNums 2 rfl) (by omega)).mono fun _ _ ⟨he, f⟩ => ⟨he, h.kept f⟩
          have H3 : Hid (∀ w0 R2 R3, Things w w0 [Lm p M, R, R2, R3] → Calls Try.prog 20 #[.pointer (some ⟨p, 0, none⟩)] w0 fun e w' => e = .returned (.int .i64 M.length) ∧ Things w w' [Lm p M, R, R2, R3]) := fun w0 R2 R3 h => l_len h 0 rfl OK2.out (by omega)
          have H4 : Hid (∀ w0 R2 R3, Things w w0 [Lm p M, R, R2, R3] → Calls Try.prog 16 #[.pointer (some ⟨p, 0, none⟩), .int .i64 k] w0 fun e w' => e = .returned (.bool false) ∧ Things w w' [Lm p M, R, R2, R3]) := fun w0 R2 R3 h => by
            have := l_has h 0 rfl OK2.out (by omega) HK.out
            rw [decide_eq_false hnk] at this
            exact this
          clear OK2 hnk
          have hte : te = true ∧ re = 0 ∨ te = false ∧ ¬ re = 0 := by
            have h := HE.out
            by_cases e : re = 0
            · subst e; exact .inl ⟨by rw [← h]; rfl, rfl⟩
            · exact .inr ⟨by rw [← h]; simpa using e, e⟩
          clear HE
          obtain ⟨rfl, hre⟩ | ⟨rfl, hre⟩ := hte
          all_goals
            go_wp2_with fail
            refine (H1.out _ _ T.out).mono ?_
            rintro e w6 ⟨ad5, cap5, rfl, h6⟩
            have T6 := hid h6
            clear h6 T H1
            go_wp2_with fail
            refine (H2.out _ _ cap5 T6.out).mono ?_
            rintro e w7 ⟨rfl, h7⟩
            have T7 := hid h7
            clear h7 T6 H2
            go_wp2_with fail
            refine (H3.out _ _ _ T7.out).mono ?_
            rintro e w8 ⟨rfl, h8⟩
            have T8 := hid h8
            clear h8 T7 H3
            go_wp2_with fail
            refine (H4.out _ _ _ T8.out).mono ?_
            rintro e w9 ⟨rfl, h9⟩
            have T9 := hid h9
            clear h9 T8 H4
            go_wp2
            go_ret
            exact ⟨by simp [hre], T9.out.nw.fr⟩
end Go.Proofs.Ytecckdedijhacaa
