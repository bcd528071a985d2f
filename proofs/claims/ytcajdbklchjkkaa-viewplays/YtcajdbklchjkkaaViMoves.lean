/-
  What is copied are the bytes that were there ahead of it: the walk of the law ViewMoves.
-/
import Derived.Test.YtcajdbklchjkkaaViAwake
import Derived.Test.YtcajdbklchjkkaaViOpen
namespace Go.Proofs.Ytcajdbklchjkkaa
open Go.RowKit
open An

theorem vcB_read {T : Tb} (ok : TbOk T) {bs : List UInt8} {to fm n : Int} (h : VcOk T bs.length to fm n) : vrV T (vcB T bs to fm n) to n = vrV T bs fm n := by
  have hl := vcB_length ok bs to fm n
  unfold vrV
  rw [hl, if_pos h.1, if_pos h.2]
  unfold vcB
  rw [if_pos h]
  obtain ⟨a1, a2, _⟩ := h.1.apt ok
  obtain ⟨b1, b2, _⟩ := h.2.apt ok
  exact rd_wr a1 (by rw [rdB_length b1, a2, b2])
/-- How many touches a call makes at most. -/
theorem vrT_len {T : Tb} (ok : TbOk T) (N : Nat) (ss : List Sp) (x n : Int) : (vrT T N ss x n).length ≤ ss.length + (n.toNat / 512 + 2) ∧ (vwT T N ss x n).length ≤ ss.length + (n.toNat / 512 + 2) := by
  by_cases h : VwOk T N x n
  · have h1 := (h.apt ok).2.2.1
    unfold vrT vwT
    rw [if_pos h, if_pos h, List.length_append, List.length_append, tch_length, tch_length]
    omega
  · unfold vrT vwT
    rw [if_neg h, if_neg h]
    omega
theorem vcT_len {T : Tb} (ok : TbOk T) (N : Nat) (ss : List Sp) (x y n : Int) : (vcT T N ss x y n).length ≤ ss.length + 2 * (n.toNat / 512 + 2) := by
  by_cases h : VcOk T N x y n
  · have h1 := (h.1.apt ok).2.2.1
    have h2 := (h.2.apt ok).2.2.1
    unfold vcT
    rw [if_pos h, List.length_append, List.length_append, tch_length, tch_length]
    omega
  · unfold vcT
    rw [if_neg h]
    omega
set_option maxRecDepth 20000 in
set_option maxHeartbeats 4000000 in
theorem moves_walk (sv : Value) (first : ByteArray) (to fm n : Int) (ht : I64 to) (hf : I64 fm) (hn : I64 n) (w : World) (h : ∃ ad cap l, sv = .slice ad (List.length l) cap ∧ OpsAt w ad l ∧ l.length ≤ maxLen) : Calls Try.prog 7 #[sv, .string first, .int .i64 to, .int .i64 fm, .int .i64 n] w fun e w' => e = .returned (.bool true) ∧ Fr (fun _ => False) w w' := by
  obtain ⟨ad, cap, l, rfl, hops, hmax⟩ := h
  have HA := hid awake_any
  have HO := hid hops
  have HT := hid ht
  have HF := hid hf
  have HN := hid hn
  clear hops ht hf hn
  by_cases h1 : (60 : Int) < l.length
  · clear HO
    go_enter Try.func7, Try.ntmps7
    go_wp2_with fail
    refine (HA.out _).mono ?_
    rintro e w1 ⟨rfl, f1⟩
    have F1 := hid f1
    clear f1
    go_wp2_with fail
    refine (HA.out _).mono ?_
    rintro e w2 ⟨rfl, f2⟩
    have F2 := hid (F1.out.trans f2)
    clear f2 F1
    go_wp2
    go_ret
    exact ⟨by simp, F2.out⟩
  by_cases h2 : (4096 : Int) < first.size
  · clear HO
    go_enter Try.func7, Try.ntmps7
    go_wp2_with fail
    refine (HA.out _).mono ?_
    rintro e w1 ⟨rfl, f1⟩
    have F1 := hid f1
    clear f1
    go_wp2_with fail
    refine (HA.out _).mono ?_
    rintro e w2 ⟨rfl, f2⟩
    have F2 := hid (F1.out.trans f2)
    clear f2 F1
    go_wp2
    go_ret
    exact ⟨by simp, F2.out⟩
  by_cases h3 : 4096 < n
  · clear HO
    go_enter Try.func7, Try.ntmps7
    go_wp2_with fail
    refine (HA.out _).mono ?_
    rintro e w1 ⟨rfl, f1⟩
    have F1 := hid f1
    clear f1
    go_wp2_with fail
    refine (HA.out _).mono ?_
    rintro e w2 ⟨rfl, f2⟩
    have F2 := hid (F1.out.trans f2)
    clear f2 F1
    go_wp2
    go_ret
    exact ⟨by simp, F2.out⟩
  have d1 : decide ((60 : Int) < l.length) = false := decide_eq_false h1
  have d2 : decide ((4096 : Int) < first.size) = false := decide_eq_false h2
  have d3 : decide (4096 < n) = false := decide_eq_false h3
  have HNA : Hid (∀ w1, Things w w1 [] → Calls Try.prog 9 #[.int .i64 4096] w1 fun e w' => ∃ a, e = .returned (.tuple #[.pointer (some ⟨a, 0, none⟩), .int .i64 0]) ∧ Things w w' [Am 77 a (List.replicate 4096 0) []]) := fun w1 h => ga_new h 4096 (by decide)
  have HNT : Hid (∀ w1 a, Things w w1 [Am 77 a (List.replicate 4096 0) []] → Calls Try.prog 8 #[] w1 fun e w' => ∃ t, e = .returned (.pointer (some ⟨t, 0, none⟩)) ∧ Things w w' [Am 77 a (List.replicate 4096 0) [], Tm t []]) := fun w1 a h => g_new h
  have T0 : Hid (Things w w []) := Things.start (Nw.start w)
  go_enter Try.func7, Try.ntmps7
  go_wp2_with fail
  refine (HA.out _).mono ?_
  rintro e w1 ⟨rfl, f1⟩
  have T1 := hid (T0.out.kept f1)
  clear f1 T0 HA
  go_wp2_with fail
  refine (HNA.out _ T1.out).mono ?_
  rintro e w2 ⟨a, rfl, h2⟩
  have T2 := hid h2
  clear h2 T1 HNA
  go_wp2_with fail
  refine (HNT.out _ _ T2.out).mono ?_
  rintro e w3 ⟨t, rfl, h3⟩
  have T3 := hid h3
  clear h3 T2 HNT
  go_wp2
  have HM : Hid (∀ w0 T x y, TbOk T → I64 x → I64 y → Things w w0 [Am 77 a (List.replicate 4096 0) [], Tm t T] → Calls Try.prog 17 #[.pointer (some ⟨t, 0, none⟩), .int .i64 x, .int .i64 y] w0 fun e w' => e = .returned (.int .i64 (tbME T x y)) ∧ Things w w' [Am 77 a (List.replicate 4096 0) [], Tm t (tbM T x y)]) := fun w0 T x y ok hx hy h => g_map h 1 rfl ok hx hy
  go_loopw [45] (fun i wr => ∃ (j : Nat) (T : Tb), j ≤ l.length ∧ i = .int .i64 j ∧ Hid (TbOk T) ∧ Hid (Things w wr [Am 77 a (List.replicate 4096 0) [], Tm t T])) (fun i _ => l.length - (intOf i).toNat)
  case atStart => exact ⟨0, [], by omega, rfl, TbOk.none, T3⟩
  case round =>
    obtain ⟨j, T, hj, rfl, OK, T3⟩ := hrel
    by_cases hlt : j < l.length
    · obtain ⟨bb, off, rfl, hbb, hc1, hc2, hc3, hB⟩ := HO.out.fr T3.out.nw.fr j hlt
      generalize hk : l[j] = o at hc1 hc2 hc3 hB
      obtain ⟨kind, x, y⟩ := o
      simp only at hc1 hc2 hc3 hB
      by_cases hy8 : y < 8
      · have T4 := hid (T3.out.kept ((Fr.refl _ _).alloc (.cells #[.int .i64 kind, .int .i64 x, .int .i64 y] 56)))
        have HC := hid fun w0 h => HM.out w0 T x y OK.out hB.2.1 hB.2.2 h
        have OK2 := hid (OK.out.map x y)
        clear hk HO T3 hB HM OK
        generalize tbM T x y = T2 at *
        generalize tbME T x y = me at *
        go_wp2_with fail
        refine (HC.out _ T4.out).mono ?_
        rintro e w5 ⟨rfl, h5⟩
        have T5 := hid h5
        clear h5 T4 HC
        go_wp2
        go_roundw
        case rel => exact ⟨j + 1, T2, by omega, by go_num, OK2, T5⟩
        case measure => simp [intOf]; omega
      · have hy9 : 8 ≤ y := by omega
        have T4 := hid (T3.out.kept ((Fr.refl _ _).alloc (.cells #[.int .i64 kind, .int .i64 x, .int .i64 y] 56)))
        clear hk HO T3 hB HM
        go_wp2
        go_roundw
        case rel => exact ⟨j + 1, T, by omega, by go_num, OK, T4⟩
        case measure => simp [intOf]; omega
    · obtain rfl : l.length = j := by omega
      clear HO HM
      have ok := OK.out
      have l3 : n ≤ 4096 := by omega
      have l2 : first.size ≤ 4096 := by omega
      have HW : Hid (∀ w0, Things w w0 [Am 77 a (List.replicate 4096 0) [], Tm t T] → Calls Try.prog 18 #[.pointer (some ⟨a, 0, none⟩), .int .i64 0, .string first] w0 fun e w' => e = .returned (.int .i64 0) ∧ ∃ bs ss, bs.length = 4096 ∧ ss.length ≤ 1 ∧ Things w w' [Am 77 a bs ss, Tm t T]) := fun w0 h => (ga_write h 0 rfl 0 first (by rw [List.length_replicate]; omega) (by simp)).mono fun e w' ⟨he, h2⟩ => ⟨he, _, _, over_length _ _ _ (by rw [List.length_replicate]; show 0 + first.size ≤ 4096; omega), noted_len _ _ _ _, h2⟩
      clear d1 d2 d3 h1 h2 h3 hlt hmax
      go_wp2_with fail
      refine (HW.out _ T3.out).mono ?_
      rintro e w4 ⟨rfl, bs, ss, hbl, hsl, h4⟩
      have T4 := hid h4
      clear h4 T3 HW
      have HR1 := hid (gv_read T4.out 0 1 (by decide) rfl rfl ok HF.out HN.out (by omega) (by omega))
      have HR2 : Hid (∀ w0, Things w w0 [Am 77 a bs (vrT T bs.length ss fm n), Tm t T] → Calls Try.prog 23 #[.pointer (some ⟨a, 0, none⟩), .pointer (some ⟨t, 0, none⟩), .int .i64 to, .int .i64 fm, .int .i64 n] w0 fun e w' => e = .returned (.int .i64 (vcE T bs.length to fm n)) ∧ Things w w' [Am 77 a (vcB T bs to fm n) (vcT T bs.length (vrT T bs.length ss fm n) to fm n), Tm t T]) := fun w0 h => gv_copy h 0 1 (by decide) rfl rfl ok HT.out HF.out HN.out (by omega) (by have := (vrT_len ok bs.length ss fm n).1; omega)
      have HR3 : Hid (∀ w0, Things w w0 [Am 77 a (vcB T bs to fm n) (vcT T bs.length (vrT T bs.length ss fm n) to fm n), Tm t T] → Calls Try.prog 20 #[.pointer (some ⟨a, 0, none⟩), .pointer (some ⟨t, 0, none⟩), .int .i64 to, .int .i64 n] w0 fun e w' => e = .returned (.tuple #[.string ⟨(vrV T (vcB T bs to fm n) to n).toArray⟩, .int .i64 (vwE T bs.length to n)]) ∧ Fr (fun _ => False) w w') := fun w0 h => (gv_read h 0 1 (by decide) rfl rfl ok HT.out HN.out (by omega) (by have := (vrT_len ok bs.length ss fm n).1; have := vcT_len ok bs.length (vrT T bs.length ss fm n) to fm n; omega)).mono fun e w' ⟨he, h2⟩ => ⟨by rw [he, vcB_length ok], h2.nw.fr⟩
      have key : Hid ((vcE T bs.length to fm n = 0 ∧ vwE T bs.length fm n = 0 ∧ vwE T bs.length to n = 0 ∧ vrV T (vcB T bs to fm n) to n = vrV T bs fm n) ∨ (vcE T bs.length to fm n = 4 ∧ (vwE T bs.length fm n = 4 ∨ (vwE T bs.length fm n = 0 ∧ vwE T bs.length to n = 4)))) := by
        by_cases hv : VcOk T bs.length to fm n
        · exact .inl ⟨if_pos hv, if_pos hv.2, if_pos hv.1, vcB_read ok hv⟩
        · refine .inr ⟨if_neg hv, ?_⟩
          by_cases h5 : VwOk T bs.length fm n
          · exact .inr ⟨if_pos h5, if_neg fun h6 => hv ⟨h6, h5⟩⟩
          · exact .inl (if_neg h5)
      generalize vcB T bs to fm n = bs3 at *
      generalize vcT T bs.length (vrT T bs.length ss fm n) to fm n = ss3 at *
      generalize vrT T bs.length ss fm n = ss2 at *
      generalize vcE T bs.length to fm n = ce at *
      generalize vwE T bs.length fm n = fe at *
      generalize vwE T bs.length to n = te at *
      generalize vrV T bs3 to n = b3 at *
      generalize vrV T bs fm n = b1 at *
      clear ok OK hbl hsl HT HF HN l2 l3
      go_wp2_with fail
      refine HR1.out.mono ?_
      rintro e w5 ⟨rfl, h5⟩
      have T5 := hid h5
      clear h5 T4 HR1
      go_wp2_with fail
      refine (HR2.out _ T5.out).mono ?_
      rintro e w6 ⟨rfl, h6⟩
      have T6 := hid h6
      clear h6 T5 HR2
      go_wp2_with fail
      refine (HR3.out _ T6.out).mono ?_
      rintro e w7 ⟨rfl, h7⟩
      have T7 := hid h7
      clear h7 T6 HR3
      rcases key.out with ⟨rfl, rfl, rfl, rfl⟩ | ⟨rfl, rfl | ⟨rfl, rfl⟩⟩
      · clear key
        go_wp2
        go_ret
        exact ⟨by simp, T7.out⟩
      · clear key
        go_wp2
        go_ret
        exact ⟨by simp, T7.out⟩
      · clear key
        go_wp2
        go_ret
        exact ⟨by simp, T7.out⟩
end Go.Proofs.Ytcajdbklchjkkaa
