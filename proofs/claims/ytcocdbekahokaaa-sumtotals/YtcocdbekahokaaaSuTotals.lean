/-
  The law SumTotals, walked.
-/
import Derived.Test.YtcocdbekahokaaaSuRows
import Derived.Deep.RegionHeld
namespace Go.Proofs.Ytcocdbekahokaaa
open Go.RowKit

theorem put_cell {w : World} {B b o : Nat} {v u1 u2 : Value} (hne : b ≠ B) (h : w.cell? ⟨b, o, none⟩ = some v) : ((w.setCell ⟨B, 0, none⟩ u1).setCell ⟨B, 1, none⟩ u2).cell? ⟨b, o, none⟩ = some v := by
  refine (World.cell?_of_block ?_).trans h
  rw [Below.heap_setCell _ _ _ b hne, Below.heap_setCell _ _ _ b hne]
theorem totals_long {w0 : World} {ab ap : Option Addr} {cb cp : Nat} {bs ps : List Int} (hb : bs.length ≤ maxLen) (hp : ps.length ≤ maxLen) (h : 1000 < bs.length ∨ (bs.length ≤ 1000 ∧ 1000 < ps.length)) :
    Calls Try.prog 4 #[.slice ab bs.length cb, .slice ap ps.length cp] w0 fun e w' => e = .returned (.bool true) ∧ Fr (fun _ => False) w0 w' := by
  have HA := hid fun w => f_awake w
  unfold maxLen at hb hp
  rcases h with h | ⟨h0, h⟩
  all_goals
    go_enter Try.func4, Try.ntmps4
    go_wp2_with fail
    refine (HA.out _).mono ?_
    rintro e w1 ⟨rfl, hf⟩
    have F1 := hid hf
    clear hf
    go_wp2
    go_ret
    exact ⟨rfl, F1.out⟩

set_option maxRecDepth 20000 in
set_option maxHeartbeats 4000000 in
theorem totals_short {w0 : World} {ab ap : Option Addr} {cb cp : Nat} {bs ps : List Int} (hnb : NumsAt w0 ab bs) (hnp : NumsAt w0 ap ps) (hb : bs.length ≤ 1000) (hp : ps.length ≤ 1000) :
    Calls Try.prog 4 #[.slice ab bs.length cb, .slice ap ps.length cp] w0 fun e w' => e = .returned (.bool true) ∧ Fr (fun _ => False) w0 w' := by
  have HA := hid fun w => f_awake w
  have HB := hid hnb
  have HP := hid hnp
  have HS := hid (St.start w0)
  clear hnb hnp
  obtain ⟨N, hN⟩ : ∃ N : Nat, N = min bs.length ps.length := ⟨_, rfl⟩
  have hN1 : N ≤ bs.length := by omega
  have hN2 : N ≤ ps.length := by omega
  have d1 : decide ((1000 : Int) < bs.length) = false := by simp; omega
  have d2 : decide ((1000 : Int) < ps.length) = false := by simp; omega
  have d3 : ∀ ts t w, (Builtin.min_ ts t #[.int .i64 (bs.length : Int), .int .i64 (ps.length : Int)]).run Try.prog w = .ok (.int .i64 (N : Int)) w := by
    intro ts t w
    rw [run_min_int2, show (if (ps.length : Int) < bs.length then (ps.length : Int) else bs.length) = (N : Int) by rw [hN]; split <;> omega]
  clear hN
  go_enter Try.func4, Try.ntmps4
  go_wp2
  clear d1 d2 d3
  go_loopw [5, 6, 8, 9, 10, 11, 31] (fun vl vm f _ _ _ i wr => ∃ (j : Nat) (ks : List (Int × Int)), j ≤ N ∧ i = .int .i64 j ∧ f = .int .i64 (tot 0 0 ks).2.2 ∧ Hid (ks.length ≤ j ∧ AllRt ks) ∧ Hid (St w0 wr vl vm ks ks.reverse (tot 0 0 ks).1 (tot 0 0 ks).2.1)) (fun _ _ _ _ _ _ i _ => N - (intOf i).toNat)
  case atStart => exact ⟨0, [], by omega, rfl, rfl, ⟨Nat.le_refl _, fun p hp => by cases hp⟩, HS.out⟩
  case round =>
    obtain ⟨j, ks, hj, rfl, rfl, HK, HS⟩ := hrel
    by_cases hlt : j < N
    · have hjb : j < bs.length := by omega
      have hjp : j < ps.length := by omega
      obtain ⟨bb, ob, had, hbb, hd1⟩ := HB.out j hjb
      obtain ⟨bp, op, had2, hbp, hd2⟩ := HP.out j hjp
      subst had
      subst had2
      have HD1 : Hid (∀ w, Fr (fun _ => False) w0 w → w.cell? ⟨bb, ob + j, none⟩ = some (.int .i64 bs[j])) := fun w f => (World.cell?_of_block (f.block bb hbb (fun h => h))).trans hd1
      have HD2 : Hid (∀ w, Fr (fun _ => False) w0 w → w.cell? ⟨bp, op + j, none⟩ = some (.int .i64 ps[j])) := fun w f => (World.cell?_of_block (f.block bp hbp (fun h => h))).trans hd2
      have hc1 := HD1.out _ HS.out.old
      have hc2 := HD2.out _ HS.out.old
      clear hd1 hd2
      have hk1 := HK.out.1
      generalize bs[j] = a at *
      generalize ps[j] = b at *
      by_cases hr : Rt a b
      · have HO := hid fun w => t_of a b w
        rw [(ok_right hr).1, (ok_right hr).2.1, (ok_right hr).2.2] at HO
        have HO2 := hid fun w => (HO.out w).mono fun _ _ h => And.intro h.1 (same_drew h.2)
        have HR := hid hr
        have hrev : ks.reverse.length ≤ 1000 := by simp; omega
        clear hr HO
        generalize hz : (tot 0 0 ks).2.2 = z at *
        have HZ := hid hz
        clear hz
        by_cases hz0 : z = 0
        · subst hz0
          go_wp2_with fail
          go_quiet (first | (go_at_call 9; refine Calls.quiet_of (HO2.out _)))
          replace HS := hid (HS.out.on ((Fr.refl _ _).drewN nq))
          clear hc1 hc2
          generalize wr.drewN nq = w1 at *
          go_wp2_with (first | (at_builtin; refine wpList_l (a, b) HS.out (by omega) rfl (.tmp 48) (.tmp 50) rfl rfl rfl ?_; intro g1 cap1 w2 h2; have HS2 := hid h2; clear h2 HS) | (at_builtin; refine wpList_m (a, b) HS2.out hrev rfl (.tmp 53) (.tmp 54) rfl rfl rfl ?_; intro g2 cap2 w3 h3; have HS3 := hid h3; clear h3 HS2))
          replace HS3 : Hid (St w0 w3 (.slice (some ⟨g1, 0, none⟩) (ks.length + 1) cap1) (.slice (some ⟨g2, 0, none⟩) (ks.length + 1) cap2) (ks ++ [(a, b)]) (ks ++ [(a, b)]).reverse (tot 0 0 ks).1 (tot 0 0 ks).2.1) := by
            have := HS3.out
            simp only [List.length_reverse] at this
            rw [List.reverse_append]
            exact this
          have HPL := hid fun w => r_plus (tot 0 0 ks).1 (tot 0 0 ks).2.1 a b w (tot_rt HK.out.2) HR.out
          have HM := hid (tot_more HK.out.2 (p := (a, b)) HR.out)
          rw [HZ.out, if_pos rfl] at HM
          have HK2 : Hid ((ks ++ [(a, b)]).length ≤ j + 1 ∧ AllRt (ks ++ [(a, b)])) := by
            refine ⟨by simp; omega, fun q hq => ?_⟩
            rcases List.mem_append.1 hq with hq | hq
            · exact HK.out.2 q hq
            · simp at hq; subst hq; exact HR.out
          have hc1 := HD1.out _ HS3.out.old
          have hc2 := HD2.out _ HS3.out.old
          have hw0 := HS3.out.c0
          have hw1 := HS3.out.c1
          have hne1 : bb ≠ w0.heap.size := by omega
          have hne2 : bp ≠ w0.heap.size := by omega
          clear HK HO2 HZ HB HP HA
          generalize ks ++ [(a, b)] = ks2 at *
          generalize (tot 0 0 ks).1 = x at *
          generalize (tot 0 0 ks).2.1 = y at *
          simp only at HM
          generalize okA (x + a) (y + b) = x2 at *
          generalize okB (x + a) (y + b) = y2 at *
          generalize okE (x + a) (y + b) = z2 at *
          go_region_with (first | (go_at_call 14; refine (HPL.out _).mono ?_; rintro e w4 ⟨rfl, f4⟩; have HF4 := hid ((Fr.refl (fun _ => False) w3).drew.trans f4); have hw04 := (HS3.out.on HF4.out).c0; have hw14 := (HS3.out.on HF4.out).c1; have hg04 := (HS3.out.on HF4.out).g0; have hg14 := (HS3.out.on HF4.out).g1; clear f4))
          all_goals
            go_wp2
            go_roundw
            case rel => exact ⟨j + 1, ks2, by omega, by go_num, by rw [HM.out], HK2.out, by rw [HM.out]; exact (HS3.out.on HF4.out).put x2 y2⟩
            case measure => simp [intOf]; omega
        · have hzb : (z == 0) = false := by simpa using hz0
          have HM := hid (tot_more HK.out.2 (p := (a, b)) HR.out)
          rw [HZ.out, if_neg hz0] at HM
          have HK2 : Hid ((ks ++ [(a, b)]).length ≤ j + 1 ∧ AllRt (ks ++ [(a, b)])) := by
            refine ⟨by simp; omega, fun q hq => ?_⟩
            rcases List.mem_append.1 hq with hq | hq
            · exact HK.out.2 q hq
            · simp at hq; subst hq; exact HR.out
          clear HK HB HP HA HR
          go_wp2_with fail
          go_quiet (first | (go_at_call 9; refine Calls.quiet_of (HO2.out _)))
          replace HS := hid (HS.out.on ((Fr.refl _ _).drewN nq))
          clear hc1 hc2
          generalize wr.drewN nq = w1 at *
          go_wp2_with (first | (at_builtin; refine wpList_l (a, b) HS.out (by omega) rfl (.tmp 48) (.tmp 50) rfl rfl rfl ?_; intro g1 cap1 w2 h2; have HS2 := hid h2; clear h2 HS) | (at_builtin; refine wpList_m (a, b) HS2.out hrev rfl (.tmp 53) (.tmp 54) rfl rfl rfl ?_; intro g2 cap2 w3 h3; have HS3 := hid h3; clear h3 HS2))
          go_roundw
          case rel =>
            replace HS3 : Hid (St w0 w3 (.slice (some ⟨g1, 0, none⟩) (ks.length + 1) cap1) (.slice (some ⟨g2, 0, none⟩) (ks.length + 1) cap2) (ks ++ [(a, b)]) (ks ++ [(a, b)]).reverse (tot 0 0 ks).1 (tot 0 0 ks).2.1) := by
              have := HS3.out
              simp only [List.length_reverse] at this
              rw [List.reverse_append]
              exact this
            exact ⟨j + 1, ks ++ [(a, b)], by omega, by go_num, by rw [HM.out, HZ.out], HK2.out, by rw [HM.out]; exact HS3.out⟩
          case measure => simp [intOf]; omega
      · have HO := hid fun w => t_of a b w
        rw [(ok_wrong hr).1, (ok_wrong hr).2.1, (ok_wrong hr).2.2, fb_zero] at HO
        have HO2 := hid fun w => (HO.out w).mono fun _ _ h => And.intro h.1 (same_drew h.2)
        clear hr HO
        generalize hz : (tot 0 0 ks).2.2 = z at *
        have HZ := hid hz
        clear hz
        go_wp2_with fail
        go_quiet (first | (go_at_call 9; refine Calls.quiet_of (HO2.out _)))
        go_wp2
        go_roundw
        case rel => exact ⟨j + 1, ks, by omega, by go_num, by rw [HZ.out], ⟨by omega, HK.out.2⟩, HS.out.on ((Fr.refl _ _).drewN _)⟩
        case measure => simp [intOf]; omega
    · obtain rfl : j = N := by omega
      have hrt := tot_rt HK.out.2
      have hk1 := HK.out.1
      have HT1 := hid (row_total HS.out.rl (by omega) HK.out.2)
      have HT2 := hid (row_total HS.out.rm (by simp; omega) (allRt_reverse HK.out.2))
      rw [tot_reverse HK.out.2] at HT2
      have hcase : (tot 0 0 ks).2.2 = 0 ∨ ((tot 0 0 ks).2.2 = 12 ∧ (tot 0 0 ks).1 = 0 ∧ (tot 0 0 ks).2.1 = 0) := by
        rw [tot_sum rt_zero HK.out.2]
        by_cases hr : Rt (0 + sA ks) (0 + sB ks)
        · exact .inl (ok_right hr).2.2
        · exact .inr ⟨(ok_wrong hr).2.2, (ok_wrong hr).1, (ok_wrong hr).2.1⟩
      have HE := hid fun w => f_same hrt (tot 0 0 ks).2.2 w
      obtain ⟨ho1, ho2⟩ := order_self hrt
      clear HK HB HP hrt
      generalize (tot 0 0 ks).1 = x at *
      generalize (tot 0 0 ks).2.1 = y at *
      generalize (tot 0 0 ks).2.2 = z at *
      rcases hcase with hz | ⟨hz, hx, hy⟩
      · subst hz
        generalize fb x = p at *
        generalize fb y = q at *
        go_wp2_with fail
        refine HT1.out.mono ?_
        rintro e w1 ⟨rfl, hw⟩
        obtain rfl := hw.symm
        go_wp2_with fail
        refine HT2.out.mono ?_
        rintro e w1 ⟨rfl, hw⟩
        obtain rfl := hw.symm
        go_wp2_with fail
        refine (HA.out _).mono ?_
        rintro e w1 ⟨rfl, hf⟩
        have HS1 := hid (HS.out.on hf)
        clear hf HS HT1 HT2
        have c0 := HS1.out.c0
        have c1 := HS1.out.c1
        go_wp2_with fail
        refine (HE.out _).mono ?_
        rintro e w2 ⟨rfl, hf⟩
        have HS2 := hid (HS1.out.on hf)
        clear hf HS1 c0 c1
        go_wp2
        go_ret
        exact ⟨by simp, HS2.out.old⟩
      · subst hz
        subst hx
        subst hy
        generalize fb 0 = p at *
        have c0 := HS.out.c0
        have c1 := HS.out.c1
        have g0 := HS.out.g0
        have g1 := HS.out.g1
        have HP := hid (HS.out.put 0 0)
        go_wp2_with fail
        refine HT1.out.mono ?_
        rintro e w1 ⟨rfl, hw⟩
        obtain rfl := hw.symm
        go_wp2_with fail
        refine HT2.out.mono ?_
        rintro e w1 ⟨rfl, hw⟩
        obtain rfl := hw.symm
        go_wp2_with fail
        refine (HA.out _).mono ?_
        rintro e w1 ⟨rfl, hf⟩
        have HS1 := hid (HP.out.on hf)
        clear hf HS HP HT1 HT2 c0 c1 g0 g1
        have c0 := HS1.out.c0
        have c1 := HS1.out.c1
        go_wp2_with fail
        refine (HE.out _).mono ?_
        rintro e w2 ⟨rfl, hf⟩
        have HS2 := hid (HS1.out.on hf)
        clear hf HS1 c0 c1
        go_wp2
        go_ret
        exact ⟨by simp, HS2.out.old⟩
theorem totals_walk {w0 : World} {ab ap : Option Addr} {cb cp : Nat} {bs ps : List Int} (hnb : NumsAt w0 ab bs) (hnp : NumsAt w0 ap ps) (hb : bs.length ≤ maxLen) (hp : ps.length ≤ maxLen) :
    Calls Try.prog 4 #[.slice ab bs.length cb, .slice ap ps.length cp] w0 fun e w' => e = .returned (.bool true) ∧ Fr (fun _ => False) w0 w' := by
  by_cases h1 : bs.length ≤ 1000
  · by_cases h2 : ps.length ≤ 1000
    · exact totals_short hnb hnp h1 h2
    · exact totals_long hb hp (.inr ⟨h1, by omega⟩)
  · exact totals_long hb hp (.inl (by omega))
theorem totals_all (v0 v1 : Value) (w : World) (s0 : ∃ ad cap l, v0 = .slice ad (List.length l) cap ∧ NumsAt w ad l ∧ l.length ≤ maxLen) (s1 : ∃ ad cap l, v1 = .slice ad (List.length l) cap ∧ NumsAt w ad l ∧ l.length ≤ maxLen) :
    Calls Try.prog 4 #[v0, v1] w fun e w' => e = .returned (.bool true) ∧ Fr (fun _ => False) w w' := by
  obtain ⟨a0, c0, l0, rfl, h0, k0⟩ := s0
  obtain ⟨a1, c1, l1, rfl, h1, k1⟩ := s1
  exact totals_walk h0 h1 k0 k1
end Go.Proofs.Ytcocdbekahokaaa
