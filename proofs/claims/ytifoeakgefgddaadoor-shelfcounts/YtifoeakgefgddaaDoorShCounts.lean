/-
  The walk of the law ShelfCounts.
-/
import Derived.Test.YtifoeakgefgddaaDoorShOrder
import Derived.Test.YtifoeakgefgddaaDoorShOpen
namespace Go.Proofs.YtifoeakgefgddaaDoor
open Go.RowKit

theorem Mine.box {W w : World} {a b : Nat} {has : List Bool} (h : Mine W w a b has) (o : Obj) : Mine W (w.alloc o) a b has :=
  h.kept (S := fun _ => False) ((Fr.refl _ w).alloc o) (fun _ h => h.elim)

set_option maxRecDepth 20000 in
set_option maxHeartbeats 4000000 in
theorem counts_walk (x : Int) (ad : Option Addr) (l : List (Int × Int)) (cap : Nat) (w : World) (hl : OpsAt w ad l) (hlm : l.length ≤ maxLen) (hT : Tab w) :
    Calls Tryd.prog 8 #[.int .i64 x, .slice ad l.length cap] w fun e w' => e = .returned (.bool true) ∧ Fr (fun _ => False) w w' := by
  obtain ⟨n, hn, hnl⟩ := modu x 300 300 rfl (by decide) (by decide)
  have HN := hid (m_new (W := w) n (Fr.refl _ w) (by omega) hT)
  have HL := hid hl
  have hlm' : l.length ≤ 9223372036854775807 := hlm
  clear hT hl hlm
  go_enter Tryd.func8, Tryd.ntmps8
  go_wp2_with fail
  refine HN.out.mono ?_
  rintro e w1 ⟨a, b, rfl, h1⟩
  have HA := hid (awake_any w1 h1.sh.tab)
  have H1 := hid h1
  clear h1 HN
  by_cases hbig : 300 < l.length
  · go_wp2_with fail
    refine HA.out.mono ?_
    rintro e w2 ⟨rfl, f2⟩
    have HA2 := hid (awake_any w2 (H1.out.sh.tab.carry f2 (fun h => h)))
    have H2 : Hid (Fr (fun _ => False) w w2) := H1.out.fr.trans f2
    clear H1 f2 HA HL
    go_wp2_with fail
    refine HA2.out.mono ?_
    rintro e w3 ⟨rfl, f3⟩
    have H3 : Hid (Fr (fun _ => False) w w3) := H2.out.trans f3
    clear f3 HA2
    go_wp2
    go_ret
    exact ⟨by simp, H3.out⟩
  · go_wp2_with fail
    refine HA.out.mono ?_
    rintro e w2 ⟨rfl, f2⟩
    have H2 : Hid (Mine w w2 a b (List.replicate n false)) := H1.out.kept f2 (fun i h => h.elim)
    clear H1 f2 HA
    go_wp2
    go_loopw [8, 9, 10, 38, 59] (fun _ _ _ i _ wr => ∃ (j : Nat) (has : List Bool), j ≤ l.length ∧ i = .int .i64 j ∧ has.length = n ∧ Mine w wr a b has) (fun _ _ _ i _ _ => l.length - (intOf i).toNat)
    case atStart => exact ⟨0, _, by omega, rfl, by simp, H2.out⟩
    case round =>
      obtain ⟨j, has, hj, rfl, hhl, hm⟩ := hrel
      have HH := hid hhl
      clear hhl H2
      by_cases hlt : j < l.length
      · obtain ⟨bb, off, rfl, hbb, hc1, hc2⟩ := HL.out.fr hm.fr j hlt
        generalize hk : l[j] = o at hc1 hc2
        obtain ⟨kind, k⟩ := o
        simp only at hc1 hc2
        have HB := hid (hm.box (.cells #[.int .i64 kind, .int .i64 k] 32))
        clear hm hk
        by_cases k1 : kind = 1
        · subst k1
          have HC := hid (m_take HB.out)
          have HS := hid ((takS_length has).trans HH.out)
          generalize takS has = has' at *
          clear HB HH HL
          go_wp2_with fail
          clear hc1 hc2 hbb
          refine HC.out.mono ?_
          rintro e w3 ⟨rfl, h3⟩
          have H3 := hid h3
          clear h3 HC
          go_wp2
          go_loopw [9, 10, 59] (fun f _ i wr => ∃ j2 : Nat, j2 ≤ n ∧ i = .int .i64 j2 ∧ f = .int .i64 (frees (has'.take j2) : Nat) ∧ Mine w wr a b has') (fun _ _ i _ => n - (intOf i).toNat)
          case atStart => exact ⟨0, by omega, rfl, by simp [frees], H3.out⟩
          case round =>
            obtain ⟨j2, hj2, rfl, rfl, hm2⟩ := hrel
            clear H3
            by_cases hlt2 : j2 < n
            · have hl2 : j2 < has'.length := by rw [HS.out]; exact hlt2
              have HC := hid (m_taken hm2 (j2 : Int))
              rw [isT_nat has' j2 hl2] at HC
              have HF := hid (frees_take_succ has' j2 hl2)
              have hfb : frees (has'.take j2) ≤ n := by have := frees_le (has'.take j2); simp at this; omega
              clear hm2
              cases hb : has'[j2]
              · rw [hb] at HC HF
                generalize frees (has'.take j2) = f at *
                clear hb
                go_wp2_with fail
                refine HC.out.mono ?_
                rintro e w4 ⟨rfl, h4⟩
                have H4 := hid h4
                clear h4 HC
                go_wp2
                go_roundw
                case rel => exact ⟨j2 + 1, by omega, by go_num, by rw [HF.out]; go_num, H4.out⟩
                case measure => simp [intOf]; omega
              · rw [hb] at HC HF
                generalize frees (has'.take j2) = f at *
                clear hb
                go_wp2_with fail
                refine HC.out.mono ?_
                rintro e w4 ⟨rfl, h4⟩
                have H4 := hid h4
                clear h4 HC
                go_wp2
                go_roundw
                case rel => exact ⟨j2 + 1, by omega, by go_num, by rw [HF.out]; go_num, H4.out⟩
                case measure => simp [intOf]; omega
            · obtain rfl : j2 = n := by omega
              have hall : has'.take j2 = has' := List.take_of_length_le (by rw [HS.out]; exact Nat.le_refl _)
              rw [hall]
              have HC := hid (m_free hm2)
              clear hm2 hall
              have hfb : frees has' ≤ j2 := by have := frees_le has'; have := HS.out; omega
              generalize frees has' = f at *
              go_wp2_with fail
              refine HC.out.mono ?_
              rintro e w4 ⟨rfl, h4⟩
              have H4 := hid h4
              clear h4 HC
              go_wp2
              go_roundw
              case rel => exact ⟨j + 1, has', by omega, by go_num, HS.out, H4.out⟩
              case measure => simp [intOf]; omega
        · by_cases k2 : kind = 2
          · subst k2
            have HC := hid (m_takeAt HB.out k)
            have HS := hid ((taS_length has k).trans HH.out)
            generalize taS has k = has' at *
            clear HB HH HL
            go_wp2_with fail
            clear hc1 hc2 hbb
            refine HC.out.mono ?_
            rintro e w3 ⟨rfl, h3⟩
            have H3 := hid h3
            clear h3 HC
            go_wp2
            go_loopw [9, 10, 59] (fun f _ i wr => ∃ j2 : Nat, j2 ≤ n ∧ i = .int .i64 j2 ∧ f = .int .i64 (frees (has'.take j2) : Nat) ∧ Mine w wr a b has') (fun _ _ i _ => n - (intOf i).toNat)
            case atStart => exact ⟨0, by omega, rfl, by simp [frees], H3.out⟩
            case round =>
              obtain ⟨j2, hj2, rfl, rfl, hm2⟩ := hrel
              clear H3
              by_cases hlt2 : j2 < n
              · have hl2 : j2 < has'.length := by rw [HS.out]; exact hlt2
                have HC := hid (m_taken hm2 (j2 : Int))
                rw [isT_nat has' j2 hl2] at HC
                have HF := hid (frees_take_succ has' j2 hl2)
                have hfb : frees (has'.take j2) ≤ n := by have := frees_le (has'.take j2); simp at this; omega
                clear hm2
                cases hb : has'[j2]
                · rw [hb] at HC HF
                  generalize frees (has'.take j2) = f at *
                  clear hb
                  go_wp2_with fail
                  refine HC.out.mono ?_
                  rintro e w4 ⟨rfl, h4⟩
                  have H4 := hid h4
                  clear h4 HC
                  go_wp2
                  go_roundw
                  case rel => exact ⟨j2 + 1, by omega, by go_num, by rw [HF.out]; go_num, H4.out⟩
                  case measure => simp [intOf]; omega
                · rw [hb] at HC HF
                  generalize frees (has'.take j2) = f at *
                  clear hb
                  go_wp2_with fail
                  refine HC.out.mono ?_
                  rintro e w4 ⟨rfl, h4⟩
                  have H4 := hid h4
                  clear h4 HC
                  go_wp2
                  go_roundw
                  case rel => exact ⟨j2 + 1, by omega, by go_num, by rw [HF.out]; go_num, H4.out⟩
                  case measure => simp [intOf]; omega
              · obtain rfl : j2 = n := by omega
                have hall : has'.take j2 = has' := List.take_of_length_le (by rw [HS.out]; exact Nat.le_refl _)
                rw [hall]
                have HC := hid (m_free hm2)
                clear hm2 hall
                have hfb : frees has' ≤ j2 := by have := frees_le has'; have := HS.out; omega
                generalize frees has' = f at *
                go_wp2_with fail
                refine HC.out.mono ?_
                rintro e w4 ⟨rfl, h4⟩
                have H4 := hid h4
                clear h4 HC
                go_wp2
                go_roundw
                case rel => exact ⟨j + 1, has', by omega, by go_num, HS.out, H4.out⟩
                case measure => simp [intOf]; omega
          · skip
            have b1 : (kind == 1) = false := by simpa using k1
            have b2 : (kind == 2) = false := by simpa using k2
            have HC := hid (m_give HB.out k)
            have HS := hid ((giS_length has k).trans HH.out)
            generalize giS has k = has' at *
            clear HB HH HL
            go_wp2_with fail
            clear hc1 hc2 hbb
            refine HC.out.mono ?_
            rintro e w3 ⟨rfl, h3⟩
            have H3 := hid h3
            clear h3 HC
            go_wp2
            go_loopw [9, 10, 59] (fun f _ i wr => ∃ j2 : Nat, j2 ≤ n ∧ i = .int .i64 j2 ∧ f = .int .i64 (frees (has'.take j2) : Nat) ∧ Mine w wr a b has') (fun _ _ i _ => n - (intOf i).toNat)
            case atStart => exact ⟨0, by omega, rfl, by simp [frees], H3.out⟩
            case round =>
              obtain ⟨j2, hj2, rfl, rfl, hm2⟩ := hrel
              clear H3
              by_cases hlt2 : j2 < n
              · have hl2 : j2 < has'.length := by rw [HS.out]; exact hlt2
                have HC := hid (m_taken hm2 (j2 : Int))
                rw [isT_nat has' j2 hl2] at HC
                have HF := hid (frees_take_succ has' j2 hl2)
                have hfb : frees (has'.take j2) ≤ n := by have := frees_le (has'.take j2); simp at this; omega
                clear hm2
                cases hb : has'[j2]
                · rw [hb] at HC HF
                  generalize frees (has'.take j2) = f at *
                  clear hb
                  go_wp2_with fail
                  refine HC.out.mono ?_
                  rintro e w4 ⟨rfl, h4⟩
                  have H4 := hid h4
                  clear h4 HC
                  go_wp2
                  go_roundw
                  case rel => exact ⟨j2 + 1, by omega, by go_num, by rw [HF.out]; go_num, H4.out⟩
                  case measure => simp [intOf]; omega
                · rw [hb] at HC HF
                  generalize frees (has'.take j2) = f at *
                  clear hb
                  go_wp2_with fail
                  refine HC.out.mono ?_
                  rintro e w4 ⟨rfl, h4⟩
                  have H4 := hid h4
                  clear h4 HC
                  go_wp2
                  go_roundw
                  case rel => exact ⟨j2 + 1, by omega, by go_num, by rw [HF.out]; go_num, H4.out⟩
                  case measure => simp [intOf]; omega
              · obtain rfl : j2 = n := by omega
                have hall : has'.take j2 = has' := List.take_of_length_le (by rw [HS.out]; exact Nat.le_refl _)
                rw [hall]
                have HC := hid (m_free hm2)
                clear hm2 hall
                have hfb : frees has' ≤ j2 := by have := frees_le has'; have := HS.out; omega
                generalize frees has' = f at *
                go_wp2_with fail
                refine HC.out.mono ?_
                rintro e w4 ⟨rfl, h4⟩
                have H4 := hid h4
                clear h4 HC
                go_wp2
                go_roundw
                case rel => exact ⟨j + 1, has', by omega, by go_num, HS.out, H4.out⟩
                case measure => simp [intOf]; omega
      · obtain rfl : j = l.length := by omega
        have H5 := hid hm.fr
        clear hm HL
        go_wp2
        go_ret
        exact ⟨by simp, H5.out⟩
theorem counts_all (x : Int) (v : Value) (w : World) (h : ∃ ad cap l, v = .slice ad (List.length l) cap ∧ OpsAt w ad l ∧ l.length ≤ maxLen) (hT : Tab w) :
    Calls Tryd.prog 8 #[.int .i64 x, v] w fun e w' => e = .returned (.bool true) ∧ Fr (fun _ => False) w w' := by
  obtain ⟨ad, cap, l, rfl, h1, h2⟩ := h
  exact counts_walk x ad l cap w h1 h2 hT
end Go.Proofs.YtifoeakgefgddaaDoor
