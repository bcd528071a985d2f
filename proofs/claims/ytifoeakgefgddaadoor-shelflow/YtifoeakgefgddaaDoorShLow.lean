/-
  The walk of the law ShelfLow.
-/
import Derived.Test.YtifoeakgefgddaaDoorShOrder
import Derived.Test.YtifoeakgefgddaaDoorShOpen
namespace Go.Proofs.YtifoeakgefgddaaDoor
open Go.RowKit

set_option maxRecDepth 20000 in
set_option maxHeartbeats 2000000 in
theorem low_walk (x : Int) (ad : Option Addr) (l : List Int) (cap : Nat) (w : World) (hl : NumsAt w ad l) (hlm : l.length ≤ maxLen) (hT : Tab w) :
    Calls Tryd.prog 7 #[.int .i64 x, .slice ad l.length cap] w fun e w' => e = .returned (.bool true) ∧ Fr (fun _ => False) w w' := by
  obtain ⟨n, hn, hnl⟩ := modu x 1000 1000 rfl (by decide) (by decide)
  have HN := hid (m_new (W := w) n (Fr.refl _ w) (by omega) hT)
  have HL := hid hl
  have hlm' : l.length ≤ 9223372036854775807 := hlm
  clear hT hl hlm
  go_enter Tryd.func7, Tryd.ntmps7
  go_wp2_with fail
  refine HN.out.mono ?_
  rintro e w1 ⟨a, b, rfl, h1⟩
  have HA := hid (awake_any w1 h1.sh.tab)
  have H1 := hid h1
  clear h1 HN
  by_cases hbig : 1000 < l.length
  · go_wp2_with fail
    refine HA.out.mono ?_
    rintro e w2 ⟨rfl, f2⟩
    have HA2 := hid (awake_any w2 (H1.out.sh.tab.carry f2 (fun h => h)))
    have H2 : Hid (Fr (fun _ => False) w w2) := H1.out.fr.trans f2
    clear H1 f2 HA HL
    go_wp2_with fail
    refine HA2.out.mono ?_
    rintro e w3 ⟨rfl, f3⟩
    have H3 : Hid (Fr (fun _ => False) w w3) := H2.out.trans f3
    clear f3 HA2
    go_wp2
    go_ret
    exact ⟨by simp, H3.out⟩
  · go_wp2_with fail
    refine HA.out.mono ?_
    rintro e w2 ⟨rfl, f2⟩
    have H2 : Hid (Mine w w2 a b (List.replicate n false)) := H1.out.kept f2 (fun i h => h.elim)
    clear H1 f2 HA
    go_wp2
    go_loopw [8, 41] (fun _ i wr => ∃ (j : Nat) (has : List Bool), j ≤ l.length ∧ i = .int .i64 j ∧ has.length = n ∧ Mine w wr a b has) (fun _ i _ => l.length - (intOf i).toNat)
    case atStart => exact ⟨0, _, by omega, rfl, by simp, H2.out⟩
    case round =>
      obtain ⟨j, has, hj, rfl, hhl, hm⟩ := hrel
      have HH := hid hhl
      have hhn : has.length < 1000 := by omega
      clear hhl H2
      by_cases hlt : j < l.length
      · obtain ⟨bb, off, rfl, hbb, hc⟩ := HL.out.fr hm.fr j hlt
        generalize hk : l[j] = k at hc
        have HC := hid (m_takeAt hm k)
        have HS := hid ((taS_length has k).trans HH.out)
        generalize taS has k = has' at *
        clear hm hk
        go_wp2_with fail
        refine HC.out.mono ?_
        rintro e w3 ⟨rfl, h3⟩
        have H3 := hid h3
        clear h3 HC
        go_wp2
        go_roundw
        case rel => exact ⟨j + 1, has', by omega, by go_num, HS.out, H3.out⟩
        case measure => simp [intOf]; omega
      · obtain rfl : j = l.length := by omega
        have HC := hid (m_lowest hm)
        clear hm
        by_cases hlow : low has < has.length
        · have e1 : lowI has = (low has : Int) := by unfold lowI; rw [if_pos hlow]
          have e2 : takV has = (low has : Int) := by unfold takV; rw [if_pos hlow]
          have e3 : takE has = 0 := by unfold takE; rw [if_pos hlow]
          have e4 : takS has = has.set (low has) true := by unfold takS; rw [if_pos hlow]
          have HB : Hid (∀ i : Nat, i < low has → isT (takS has) (i : Int) = true) := fun i hi => by
            rw [e4, isT_nat _ _ (by simp; omega)]
            have := low_below has i hi (by omega)
            rw [List.getElem_set_ne (by omega)]; exact this
          have HK : Hid (isT (takS has) (low has : Int) = true) := by
            show isT (takS has) (low has : Int) = true
            rw [e4, isT_nat _ _ (by simp; omega)]; simp
          have hfr := frees_take has (low has) hlow (low_at has hlow)
          rw [← e4] at hfr
          have hfl := frees_le has
          rw [e1] at HC
          have HE := hid (And.intro e2 e3)
          clear e1 e2 e3 e4 HL
          go_wp2_with fail
          refine HC.out.mono ?_
          rintro e w3 ⟨rfl, h3⟩
          have HF := hid (m_free h3)
          clear h3 HC
          go_wp2_with fail
          refine HF.out.mono ?_
          rintro e w4 ⟨rfl, h4⟩
          have HT := hid (m_take h4)
          rw [HE.out.1, HE.out.2] at HT
          clear h4 HF HE HH
          generalize takS has = has' at *
          generalize low has = k at *
          generalize frees has = f at *
          generalize hf' : frees has' = f' at *
          have HF' := hid hf'
          clear hf'
          go_wp2_with fail
          refine HT.out.mono ?_
          rintro e w5 ⟨rfl, h5⟩
          have H5 := hid h5
          clear h5 HT
          go_wp2
          go_loopw [13, 67] (fun _ i wr => ∃ j : Nat, j ≤ k ∧ i = .int .i64 j ∧ Mine w wr a b has') (fun _ i _ => k - (intOf i).toNat)
          case atStart => exact ⟨0, by omega, rfl, H5.out⟩
          case round =>
            obtain ⟨j, hj, rfl, hm⟩ := hrel
            clear H5
            by_cases hlt2 : j < k
            · have HC := hid (m_taken hm (j : Int))
              rw [HB.out j hlt2] at HC
              clear hm
              go_wp2_with fail
              refine HC.out.mono ?_
              rintro e w6 ⟨rfl, h6⟩
              have H6 := hid h6
              clear h6 HC
              go_wp2
              go_roundw
              case rel => exact ⟨j + 1, by omega, by go_num, H6.out⟩
              case measure => simp [intOf]; omega
            · obtain rfl : j = k := by omega
              have HC := hid (m_taken hm (j : Int))
              rw [HK.out] at HC
              clear hm
              go_wp2_with fail
              refine HC.out.mono ?_
              rintro e w6 ⟨rfl, h6⟩
              have HG := hid (m_free h6)
              rw [HF'.out] at HG
              clear h6 HC
              go_wp2_with fail
              refine HG.out.mono ?_
              rintro e w7 ⟨rfl, h7⟩
              have H7 := hid h7.fr
              clear h7 HG
              go_wp2
              go_ret
              exact ⟨by simp; omega, H7.out⟩
        · have hle := low_le has
          have e0 : frees has = 0 := (frees_zero_low has).2 (by omega)
          have e1 : lowI has = -1 := by unfold lowI; rw [if_neg hlow]
          have e3 : takE has = 13 := by unfold takE; rw [if_neg hlow]
          rw [e1] at HC
          have HE := hid (And.intro e0 e3)
          clear e0 e1 e3 hle HL
          go_wp2_with fail
          refine HC.out.mono ?_
          rintro e w3 ⟨rfl, h3⟩
          have HF := hid (m_free h3)
          rw [HE.out.1] at HF
          clear h3 HC
          go_wp2_with fail
          refine HF.out.mono ?_
          rintro e w4 ⟨rfl, h4⟩
          have HT := hid (m_take h4)
          rw [HE.out.2] at HT
          clear h4 HF HE HH
          go_wp2_with fail
          refine HT.out.mono ?_
          rintro e w5 ⟨rfl, h5⟩
          have H5 := hid h5.fr
          clear h5 HT
          go_wp2
          go_ret
          exact ⟨by simp, H5.out⟩
theorem low_all (x : Int) (v : Value) (w : World) (h : ∃ ad cap l, v = .slice ad (List.length l) cap ∧ NumsAt w ad l ∧ l.length ≤ maxLen) (hT : Tab w) :
    Calls Tryd.prog 7 #[.int .i64 x, v] w fun e w' => e = .returned (.bool true) ∧ Fr (fun _ => False) w w' := by
  obtain ⟨ad, cap, l, rfl, h1, h2⟩ := h
  exact low_walk x ad l cap w h1 h2 hT
end Go.Proofs.YtifoeakgefgddaaDoor
