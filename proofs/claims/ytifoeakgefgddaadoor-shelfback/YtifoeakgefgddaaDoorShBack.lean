/-
  The walk of the law ShelfBack.
-/
import Derived.Test.YtifoeakgefgddaaDoorShTwo
namespace Go.Proofs.YtifoeakgefgddaaDoor
open Go.RowKit

theorem Mine.box {W w : World} {a b : Nat} {has : List Bool} (h : Mine W w a b has) (o : Obj) : Mine W (w.alloc o) a b has :=
  h.kept (S := fun _ => False) ((Fr.refl _ w).alloc o) (fun _ h => h.elim)
set_option maxRecDepth 20000 in
set_option maxHeartbeats 4000000 in
theorem back_walk (x : Int) (ad : Option Addr) (l : List (Int × Int)) (cap : Nat) (ad2 : Option Addr) (more : List Int) (cap2 : Nat) (w : World) (hl : OpsAt w ad l) (hlm : l.length ≤ maxLen) (hl2 : NumsAt w ad2 more) (hlm2 : more.length ≤ maxLen) (hT : Tab w) :
    Calls Tryd.prog 5 #[.int .i64 x, .slice ad l.length cap, .slice ad2 more.length cap2] w fun e w' => e = .returned (.bool true) ∧ Fr (fun _ => False) w w' := by
  obtain ⟨n, hn, hnl⟩ := modu x 500 500 rfl (by decide) (by decide)
  have hlm' : l.length ≤ 9223372036854775807 := hlm
  have hlm2' : more.length ≤ 9223372036854775807 := hlm2
  have HL := hid hl
  have HM := hid hl2
  have HTab := hid hT
  clear hl hlm hl2 hlm2 hT
  by_cases hbig : 300 < l.length
  · have HA := hid (awake_any w HTab.out)
    clear HL HM
    go_enter Tryd.func5, Tryd.ntmps5
    go_wp2_with fail
    refine HA.out.mono ?_
    rintro e w2 ⟨rfl, f2⟩
    have H2 := hid f2
    clear f2 HA
    go_wp2
    go_ret
    exact ⟨by simp, H2.out⟩
  by_cases hbig2 : 300 < more.length
  · have HA := hid (awake_any w HTab.out)
    clear HL HM
    go_enter Tryd.func5, Tryd.ntmps5
    go_wp2_with fail
    refine HA.out.mono ?_
    rintro e w2 ⟨rfl, f2⟩
    have H2 := hid f2
    clear f2 HA
    go_wp2
    go_ret
    exact ⟨by simp, H2.out⟩
  have HN := hid (m_new (W := w) n (Fr.refl _ w) (by omega) HTab.out)
  obtain ⟨i0, hi, hz0, hz1, hz2⟩ := info_parts Tryd.infoInt
  have HI := hid (And.intro hi (And.intro hz0 (And.intro hz1 hz2)))
  clear hi hz0 hz1 hz2
  go_enter Tryd.func5, Tryd.ntmps5
  go_wp2_with fail
  refine HN.out.mono ?_
  rintro e w1 ⟨a, b, rfl, h1⟩
  have H1 := hid h1
  clear h1 HN
  go_wp2
  go_loopw [10, 41] (fun _ i wr => ∃ (j : Nat) (has : List Bool), j ≤ l.length ∧ i = .int .i64 j ∧ has.length = n ∧ Mine w wr a b has) (fun _ i _ => l.length - (intOf i).toNat)
  case atStart => exact ⟨0, _, by omega, rfl, by simp, H1.out⟩
  case round =>
    obtain ⟨j, has, hj, rfl, hhl, hm⟩ := hrel
    have HH := hid hhl
    clear hhl H1
    by_cases hlt : j < l.length
    · obtain ⟨bb, off, rfl, hbb, hc1, hc2⟩ := HL.out.fr hm.fr j hlt
      generalize hk : l[j] = o at hc1 hc2
      obtain ⟨kind, k⟩ := o
      simp only at hc1 hc2
      have HB := hid (hm.box (.cells #[.int .i64 kind, .int .i64 k] 32))
      clear hm hk
      by_cases k2 : kind = 2
      · subst k2
        have HC := hid (m_takeAt HB.out k)
        have HS := hid ((taS_length has k).trans HH.out)
        generalize taS has k = has' at *
        clear HB HH HL HM HI
        go_wp2_with fail
        clear hc1 hc2 hbb
        refine HC.out.mono ?_
        rintro e w3 ⟨rfl, h3⟩
        have H3 := hid h3
        clear h3 HC
        go_wp2
        go_roundw
        case rel => exact ⟨j + 1, has', by omega, by go_num, HS.out, H3.out⟩
        case measure => simp [intOf]; omega
      · have b2 : (kind == 2) = false := by simpa using k2
        have HC := hid (m_give HB.out k)
        have HS := hid ((giS_length has k).trans HH.out)
        generalize giS has k = has' at *
        clear HB HH HL HM HI
        go_wp2_with fail
        clear hc1 hc2 hbb
        refine HC.out.mono ?_
        rintro e w3 ⟨rfl, h3⟩
        have H3 := hid h3
        clear h3 HC
        go_wp2
        go_roundw
        case rel => exact ⟨j + 1, has', by omega, by go_num, HS.out, H3.out⟩
        case measure => simp [intOf]; omega
    · obtain rfl : j = l.length := by omega
      have HC := hid (m_copy hm)
      clear hm HL
      go_wp2_with fail
      refine HC.out.mono ?_
      rintro e w3 ⟨a2, b2, rfl, h3⟩
      have H3 := hid (Three.start h3)
      clear h3 HC
      go_wp2
      go_loopw [12, 14, 61] (fun v _ i wr => ∃ j : Nat, j ≤ more.length ∧ i = .int .i64 j ∧ Three w wr w3.heap.size a b (takeAll has (more.take j)).2 a2 b2 has v (takeAll has (more.take j)).1) (fun _ _ i _ => more.length - (intOf i).toNat)
      case atStart => exact ⟨0, by omega, rfl, H3.out⟩
      case round =>
        obtain ⟨j, hj, rfl, h4⟩ := hrel
        clear H3
        by_cases hlt2 : j < more.length
        · obtain ⟨bb, off, rfl, hbb, hc1⟩ := HM.out.fr h4.fr j hlt2
          have HS := hid (takeAll_snoc has (more.take j) more[j])
          have htk : more.take (j + 1) = more.take j ++ [more[j]] := by rw [List.take_add_one, List.getElem?_eq_getElem hlt2]; rfl
          rw [← htk] at HS
          have hkl := takeAll_le (more.take j) has
          simp only [List.length_take] at hkl
          generalize more[j] = k at *
          have HR := hid (r_takeAt h4 k)
          clear h4 htk
          generalize takeAll has (more.take j) = tj at *
          obtain ⟨ks, hs⟩ := tj
          simp only at HS HR hkl
          by_cases hok : taE hs k = 0
          · rw [hok] at HR
            rw [if_pos hok] at HS
            go_wp2_with fail
            clear hc1 hbb
            refine HR.out.mono ?_
            rintro e w5 ⟨rfl, h5⟩
            have H5 := hid h5
            have hw5 := h5.lw
            clear h5 HR
            go_wp2_with (at_builtin; refine wpList_append_sep rfl (.tmp 69) (.tmp 71) 41 rfl w3.heap.size 3 i0 (.int .i64 0) 1 8 Tryd.underlying41 HI.out.1 HI.out.2.1 HI.out.2.2.1 HI.out.2.2.2 rfl (by decide) _ _ _ rfl (H5.out.row.alloc _) ⟨w5.heap.size, 0, none⟩ 1 1 (by decide) [.int .i64 k] rfl rfl ?c1 ?c2 ?c3 ?c4 ?c5 ?_)
            case c1 =>
              intro j u hj
              match j, hj with
              | 0, hj => simp at hj; subst hj; simp [Addr.add]
            case c2 => intro u hu; simp at hu; subst hu; rfl
            case c3 => unfold maxLen; omega
            case c4 => omega
            case c5 => simp; omega
            · intro g cap' w6 hown hgrow hsep
              have H6 := hid (H5.out.grown _ hown hgrow)
              clear hown hgrow hsep H5
              go_wp2
              go_roundw
              case rel => exact ⟨j + 1, by omega, by go_num, by rw [HS.out]; exact H6.out⟩
              case measure => simp [intOf]; omega
          · have hb : (taE hs k == 0) = false := by simpa using hok
            rw [if_neg hok] at HS
            have hsame : taS hs k = hs := by
              unfold taE at hok
              unfold taS
              cases hN : hasN hs k with
              | false => rfl
              | true =>
                rw [hN] at hok
                cases hI : isT hs k with
                | false => rw [hI] at hok; simp at hok
                | true => have := taS_taken hs k hI; unfold taS at this; rw [hN] at this; exact this
            rw [hsame] at HR
            clear hok hsame
            generalize taE hs k = er at *
            go_wp2_with fail
            clear hc1 hbb
            refine HR.out.mono ?_
            rintro e w5 ⟨rfl, h5⟩
            have H5 := hid h5
            clear h5 HR
            go_wp2
            go_roundw
            case rel => exact ⟨j + 1, by omega, by go_num, by rw [HS.out]; exact H5.out⟩
            case measure => simp [intOf]; omega
        · obtain rfl : j = more.length := by omega
          rw [List.take_length] at h4
          obtain ⟨ad3, cap3, rfl⟩ := h4.shape
          have hkl := takeAll_le more has
          obtain ⟨g1, g2⟩ := back_again has more
          have HG1 := hid g1
          have HG2 := hid g2
          have H4 := hid h4
          clear g1 g2 h4 HM HI
          generalize takeAll has more = tj at *
          obtain ⟨ks, hs⟩ := tj
          simp only at HG1 HG2 H4 hkl ⊢
          go_wp2
          go_loopw [16, 76] (fun _ i wr => ∃ j : Nat, j ≤ ks.length ∧ i = .int .i64 j ∧ Three w wr w3.heap.size a b (giveAll hs (ks.take j)) a2 b2 has (.slice ad3 ks.length cap3) ks) (fun _ i _ => ks.length - (intOf i).toNat)
          case atStart => exact ⟨0, by omega, rfl, H4.out⟩
          case round =>
            obtain ⟨j, hj, rfl, h5⟩ := hrel
            clear H4
            by_cases hlt3 : j < ks.length
            · obtain ⟨g, rfl, hc⟩ := h5.at' j hlt3
              have HR := hid (r_give h5 ks[j])
              rw [HG2.out j hlt3] at HR
              have HS := hid (giveAll_snoc (ks.take j) hs ks[j])
              have htk : ks.take (j + 1) = ks.take j ++ [ks[j]] := by rw [List.take_add_one, List.getElem?_eq_getElem hlt3]; rfl
              rw [← htk] at HS
              clear htk h5
              generalize ks[j] = k at *
              go_wp2_with fail
              clear hc
              refine HR.out.mono ?_
              rintro e w5 ⟨rfl, h6⟩
              have H6 := hid h6
              clear h6 HR
              go_wp2
              go_roundw
              case rel => exact ⟨j + 1, by omega, by go_num, by rw [HS.out]; exact H6.out⟩
              case measure => simp [intOf]; omega
            · obtain rfl : j = ks.length := by omega
              rw [List.take_length, HG1.out] at h5
              have H5 := hid h5.two
              clear h5 HG1 HG2
              go_wp2
              go_loopw [17, 18, 19, 20, 87] (fun _ _ _ _ i wr => ∃ (j : Nat) (h : List Bool), j ≤ n + 1 ∧ i = .int .i64 j ∧ Two w wr a b h a2 b2 h) (fun _ _ _ _ i _ => n + 1 - (intOf i).toNat)
              case atStart => exact ⟨0, _, by omega, rfl, H5.out⟩
              case round =>
                obtain ⟨j, h, hj, rfl, h6⟩ := hrel
                clear H5
                by_cases hlt4 : j < n + 1
                · have HR := hid (t_take1 h6)
                  clear h6
                  go_wp2_with fail
                  refine HR.out.mono ?_
                  rintro e w6 ⟨rfl, h7⟩
                  have HR2 := hid (t_take2 h7)
                  clear h7 HR
                  go_wp2_with fail
                  refine HR2.out.mono ?_
                  rintro e w7 ⟨rfl, h8⟩
                  have H8 := hid h8
                  clear h8 HR2
                  go_wp2
                  go_roundw
                  case rel => exact ⟨j + 1, takS h, by omega, by go_num, H8.out⟩
                  case measure => simp [intOf]; omega
                · obtain rfl : j = n + 1 := by omega
                  have HA := hid (awake_any wr h6.one.sh.tab)
                  have H6 := hid h6.one.fr
                  clear h6
                  go_wp2_with fail
                  refine HA.out.mono ?_
                  rintro e w8 ⟨rfl, f8⟩
                  have H8 : Hid (Fr (fun _ => False) w w8) := H6.out.trans f8
                  clear f8 HA
                  go_wp2
                  go_ret
                  exact ⟨by simp, H8.out⟩
theorem back_all (x : Int) (v v2 : Value) (w : World) (h : ∃ ad cap l, v = .slice ad (List.length l) cap ∧ OpsAt w ad l ∧ l.length ≤ maxLen) (h2 : ∃ ad cap l, v2 = .slice ad (List.length l) cap ∧ NumsAt w ad l ∧ l.length ≤ maxLen) (hT : Tab w) :
    Calls Tryd.prog 5 #[.int .i64 x, v, v2] w fun e w' => e = .returned (.bool true) ∧ Fr (fun _ => False) w w' := by
  obtain ⟨ad, cap, l, rfl, g1, g2⟩ := h
  obtain ⟨ad2, cap2, l2, rfl, g3, g4⟩ := h2
  exact back_walk x ad l cap ad2 l2 cap2 w g1 g2 g3 g4 hT
end Go.Proofs.YtifoeakgefgddaaDoor
