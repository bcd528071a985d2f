/-
  Who is granted colours gets the lowest that nobody has; who is shrunk keeps the lowest of its own: the walk of the law PoolLow.
-/
import Derived.Test.YthamfljooapkoaaDoorPoDone
import Derived.Test.YthamfljooapkoaaDoorPoOpen
import Derived.Test.YthamfljooapkoaaDoorPoMath
namespace Go.Proofs.YthamfljooapkoaaDoor
open Go.RowKit

/-- 'int(uint(owner) % 8)'. -/
def own8 (o : Int) : Int := o % 8
theorem own8_ow (o : Int) : Ow (own8 o) := by unfold Ow own8; omega
theorem own8_run (o : Int) : IntKind.i64.wrap (Int.tmod (IntKind.u64.wrap o) 8) = own8 o := by
  have h0 : 0 ≤ IntKind.u64.wrap o ∧ IntKind.u64.wrap o % 8 = o % 8 ∧ IntKind.u64.wrap o ≤ 18446744073709551615 := by
    rw [IntKind.wrap_u64]; omega
  rw [Int.tmod_eq_emod_of_nonneg h0.1, h0.2.1, IntKind.wrap_i64]
  unfold own8
  omega
set_option maxRecDepth 20000 in
set_option maxHeartbeats 1000000 in
theorem low_bad {n : Int} (h : ¬ (1 ≤ n ∧ n ≤ 32)) (v : Value) (o k : Int) (w : World) (g : Gr w) : Calls Tryd.prog 6 #[.int .i64 n, v, .int .i64 o, .int .i64 k] w fun e w' => e = .returned (.bool true) ∧ Fr (fun _ => False) w w' := by
  have H1 := hid fun w => p_new_no h w
  have HA := hid fun w0 (f : Fr (fun _ => False) w w0) => awake_f w0 (g.fr f)
  clear g h
  go_enter Tryd.func6, Tryd.ntmps6
  go_wp2_with fail
  refine (H1.out _).mono ?_
  rintro e w1 ⟨rfl, f⟩
  have HF1 := hid f
  clear f
  go_wp2_with fail
  refine (HA.out _ HF1.out).mono ?_
  rintro e w2 ⟨rfl, f⟩
  have HF2 := hid (HF1.out.trans f)
  clear f HF1
  go_wp2_with fail
  refine (HA.out _ HF2.out).mono ?_
  rintro e w3 ⟨rfl, f⟩
  have HF3 := hid (HF2.out.trans f)
  clear f HF2
  go_wp2
  go_ret
  exact ⟨by simp, HF3.out⟩
set_option maxRecDepth 20000 in
set_option maxHeartbeats 4000000 in
theorem low_yes {n : Nat} (h1 : 1 ≤ n) (h2 : n ≤ 32) (ad : Option Addr) (l : List (Int × Int × Int)) (cap : Nat) (hlen : l.length ≤ maxLen) (o0 k : Int) (w : World) (hops : OpsAt w ad l) (g : Gr w) : Calls Tryd.prog 6 #[.int .i64 (n : Int), .slice ad l.length cap, .int .i64 o0, .int .i64 k] w fun e w' => e = .returned (.bool true) ∧ Fr (fun _ => False) w w' := by
  have H1 := hid (n_new h1 h2 (Nw.start w) g)
  have HA := hid fun w0 (f : Fr (fun _ => False) w w0) => awake_f w0 (g.fr f)
  have HOP := hid hops
  have hl : l.length ≤ 9223372036854775807 := by simp only [maxLen] at hlen; omega
  have HOW := hid (own8_ow o0)
  have h8 := own8_run o0
  clear g h1 hlen hops
  generalize own8 o0 = o at *
  go_enter Tryd.func6, Tryd.ntmps6
  go_wp2_with fail
  refine H1.out.mono ?_
  rintro e w1 ⟨a, Z, rfl, _, hm, _⟩
  have HM1 := hid hm
  clear hm H1
  go_wp2_with fail
  refine (HA.out _ HM1.out.nw.fr).mono ?_
  rintro e w3 ⟨rfl, f3⟩
  have HM3 := hid (HM1.out.kept f3)
  clear f3 HM1
  by_cases hm : 300 < l.length
  · go_wp2_with fail
    refine (HA.out _ HM3.out.nw.fr).mono ?_
    rintro e w4 ⟨rfl, f4⟩
    have HM4 := hid (HM3.out.kept f4)
    clear f4 HM3
    go_wp2
    go_ret
    exact ⟨by simp, HM4.out.nw.fr⟩
  clear HA h8
  generalize List.replicate n (-1) = own0 at *
  go_wp2
  go_loopw [41] (fun i wr => ∃ (j : Nat) (Z : Nat → Prop) (own : List Int), j ≤ l.length ∧ i = .int .i64 j ∧ Hid (Pn w wr a Z own)) (fun i _ => l.length - (intOf i).toNat)
  case atStart => exact ⟨0, Z, own0, by omega, rfl, HM3⟩
  case round =>
    clear HM3
    obtain ⟨j, Z, own, hj, rfl, HM0⟩ := hrel
    by_cases hlt : j < l.length
    · obtain ⟨bb, off, rfl, hbb, hc1, hc2, hc3⟩ := HOP.out.fr HM0.out.nw.fr j hlt
      generalize l[j] = op at *
      obtain ⟨kind, ow, kk⟩ := op
      simp only at hc1 hc2 hc3
      have HM := hid (HM0.out.alloc (.cells #[.int .i64 kind, .int .i64 ow, .int .i64 kk] 32))
      have HX := hid (Bx.new wr kind ow kk)
      have x0 := HX.out.c0
      have x1 := HX.out.c1
      have x2 := HX.out.c2
      clear HM0 HOP
      by_cases hk1 : kind = 1
      · subst hk1
        have HC := hid (n_grant HM.out ow kk)
        go_wp2_with fail
        refine HC.out.mono ?_
        rintro e w4 ⟨Z4, ⟨gad, gcap, rfl, _, _⟩, hm4, _, _⟩
        have HM4 := hid hm4
        clear hm4 HC HM HX x0 x1 x2 hc1 hc2 hc3 hbb
        go_wp2
        go_roundw
        case rel => exact ⟨j + 1, Z4, _, by omega, by go_num, HM4⟩
        case measure => simp [intOf]; omega
      · have HC := hid (n_shrink HM.out ow kk)
        go_wp2_with fail
        refine HC.out.mono ?_
        rintro e w4 ⟨Z4, ⟨gad, gcap, rfl, _, _⟩, hm4, _, _⟩
        have HM4 := hid hm4
        clear hm4 HC HM HX x0 x1 x2 hc1 hc2 hc3 hbb
        go_wp2
        go_roundw
        case rel => exact ⟨j + 1, Z4, _, by omega, by go_num, HM4⟩
        case measure => simp [intOf]; omega
    · obtain rfl : j = l.length := by omega
      clear hlt hj HOP
      have HG := hid (n_grant HM0.out o k)
      have HLO : Hid (∀ (m : Nat) (hm : m < (grL own o k).length) (c : Nat), c < (grL own o k)[m] → owI (grS own o k) c ≠ -1) := fun m hm c hc => low_granted HOW.out hm hc
      have HL32 : Hid ((grL own o k).length ≤ 32) := by have h1 := grL_le own o k; have h2 := HM0.out.m.own.most; show _ ≤ _; omega
      have HLB : Hid (∀ (m : Nat) (hm : m < (grL own o k).length), (grL own o k)[m] < 32) := fun m hm => by
        have h2 := HM0.out.m.own.most
        have h3 : (grL own o k)[m] ∈ wN own (-1) := by
          have h4 := List.getElem_mem hm
          have h5 : ∀ x ∈ grL own o k, x ∈ wN own (-1) := fun x hx => by
            unfold grL at hx
            split at hx
            · exact List.mem_of_mem_take hx
            · simp at hx
          exact h5 _ h4
        have := wN_lt h3
        omega
      have hge := grE_cases own o k
      generalize grS own o k = own1 at *
      generalize grL own o k = L at *
      generalize grE own o k = E at *
      go_wp2_with fail
      refine HG.out.mono ?_
      rintro e w2 ⟨Z2, ⟨gad, gcap, rfl, hk, _⟩, hm2, hz2, f2⟩
      have HM2 := hid hm2
      have HK := hid hk.at_
      clear hk hm2 hz2 f2 HG HM0
      by_cases hgo : E = 0 ∧ 0 < L.length
      · obtain ⟨rfl, hL0⟩ := hgo
        have hnL : (nI L).length = L.length := nI_length L
        obtain ⟨lb, lo, rfl, _, hcl⟩ := HK.out (L.length - 1) (by rw [nI_length]; omega)
        rw [nI_get] at hcl
        have HLOm := hid (HLO.out (L.length - 1) (by omega))
        have hlb := HLB.out (L.length - 1) (by omega)
        have hl32 := HL32.out
        generalize L[L.length - 1]'(by omega) = last at *
        have hi1 : ((L.length : Nat) : Int) - 1 = ((L.length - 1 : Nat) : Int) := by omega
        have hi2 : IntKind.i64.wrap ((L.length - 1 : Nat) : Int) = ((L.length - 1 : Nat) : Int) := by rw [IntKind.wrap_i64]; omega
        have hi3 : L.length - 1 < L.length := by omega
        clear HLO HLB HL32 hge HK
        go_wp2
        go_loopw [81] (fun i wr => ∃ (q : Nat), q ≤ last ∧ i = .int .i64 q ∧ Hid (Pn w wr a Z2 own1)) (fun i _ => last - (intOf i).toNat)
        case atStart => exact ⟨0, by omega, rfl, HM2⟩
        case round =>
          clear HM2
          obtain ⟨q, hq, rfl, HM2⟩ := hrel
          by_cases hql : q < last
          · have hne := HLOm.out q hql
            have HOWN := hid (p_owner HM2.out.m (q : Int))
            generalize owI own1 (q : Int) = ov at *
            go_wp2_with fail
            refine HOWN.out.mono ?_
            rintro e w5 ⟨rfl, f5⟩
            have HM5 := hid (HM2.out.kept f5)
            clear f5 HM2 HOWN
            go_wp2
            go_roundw
            case rel => exact ⟨q + 1, by omega, by go_num, HM5⟩
            case measure => simp [intOf]; omega
          · obtain rfl : q = last := by omega
            have HMx := HM2
            clear HM2 hcl
            have HWI := hid (p_window HMx.out.m o)
            have HNI : Hid (wiL own1 o = wN own1 o) := by show _ = _; unfold wiL; exact if_pos HOW.out
            rw [HNI.out] at HWI
            have hn32 : (wN own1 o).length ≤ 32 := by have h1 := wN_le own1 o; have h2 := HMx.out.m.own.most; omega
            go_wp2_with fail
            refine HWI.out.mono ?_
            rintro e wa ⟨⟨wad, wcap, rfl, hk, _, hwc⟩, fa⟩
            have HMa := hid (HMx.out.kept fa)
            have HKa := hid hk
            clear hk fa HWI HMx HNI
            have hnl : (nI (wN own1 o)).length = (wN own1 o).length := nI_length _
            have HSH := hid (n_shrink HMa.out o k)
            by_cases hok : 0 ≤ k ∧ k ≤ (wN own1 o).length
            · obtain ⟨hk0, hk1⟩ := hok
              obtain ⟨k, rfl⟩ : ∃ m : Nat, k = (m : Int) := ⟨k.toNat, by omega⟩
              have e1 : shE own1 o k = 0 := by unfold shE; rw [if_pos ⟨⟨HOW.out, hk0⟩, hk1⟩]
              have e2 : shL own1 o k = (wN own1 o).drop k := by unfold shL; rw [if_pos ⟨⟨HOW.out, hk0⟩, hk1⟩]; rfl
              rw [e1, e2] at HSH
              have HKL : Hid (wN (shS own1 o k) o = (wN own1 o).take k) := kept_low HOW.out (by omega)
              have HNI2 : Hid (wiL (shS own1 o k) o = wN (shS own1 o k) o) := by show _ = _; unfold wiL; exact if_pos HOW.out
              clear e1 e2
              generalize hW : wN own1 o = W at *
              clear hW
              generalize shS own1 o k = own2 at *
              go_wp2_with fail
              refine HSH.out.mono ?_
              rintro e wb ⟨Z3, ⟨sad, scap, rfl, hk3, _⟩, hm3, hz3, f3⟩
              have HMb := hid hm3
              have HKb := hid (HKa.out.on f3 hz3).at_
              have HKs := hid hk3.at_
              clear hk3 hm3 hz3 f3 HSH HMa HKa
              have hlW : W.length ≤ wcap := by rw [← hnl]; exact hwc
              clear hwc
              obtain ⟨had, hh1, hh2⟩ := run_head wad W.length wcap k (by omega)
              obtain ⟨tad, tcap, ht1, ht2⟩ := run_tail wad W.length wcap k (by omega) hlW
              have HH2 := hid hh2
              have HT2 := hid ht2
              clear hh2 ht2
              have HWI2 := hid fun w0 (h : Pn w w0 a Z3 own2) => p_window h.m o
              rw [HNI2.out, HKL.out] at HWI2
              have e3 : nI (W.take k) = (nI W).take k := by simp [nI, List.map_take]
              have e4 : nI (W.drop k) = (nI W).drop k := by simp [nI, List.map_drop]
              have HNL := hid hnl
              rw [e3] at HWI2
              have hs3 : Hid (((nI W).take k).length = k) := by show _ = _; rw [List.length_take]; omega
              have hs4 : (nI (W.drop k)).length = W.length - k := by rw [e4, List.length_drop, HNL.out]
              rw [e4] at HKs
              have hs5 : Hid (((nI W).drop k).length = W.length - k) := by show _ = _; rw [List.length_drop, HNL.out]
              have hs6 : Hid (((nI W).take k).length ≤ 1000 ∧ ((nI W).drop k).length ≤ 1000) := ⟨by rw [hs3.out]; omega, by rw [hs5.out]; omega⟩
              have HSA1 : Hid (∀ w0 ad1 c1, NumsAt w0 ad1 ((nI W).take k) → NumsAt w0 wad (nI W) → Calls Tryd.prog 17 #[.slice ad1 k c1, .slice had k wcap] w0 fun e w' => e = .returned (.bool true) ∧ Fr (fun _ => False) w0 w') := fun w0 ad1 c1 h1 h2 => by
                have := same_yes c1 wcap h1 (HH2.out w0 _ h2) hs6.out.1
                rwa [hs3.out] at this
              have HSA2 : Hid (∀ w0, NumsAt w0 sad ((nI W).drop k) → NumsAt w0 wad (nI W) → Calls Tryd.prog 17 #[.slice sad (W.length - k) scap, .slice tad (W.length - k) tcap] w0 fun e w' => e = .returned (.bool true) ∧ Fr (fun _ => False) w0 w') := fun w0 h1 h2 => by
                have := same_yes scap tcap h1 (HT2.out w0 _ HNL.out h2) hs6.out.2
                rwa [hs5.out] at this
              have HWI3 : Hid (∀ w0, Pn w w0 a Z3 own2 → Calls Tryd.prog 18 #[.pointer (some ⟨a, 0, none⟩), .int .i64 o] w0 fun e w' => (∃ ad cap, e = .returned (.slice ad k cap) ∧ NumsAt w' ad ((nI W).take k)) ∧ Fr (fun _ => False) w0 w') := fun w0 h => (HWI2.out w0 h).mono fun _ _ ⟨⟨ad, cap, he, hk, _, _⟩, f⟩ => ⟨⟨ad, cap, by rw [he, hs3.out], hk.at_⟩, f⟩
              clear HWI2 hs3 e3 e4 HH2 HT2 HNI2 HKL
              rw [hs4]
              clear hs4
              have hsub : (W.length : Int) - (k : Int) = ((W.length - k : Nat) : Int) := by omega
              have hwr : IntKind.i64.wrap ((W.length - k : Nat) : Int) = ((W.length - k : Nat) : Int) := by rw [IntKind.wrap_i64]; omega
              go_wp2
              go_region_held (fun _ => True) (go_keep) (first | (go_at_call 18; refine (HWI3.out _ (HMb.out.kept (Fr.refl _ _).drew)).mono ?_; rintro e wc ⟨⟨vad, vcap, rfl, hv⟩, fc⟩; have HMc := hid ((HMb.out.kept (Fr.refl _ _).drew).kept fc); have HVc := hid hv; have HKc := hid ((HKb.out.fr (Fr.refl _ _).drew).fr fc); have HSc := hid ((HKs.out.fr (Fr.refl _ _).drew).fr fc); clear hv fc) | (go_at_call 17; refine (HSA1.out _ _ _ HVc.out HKc.out).mono ?_; rintro e wd ⟨rfl, fd⟩; have HMd := hid (HMc.out.kept fd); have HKd := hid (HKc.out.fr fd); have HSd := hid (HSc.out.fr fd); clear fd HVc) | (go_at_call 17; refine (HSA2.out _ HSd.out HKd.out).mono ?_; rintro e we ⟨rfl, fe⟩; have HMe := hid (HMd.out.kept fe); clear fe))
              go_wp2
              go_ret
              exact ⟨by simp, HMe.out.nw.fr⟩
            · have e1 : shE own1 o k = 12 := by unfold shE; rw [if_neg (fun e => hok ⟨e.1.2, e.2⟩)]
              rw [e1] at HSH
              clear hok e1
              go_wp2_with fail
              refine HSH.out.mono ?_
              rintro e wb ⟨Z3, ⟨sad, scap, rfl, _, _⟩, hm3, _, _⟩
              have HMb := hid hm3
              clear hm3 HSH HMa HKa
              go_wp2
              go_quiet (fail)
              go_wp2
              go_ret
              exact ⟨by simp, (HMb.out.nw.fr.drewN _)⟩
      · have HMx := HM2
        clear HM2 HLO HLB HL32 HK
        by_cases hE : E = 0
        · subst hE
          have hL0 : L.length = 0 := by omega
          obtain rfl : L = [] := List.eq_nil_of_length_eq_zero hL0
          have hnL : (nI []).length = 0 := rfl
          clear hge hgo
          have HWI := hid (p_window HMx.out.m o)
          have HNI : Hid (wiL own1 o = wN own1 o) := by show _ = _; unfold wiL; exact if_pos HOW.out
          rw [HNI.out] at HWI
          have hn32 : (wN own1 o).length ≤ 32 := by have h1 := wN_le own1 o; have h2 := HMx.out.m.own.most; omega
          go_wp2_with fail
          refine HWI.out.mono ?_
          rintro e wa ⟨⟨wad, wcap, rfl, hk, _, hwc⟩, fa⟩
          have HMa := hid (HMx.out.kept fa)
          have HKa := hid hk
          clear hk fa HWI HMx HNI
          have hnl : (nI (wN own1 o)).length = (wN own1 o).length := nI_length _
          have HSH := hid (n_shrink HMa.out o k)
          by_cases hok : 0 ≤ k ∧ k ≤ (wN own1 o).length
          · obtain ⟨hk0, hk1⟩ := hok
            obtain ⟨k, rfl⟩ : ∃ m : Nat, k = (m : Int) := ⟨k.toNat, by omega⟩
            have e1 : shE own1 o k = 0 := by unfold shE; rw [if_pos ⟨⟨HOW.out, hk0⟩, hk1⟩]
            have e2 : shL own1 o k = (wN own1 o).drop k := by unfold shL; rw [if_pos ⟨⟨HOW.out, hk0⟩, hk1⟩]; rfl
            rw [e1, e2] at HSH
            have HKL : Hid (wN (shS own1 o k) o = (wN own1 o).take k) := kept_low HOW.out (by omega)
            have HNI2 : Hid (wiL (shS own1 o k) o = wN (shS own1 o k) o) := by show _ = _; unfold wiL; exact if_pos HOW.out
            clear e1 e2
            generalize hW : wN own1 o = W at *
            clear hW
            generalize shS own1 o k = own2 at *
            go_wp2_with fail
            refine HSH.out.mono ?_
            rintro e wb ⟨Z3, ⟨sad, scap, rfl, hk3, _⟩, hm3, hz3, f3⟩
            have HMb := hid hm3
            have HKb := hid (HKa.out.on f3 hz3).at_
            have HKs := hid hk3.at_
            clear hk3 hm3 hz3 f3 HSH HMa HKa
            have hlW : W.length ≤ wcap := by rw [← hnl]; exact hwc
            clear hwc
            obtain ⟨had, hh1, hh2⟩ := run_head wad W.length wcap k (by omega)
            obtain ⟨tad, tcap, ht1, ht2⟩ := run_tail wad W.length wcap k (by omega) hlW
            have HH2 := hid hh2
            have HT2 := hid ht2
            clear hh2 ht2
            have HWI2 := hid fun w0 (h : Pn w w0 a Z3 own2) => p_window h.m o
            rw [HNI2.out, HKL.out] at HWI2
            have e3 : nI (W.take k) = (nI W).take k := by simp [nI, List.map_take]
            have e4 : nI (W.drop k) = (nI W).drop k := by simp [nI, List.map_drop]
            have HNL := hid hnl
            rw [e3] at HWI2
            have hs3 : Hid (((nI W).take k).length = k) := by show _ = _; rw [List.length_take]; omega
            have hs4 : (nI (W.drop k)).length = W.length - k := by rw [e4, List.length_drop, HNL.out]
            rw [e4] at HKs
            have hs5 : Hid (((nI W).drop k).length = W.length - k) := by show _ = _; rw [List.length_drop, HNL.out]
            have hs6 : Hid (((nI W).take k).length ≤ 1000 ∧ ((nI W).drop k).length ≤ 1000) := ⟨by rw [hs3.out]; omega, by rw [hs5.out]; omega⟩
            have HSA1 : Hid (∀ w0 ad1 c1, NumsAt w0 ad1 ((nI W).take k) → NumsAt w0 wad (nI W) → Calls Tryd.prog 17 #[.slice ad1 k c1, .slice had k wcap] w0 fun e w' => e = .returned (.bool true) ∧ Fr (fun _ => False) w0 w') := fun w0 ad1 c1 h1 h2 => by
              have := same_yes c1 wcap h1 (HH2.out w0 _ h2) hs6.out.1
              rwa [hs3.out] at this
            have HSA2 : Hid (∀ w0, NumsAt w0 sad ((nI W).drop k) → NumsAt w0 wad (nI W) → Calls Tryd.prog 17 #[.slice sad (W.length - k) scap, .slice tad (W.length - k) tcap] w0 fun e w' => e = .returned (.bool true) ∧ Fr (fun _ => False) w0 w') := fun w0 h1 h2 => by
              have := same_yes scap tcap h1 (HT2.out w0 _ HNL.out h2) hs6.out.2
              rwa [hs5.out] at this
            have HWI3 : Hid (∀ w0, Pn w w0 a Z3 own2 → Calls Tryd.prog 18 #[.pointer (some ⟨a, 0, none⟩), .int .i64 o] w0 fun e w' => (∃ ad cap, e = .returned (.slice ad k cap) ∧ NumsAt w' ad ((nI W).take k)) ∧ Fr (fun _ => False) w0 w') := fun w0 h => (HWI2.out w0 h).mono fun _ _ ⟨⟨ad, cap, he, hk, _, _⟩, f⟩ => ⟨⟨ad, cap, by rw [he, hs3.out], hk.at_⟩, f⟩
            clear HWI2 hs3 e3 e4 HH2 HT2 HNI2 HKL
            rw [hs4]
            clear hs4
            have hsub : (W.length : Int) - (k : Int) = ((W.length - k : Nat) : Int) := by omega
            have hwr : IntKind.i64.wrap ((W.length - k : Nat) : Int) = ((W.length - k : Nat) : Int) := by rw [IntKind.wrap_i64]; omega
            go_wp2
            go_region_held (fun _ => True) (go_keep) (first | (go_at_call 18; refine (HWI3.out _ (HMb.out.kept (Fr.refl _ _).drew)).mono ?_; rintro e wc ⟨⟨vad, vcap, rfl, hv⟩, fc⟩; have HMc := hid ((HMb.out.kept (Fr.refl _ _).drew).kept fc); have HVc := hid hv; have HKc := hid ((HKb.out.fr (Fr.refl _ _).drew).fr fc); have HSc := hid ((HKs.out.fr (Fr.refl _ _).drew).fr fc); clear hv fc) | (go_at_call 17; refine (HSA1.out _ _ _ HVc.out HKc.out).mono ?_; rintro e wd ⟨rfl, fd⟩; have HMd := hid (HMc.out.kept fd); have HKd := hid (HKc.out.fr fd); have HSd := hid (HSc.out.fr fd); clear fd HVc) | (go_at_call 17; refine (HSA2.out _ HSd.out HKd.out).mono ?_; rintro e we ⟨rfl, fe⟩; have HMe := hid (HMd.out.kept fe); clear fe))
            go_wp2
            go_ret
            exact ⟨by simp, HMe.out.nw.fr⟩
          · have e1 : shE own1 o k = 12 := by unfold shE; rw [if_neg (fun e => hok ⟨e.1.2, e.2⟩)]
            rw [e1] at HSH
            clear hok e1
            go_wp2_with fail
            refine HSH.out.mono ?_
            rintro e wb ⟨Z3, ⟨sad, scap, rfl, _, _⟩, hm3, _, _⟩
            have HMb := hid hm3
            clear hm3 HSH HMa HKa
            go_wp2
            go_quiet (fail)
            go_wp2
            go_ret
            exact ⟨by simp, (HMb.out.nw.fr.drewN _)⟩
        · clear hgo
          have HWI := hid (p_window HMx.out.m o)
          have HNI : Hid (wiL own1 o = wN own1 o) := by show _ = _; unfold wiL; exact if_pos HOW.out
          rw [HNI.out] at HWI
          have hn32 : (wN own1 o).length ≤ 32 := by have h1 := wN_le own1 o; have h2 := HMx.out.m.own.most; omega
          go_wp2_with fail
          refine HWI.out.mono ?_
          rintro e wa ⟨⟨wad, wcap, rfl, hk, _, hwc⟩, fa⟩
          have HMa := hid (HMx.out.kept fa)
          have HKa := hid hk
          clear hk fa HWI HMx HNI
          have hnl : (nI (wN own1 o)).length = (wN own1 o).length := nI_length _
          have HSH := hid (n_shrink HMa.out o k)
          by_cases hok : 0 ≤ k ∧ k ≤ (wN own1 o).length
          · obtain ⟨hk0, hk1⟩ := hok
            obtain ⟨k, rfl⟩ : ∃ m : Nat, k = (m : Int) := ⟨k.toNat, by omega⟩
            have e1 : shE own1 o k = 0 := by unfold shE; rw [if_pos ⟨⟨HOW.out, hk0⟩, hk1⟩]
            have e2 : shL own1 o k = (wN own1 o).drop k := by unfold shL; rw [if_pos ⟨⟨HOW.out, hk0⟩, hk1⟩]; rfl
            rw [e1, e2] at HSH
            have HKL : Hid (wN (shS own1 o k) o = (wN own1 o).take k) := kept_low HOW.out (by omega)
            have HNI2 : Hid (wiL (shS own1 o k) o = wN (shS own1 o k) o) := by show _ = _; unfold wiL; exact if_pos HOW.out
            clear e1 e2
            generalize hW : wN own1 o = W at *
            clear hW
            generalize shS own1 o k = own2 at *
            go_wp2_with fail
            refine HSH.out.mono ?_
            rintro e wb ⟨Z3, ⟨sad, scap, rfl, hk3, _⟩, hm3, hz3, f3⟩
            have HMb := hid hm3
            have HKb := hid (HKa.out.on f3 hz3).at_
            have HKs := hid hk3.at_
            clear hk3 hm3 hz3 f3 HSH HMa HKa
            have hlW : W.length ≤ wcap := by rw [← hnl]; exact hwc
            clear hwc
            obtain ⟨had, hh1, hh2⟩ := run_head wad W.length wcap k (by omega)
            obtain ⟨tad, tcap, ht1, ht2⟩ := run_tail wad W.length wcap k (by omega) hlW
            have HH2 := hid hh2
            have HT2 := hid ht2
            clear hh2 ht2
            have HWI2 := hid fun w0 (h : Pn w w0 a Z3 own2) => p_window h.m o
            rw [HNI2.out, HKL.out] at HWI2
            have e3 : nI (W.take k) = (nI W).take k := by simp [nI, List.map_take]
            have e4 : nI (W.drop k) = (nI W).drop k := by simp [nI, List.map_drop]
            have HNL := hid hnl
            rw [e3] at HWI2
            have hs3 : Hid (((nI W).take k).length = k) := by show _ = _; rw [List.length_take]; omega
            have hs4 : (nI (W.drop k)).length = W.length - k := by rw [e4, List.length_drop, HNL.out]
            rw [e4] at HKs
            have hs5 : Hid (((nI W).drop k).length = W.length - k) := by show _ = _; rw [List.length_drop, HNL.out]
            have hs6 : Hid (((nI W).take k).length ≤ 1000 ∧ ((nI W).drop k).length ≤ 1000) := ⟨by rw [hs3.out]; omega, by rw [hs5.out]; omega⟩
            have HSA1 : Hid (∀ w0 ad1 c1, NumsAt w0 ad1 ((nI W).take k) → NumsAt w0 wad (nI W) → Calls Tryd.prog 17 #[.slice ad1 k c1, .slice had k wcap] w0 fun e w' => e = .returned (.bool true) ∧ Fr (fun _ => False) w0 w') := fun w0 ad1 c1 h1 h2 => by
              have := same_yes c1 wcap h1 (HH2.out w0 _ h2) hs6.out.1
              rwa [hs3.out] at this
            have HSA2 : Hid (∀ w0, NumsAt w0 sad ((nI W).drop k) → NumsAt w0 wad (nI W) → Calls Tryd.prog 17 #[.slice sad (W.length - k) scap, .slice tad (W.length - k) tcap] w0 fun e w' => e = .returned (.bool true) ∧ Fr (fun _ => False) w0 w') := fun w0 h1 h2 => by
              have := same_yes scap tcap h1 (HT2.out w0 _ HNL.out h2) hs6.out.2
              rwa [hs5.out] at this
            have HWI3 : Hid (∀ w0, Pn w w0 a Z3 own2 → Calls Tryd.prog 18 #[.pointer (some ⟨a, 0, none⟩), .int .i64 o] w0 fun e w' => (∃ ad cap, e = .returned (.slice ad k cap) ∧ NumsAt w' ad ((nI W).take k)) ∧ Fr (fun _ => False) w0 w') := fun w0 h => (HWI2.out w0 h).mono fun _ _ ⟨⟨ad, cap, he, hk, _, _⟩, f⟩ => ⟨⟨ad, cap, by rw [he, hs3.out], hk.at_⟩, f⟩
            clear HWI2 hs3 e3 e4 HH2 HT2 HNI2 HKL
            rw [hs4]
            clear hs4
            have hsub : (W.length : Int) - (k : Int) = ((W.length - k : Nat) : Int) := by omega
            have hwr : IntKind.i64.wrap ((W.length - k : Nat) : Int) = ((W.length - k : Nat) : Int) := by rw [IntKind.wrap_i64]; omega
            go_wp2
            go_region_held (fun _ => True) (go_keep) (first | (go_at_call 18; refine (HWI3.out _ (HMb.out.kept (Fr.refl _ _).drew)).mono ?_; rintro e wc ⟨⟨vad, vcap, rfl, hv⟩, fc⟩; have HMc := hid ((HMb.out.kept (Fr.refl _ _).drew).kept fc); have HVc := hid hv; have HKc := hid ((HKb.out.fr (Fr.refl _ _).drew).fr fc); have HSc := hid ((HKs.out.fr (Fr.refl _ _).drew).fr fc); clear hv fc) | (go_at_call 17; refine (HSA1.out _ _ _ HVc.out HKc.out).mono ?_; rintro e wd ⟨rfl, fd⟩; have HMd := hid (HMc.out.kept fd); have HKd := hid (HKc.out.fr fd); have HSd := hid (HSc.out.fr fd); clear fd HVc) | (go_at_call 17; refine (HSA2.out _ HSd.out HKd.out).mono ?_; rintro e we ⟨rfl, fe⟩; have HMe := hid (HMd.out.kept fe); clear fe))
            go_wp2
            go_ret
            exact ⟨by simp, HMe.out.nw.fr⟩
          · have e1 : shE own1 o k = 12 := by unfold shE; rw [if_neg (fun e => hok ⟨e.1.2, e.2⟩)]
            rw [e1] at HSH
            clear hok e1
            go_wp2_with fail
            refine HSH.out.mono ?_
            rintro e wb ⟨Z3, ⟨sad, scap, rfl, _, _⟩, hm3, _, _⟩
            have HMb := hid hm3
            clear hm3 HSH HMa HKa
            go_wp2
            go_quiet (fail)
            go_wp2
            go_ret
            exact ⟨by simp, (HMb.out.nw.fr.drewN _)⟩
theorem low_walk (n : Int) (v : Value) (o k : Int) (w : World) (g : Gr w) (h : ∃ ad cap l, v = .slice ad (List.length l) cap ∧ OpsAt w ad l ∧ l.length ≤ maxLen) : Calls Tryd.prog 6 #[.int .i64 n, v, .int .i64 o, .int .i64 k] w fun e w' => e = .returned (.bool true) ∧ Fr (fun _ => False) w w' := by
  obtain ⟨ad, cap, l, rfl, g1, g2⟩ := h
  by_cases hc : 1 ≤ n ∧ n ≤ 32
  · obtain ⟨n, rfl⟩ : ∃ m : Nat, n = (m : Int) := ⟨n.toNat, by omega⟩
    exact low_yes (by omega) (by omega) ad l cap g2 o k w g1 g
  · exact low_bad hc _ o k w g
end Go.Proofs.YthamfljooapkoaaDoor
