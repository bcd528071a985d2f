/-
  Whatever is granted and taken back: no colour is in two windows, and none is lost: the walk of the law PoolApart.
-/
import Derived.Test.YthamfljooapkoaaDoorPoDone
import Derived.Test.YthamfljooapkoaaDoorPoOpen
import Derived.Test.YthamfljooapkoaaDoorPoMath
import Derived.Test.YthamfljooapkoaaDoorSets
namespace Go.Proofs.YthamfljooapkoaaDoor
open Go.RowKit

/-- What was seen: the colours of the first q owners, and the first j of the next one's. -/
structure Seen (own : List Int) (q j : Nat) (sl : List Int) : Prop where
  len : sl.length = hadTo own q + j
  of : ∀ x ∈ sl, (∃ c : Nat, x = c ∧ 0 ≤ owI own c ∧ owI own c < q) ∨ x ∈ nI ((wN own q).take j)
theorem Seen.start (own : List Int) : Seen own 0 0 [] := ⟨rfl, fun x hx => by simp at hx⟩
theorem Seen.fresh {own : List Int} {q j : Nat} {sl : List Int} (h : Seen own q j sl) (hj : j < (wN own q).length) : (((wN own q)[j] : Nat) : Int) ∉ sl := fun hx => by
  have h1 := wN_at (List.getElem_mem hj)
  rcases h.of _ hx with ⟨c, e, h2, h3⟩ | h2
  · have : c = (wN own q)[j] := by omega
    subst this; omega
  · simp only [nI, List.mem_map] at h2
    obtain ⟨y, hy, e⟩ := h2
    obtain ⟨i, hi, rfl⟩ := List.mem_iff_getElem.1 hy
    rw [List.length_take] at hi
    rw [List.getElem_take] at e
    have := rises_lt (wN_rises own q) (i := i) (j := j) (by omega) hj (by omega)
    omega
theorem Seen.more {own : List Int} {q j : Nat} {sl : List Int} (h : Seen own q j sl) (hj : j < (wN own q).length) : Seen own q (j + 1) ((((wN own q)[j] : Nat) : Int) :: sl) :=
  ⟨by rw [List.length_cons, h.len]; omega, fun x hx => by
    rcases List.mem_cons.1 hx with rfl | hx
    · right
      rw [take_snoc hj, nI_snoc]
      simp
    · rcases h.of x hx with h1 | h1
      · exact .inl h1
      · right
        rw [take_snoc hj, nI_snoc]
        exact List.mem_append_left _ h1⟩
theorem Seen.next {own : List Int} {q : Nat} {sl : List Int} (h : Seen own q (wN own q).length sl) : Seen own (q + 1) 0 sl :=
  ⟨by rw [h.len]; rfl, fun x hx => by
    left
    rcases h.of x hx with ⟨c, e, h1, h2⟩ | h1
    · exact ⟨c, e, h1, by omega⟩
    · rw [List.take_length] at h1
      simp only [nI, List.mem_map] at h1
      obtain ⟨y, hy, e⟩ := h1
      have := wN_at hy
      exact ⟨y, e.symm, by omega, by omega⟩⟩
set_option maxRecDepth 20000 in
set_option maxHeartbeats 1000000 in
theorem apart_bad {n : Int} (h : ¬ (1 ≤ n ∧ n ≤ 32)) (v : Value) (w : World) (g : Gr w) : Calls Tryd.prog 4 #[.int .i64 n, v] w fun e w' => e = .returned (.bool true) ∧ Fr (fun _ => False) w w' := by
  have H1 := hid fun w => p_new_no h w
  have HA := hid fun w0 (f : Fr (fun _ => False) w w0) => awake_f w0 (g.fr f)
  clear g h
  go_enter Tryd.func4, Tryd.ntmps4
  go_wp2_with fail
  refine (H1.out _).mono ?_
  rintro e w1 ⟨rfl, f⟩
  have HF1 := hid f
  clear f
  go_wp2_with fail
  refine (HA.out _ HF1.out).mono ?_
  rintro e w2 ⟨rfl, f⟩
  have HF2 := hid (HF1.out.trans f)
  clear f HF1
  go_wp2_with fail
  refine (HA.out _ HF2.out).mono ?_
  rintro e w3 ⟨rfl, f⟩
  have HF3 := hid (HF2.out.trans f)
  clear f HF2
  go_wp2
  go_ret
  exact ⟨by simp, HF3.out⟩
set_option maxRecDepth 20000 in
set_option maxHeartbeats 4000000 in
theorem apart_yes {n : Nat} (h1 : 1 ≤ n) (h2 : n ≤ 32) (ad : Option Addr) (l : List (Int × Int × Int)) (cap : Nat) (hlen : l.length ≤ maxLen) (w : World) (hops : OpsAt w ad l) (g : Gr w) : Calls Tryd.prog 4 #[.int .i64 (n : Int), .slice ad l.length cap] w fun e w' => e = .returned (.bool true) ∧ Fr (fun _ => False) w w' := by
  have H1 := hid (n_new h1 h2 (Nw.start w) g)
  have HA := hid fun w0 (f : Fr (fun _ => False) w w0) => awake_f w0 (g.fr f)
  have HOP := hid hops
  have hl : l.length ≤ 9223372036854775807 := by simp only [maxLen] at hlen; omega
  clear g h1 hlen hops
  go_enter Tryd.func4, Tryd.ntmps4
  go_wp2_with fail
  refine H1.out.mono ?_
  rintro e w1 ⟨a, Z, rfl, _, hm, _⟩
  have HM1 := hid hm
  clear hm H1
  go_wp2_with fail
  refine (HA.out _ HM1.out.nw.fr).mono ?_
  rintro e w3 ⟨rfl, f3⟩
  have HM3 := hid (HM1.out.kept f3)
  clear f3 HM1
  by_cases hm : 1000 < l.length
  · go_wp2_with fail
    refine (HA.out _ HM3.out.nw.fr).mono ?_
    rintro e w4 ⟨rfl, f4⟩
    have HM4 := hid (HM3.out.kept f4)
    clear f4 HM3
    go_wp2
    go_ret
    exact ⟨by simp, HM4.out.nw.fr⟩
  clear HA
  have HLN : Hid ((List.replicate n (-1 : Int)).length = n) := List.length_replicate
  generalize List.replicate n (-1) = own0 at *
  go_wp2
  go_loopw [33] (fun i wr => ∃ (j : Nat) (Z : Nat → Prop) (own : List Int), j ≤ l.length ∧ i = .int .i64 j ∧ Hid (own.length = n) ∧ Hid (Pn w wr a Z own)) (fun i _ => l.length - (intOf i).toNat)
  case atStart => exact ⟨0, Z, own0, by omega, rfl, HLN, HM3⟩
  case round =>
    clear HM3 HLN
    obtain ⟨j, Z, own0, hj, rfl, HLN0, HM0⟩ := hrel
    by_cases hlt : j < l.length
    · obtain ⟨bb, off, rfl, hbb, hc1, hc2, hc3⟩ := HOP.out.fr HM0.out.nw.fr j hlt
      generalize l[j] = op at *
      obtain ⟨kind, ow, k⟩ := op
      simp only at hc1 hc2 hc3
      have HM := hid (HM0.out.alloc (.cells #[.int .i64 kind, .int .i64 ow, .int .i64 k] 32))
      have HX := hid (Bx.new wr kind ow k)
      have x0 := HX.out.c0
      have x1 := HX.out.c1
      have x2 := HX.out.c2
      have hmm := @run_makeMap Tryd.prog
      clear HM0 HOP
      by_cases hk1 : kind = 1
      · subst hk1
        have HLN : Hid ((grS own0 ow k).length = n) := (grS_len _ _ _).trans HLN0.out
        have HC := hid (n_grant HM.out ow k)
        generalize grS own0 ow k = own at *
        go_wp2_with fail
        refine HC.out.mono ?_
        rintro e w4 ⟨Z4, ⟨gad, gcap, rfl, _, _⟩, hm4, _, _⟩
        have HM4 := hid hm4
        clear hm4 HC HM HX x0 x1 x2 hc1 hc2 hc3 hbb
        go_wp2
        have HM5 := hid (HM4.out.alloc (.map #[] 0))
        have HO5 := hid (Om.new w4)
        have hB : Hid (w.heap.size ≤ w4.heap.size ∧ ¬ Z4 w4.heap.size) := ⟨HM4.out.nw.le, HM4.out.new⟩
        clear HM4 hmm
        generalize w4.heap.size = B at *
        go_loopw [60] (fun i wq => ∃ (q : Nat) (sl : List Int), q ≤ 8 ∧ i = .int .i64 q ∧ Hid (Seen own q 0 sl) ∧ Hid (Om wq B sl) ∧ Hid (Pn w wq a Z4 own)) (fun i _ => 8 - (intOf i).toNat)
        case atStart => exact ⟨0, [], by omega, rfl, Seen.start own, HO5, HM5⟩
        case round =>
          clear HO5 HM5
          obtain ⟨q, sl, hq, rfl, HS, HO, HM⟩ := hrel
          by_cases hq8 : q < 8
          · have HP := hid (p_window HM.out.m (q : Int))
            have HNI : Hid (wiL own (q : Int) = wN own (q : Int)) := by show _ = _; unfold wiL; exact if_pos ⟨by omega, by omega⟩
            rw [HNI.out] at HP
            have HLL : Hid (∀ (i : Nat) (h : i < (wN own q).length), (wN own q)[i] < n ∧ owI own ((wN own q)[i] : Nat) = q) := fun i h => ⟨by have h1 := wN_lt (List.getElem_mem h); have h2 := HLN.out; omega, wN_at (List.getElem_mem h)⟩
            have HSM : Hid (hadTo own q + (wN own q).length ≤ 100) := by
              have h1 := had_all HM.out.m.own
              have h2 := HLN.out
              have h3 : ∀ m, q + 1 ≤ m → hadTo own (q + 1) ≤ hadTo own m := fun m hm => by
                induction hm with
                | refl => exact Nat.le_refl _
                | step _ ih => exact Nat.le_trans ih (Nat.le_add_right _ _)
              have h4 := h3 8 (by omega)
              have h5 : hadTo own (q + 1) = hadTo own q + (wN own q).length := rfl
              show _ ≤ _
              omega
            go_wp2_with fail
            refine HP.out.mono ?_
            rintro e wa ⟨⟨lad, lcap, rfl, hk, hkb, _⟩, fa⟩
            have HO1 := hid (HO.out.kept fa)
            have HM1 := hid (HM.out.kept fa)
            have HK := hid hk.at_
            have hBl : Hid (∀ b off, lad = some ⟨b, off, none⟩ → ¬ b = B) := fun b off e hb => by have h1 := hkb b off e; have h2 := HO.out.lt; omega
            clear hk hkb fa HP HO HM HNI
            have hnl : (nI (wN own (q : Int))).length = (wN own (q : Int)).length := nI_length _
            have hw100 : (wN own (q : Int)).length ≤ 100 := by have := HSM.out; omega
            go_wp2
            go_loopw [11, 67] (fun lv i wc => ∃ (p : Nat) (lastv : Int) (sl : List Int), p ≤ (wN own q).length ∧ i = .int .i64 p ∧ lv = .int .i64 lastv ∧ Hid (∀ (i : Nat) (h : i < (wN own q).length), p ≤ i → lastv < ((wN own q)[i] : Nat)) ∧ Hid (Seen own q p sl) ∧ Hid (Om wc B sl) ∧ Hid (Pn w wc a Z4 own) ∧ Hid (NumsAt wc lad (nI (wN own q)))) (fun _ i _ => (wN own q).length - (intOf i).toNat)
            case atStart => exact ⟨0, -1, sl, by omega, rfl, rfl, (fun i h _ => by omega), HS, HO1, HM1, HK⟩
            case round =>
              clear HS HO1 HM1 HK
              obtain ⟨p, lastv, sl, hp, rfl, rfl, HLA, HS, HO, HM, HK⟩ := hrel
              by_cases hpl : p < (wN own q).length
              · obtain ⟨b1, o1, rfl, hb1, hcc⟩ := HK.out p (by rw [nI_length]; exact hpl)
                rw [nI_get] at hcc
                have hfr := HS.out.fresh hpl
                have HS2 := hid (HS.out.more hpl)
                have hcn := (HLL.out p hpl).1
                have hco := (HLL.out p hpl).2
                have hla := HLA.out p hpl (Nat.le_refl _)
                have HLA2 : Hid (∀ (i : Nat) (h : i < (wN own q).length), p + 1 ≤ i → (((wN own q)[p] : Nat) : Int) < ((wN own q)[i] : Nat)) := fun i h hi => by have := rises_lt (wN_rises own q) hpl h (by omega); omega
                have hlk := HO.out.look (x := (((wN own q)[p] : Nat) : Int)) (wf_small (by omega) (by omega))
                rw [decide_eq_false hfr] at hlk
                have HOW := hid (p_owner HM.out.m (((wN own q)[p] : Nat) : Int))
                rw [hco] at HOW
                have hsl := HS.out.len
                have hfrH := hid hfr
                clear HLA HS hco hfr
                generalize (wN own q)[p] = c at *
                go_wp2_with fail
                refine HOW.out.mono ?_
                rintro e wd ⟨rfl, fd⟩
                obtain ⟨we, hrun, hoe, fe⟩ := (HO.out.kept fd).store (x := (c : Int)) (by have := HSM.out; simp only [maxLen]; omega) (wf_small (by omega) (by omega)) hfrH.out
                have HO2 := hid hoe
                have HM2 : Hid (Pn w we a Z4 own) := ⟨(HM.out.kept fd).m.carry fe (fun i hi e => hB.out.2 (e ▸ hi)) (fun e => by have := hB.out.1; have := HM.out.p0; omega), HM.out.z, (HM.out.kept fd).nw.on fe (fun i e => by have := hB.out.1; omega), HM.out.p0⟩
                have HK2 : Hid (NumsAt we (some ⟨b1, o1, none⟩) (nI (wN own q))) := (HK.out.fr fd).carry fe (fun b off e _ hb => hBl.out b off e hb)
                clear hoe fe fd HO HM HK HOW hlk hsl hfrH hcc hb1
                go_wp2
                go_roundw
                case rel => exact ⟨p + 1, c, _, by omega, by go_num, rfl, HLA2, HS2, HO2, HM2, HK2⟩
                case measure => simp [intOf]; omega
              · obtain rfl : p = (wN own q).length := by omega
                have HS2 := hid HS.out.next
                clear HS HLA HK
                go_wp2
                go_roundw
                case rel => exact ⟨q + 1, sl, by omega, by go_num, HS2, HO, HM⟩
                case measure => simp [intOf]; omega
          · obtain rfl : q = 8 := by omega
            have hlen := HO.out.len
            have hsum : Hid (sl.length + (wN own (-1)).length = n) := by
              have h1 := had_all HM.out.m.own
              have h2 := HS.out.len
              have h3 := HLN.out
              show _ = _
              omega
            have HFR := hid (p_free HM.out.m)
            generalize (wN own (-1)).length = fr at *
            go_wp2_with fail
            refine HFR.out.mono ?_
            rintro e wf ⟨rfl, ff⟩
            have HM2 := hid (HM.out.kept ff)
            clear ff HM HO HS HFR hlen
            have hs1 : (sl.length : Int) + (fr : Int) = (n : Int) := by have := hsum.out; omega
            have hs2 : IntKind.i64.wrap (n : Int) = (n : Int) := by rw [IntKind.wrap_i64]; omega
            go_wp2
            go_roundw
            case rel => exact ⟨j + 1, Z4, own, by omega, by go_num, HLN, HM2⟩
            case measure => simp [intOf]; omega
      by_cases hk2 : kind = 2
      · subst hk2
        have HLN : Hid ((shS own0 ow k).length = n) := (shS_len _ _ _).trans HLN0.out
        have HC := hid (n_shrink HM.out ow k)
        generalize shS own0 ow k = own at *
        go_wp2_with fail
        refine HC.out.mono ?_
        rintro e w4 ⟨Z4, ⟨gad, gcap, rfl, _, _⟩, hm4, _, _⟩
        have HM4 := hid hm4
        clear hm4 HC HM HX x0 x1 x2 hc1 hc2 hc3 hbb
        go_wp2
        have HM5 := hid (HM4.out.alloc (.map #[] 0))
        have HO5 := hid (Om.new w4)
        have hB : Hid (w.heap.size ≤ w4.heap.size ∧ ¬ Z4 w4.heap.size) := ⟨HM4.out.nw.le, HM4.out.new⟩
        clear HM4 hmm
        generalize w4.heap.size = B at *
        go_loopw [60] (fun i wq => ∃ (q : Nat) (sl : List Int), q ≤ 8 ∧ i = .int .i64 q ∧ Hid (Seen own q 0 sl) ∧ Hid (Om wq B sl) ∧ Hid (Pn w wq a Z4 own)) (fun i _ => 8 - (intOf i).toNat)
        case atStart => exact ⟨0, [], by omega, rfl, Seen.start own, HO5, HM5⟩
        case round =>
          clear HO5 HM5
          obtain ⟨q, sl, hq, rfl, HS, HO, HM⟩ := hrel
          by_cases hq8 : q < 8
          · have HP := hid (p_window HM.out.m (q : Int))
            have HNI : Hid (wiL own (q : Int) = wN own (q : Int)) := by show _ = _; unfold wiL; exact if_pos ⟨by omega, by omega⟩
            rw [HNI.out] at HP
            have HLL : Hid (∀ (i : Nat) (h : i < (wN own q).length), (wN own q)[i] < n ∧ owI own ((wN own q)[i] : Nat) = q) := fun i h => ⟨by have h1 := wN_lt (List.getElem_mem h); have h2 := HLN.out; omega, wN_at (List.getElem_mem h)⟩
            have HSM : Hid (hadTo own q + (wN own q).length ≤ 100) := by
              have h1 := had_all HM.out.m.own
              have h2 := HLN.out
              have h3 : ∀ m, q + 1 ≤ m → hadTo own (q + 1) ≤ hadTo own m := fun m hm => by
                induction hm with
                | refl => exact Nat.le_refl _
                | step _ ih => exact Nat.le_trans ih (Nat.le_add_right _ _)
              have h4 := h3 8 (by omega)
              have h5 : hadTo own (q + 1) = hadTo own q + (wN own q).length := rfl
              show _ ≤ _
              omega
            go_wp2_with fail
            refine HP.out.mono ?_
            rintro e wa ⟨⟨lad, lcap, rfl, hk, hkb, _⟩, fa⟩
            have HO1 := hid (HO.out.kept fa)
            have HM1 := hid (HM.out.kept fa)
            have HK := hid hk.at_
            have hBl : Hid (∀ b off, lad = some ⟨b, off, none⟩ → ¬ b = B) := fun b off e hb => by have h1 := hkb b off e; have h2 := HO.out.lt; omega
            clear hk hkb fa HP HO HM HNI
            have hnl : (nI (wN own (q : Int))).length = (wN own (q : Int)).length := nI_length _
            have hw100 : (wN own (q : Int)).length ≤ 100 := by have := HSM.out; omega
            go_wp2
            go_loopw [11, 67] (fun lv i wc => ∃ (p : Nat) (lastv : Int) (sl : List Int), p ≤ (wN own q).length ∧ i = .int .i64 p ∧ lv = .int .i64 lastv ∧ Hid (∀ (i : Nat) (h : i < (wN own q).length), p ≤ i → lastv < ((wN own q)[i] : Nat)) ∧ Hid (Seen own q p sl) ∧ Hid (Om wc B sl) ∧ Hid (Pn w wc a Z4 own) ∧ Hid (NumsAt wc lad (nI (wN own q)))) (fun _ i _ => (wN own q).length - (intOf i).toNat)
            case atStart => exact ⟨0, -1, sl, by omega, rfl, rfl, (fun i h _ => by omega), HS, HO1, HM1, HK⟩
            case round =>
              clear HS HO1 HM1 HK
              obtain ⟨p, lastv, sl, hp, rfl, rfl, HLA, HS, HO, HM, HK⟩ := hrel
              by_cases hpl : p < (wN own q).length
              · obtain ⟨b1, o1, rfl, hb1, hcc⟩ := HK.out p (by rw [nI_length]; exact hpl)
                rw [nI_get] at hcc
                have hfr := HS.out.fresh hpl
                have HS2 := hid (HS.out.more hpl)
                have hcn := (HLL.out p hpl).1
                have hco := (HLL.out p hpl).2
                have hla := HLA.out p hpl (Nat.le_refl _)
                have HLA2 : Hid (∀ (i : Nat) (h : i < (wN own q).length), p + 1 ≤ i → (((wN own q)[p] : Nat) : Int) < ((wN own q)[i] : Nat)) := fun i h hi => by have := rises_lt (wN_rises own q) hpl h (by omega); omega
                have hlk := HO.out.look (x := (((wN own q)[p] : Nat) : Int)) (wf_small (by omega) (by omega))
                rw [decide_eq_false hfr] at hlk
                have HOW := hid (p_owner HM.out.m (((wN own q)[p] : Nat) : Int))
                rw [hco] at HOW
                have hsl := HS.out.len
                have hfrH := hid hfr
                clear HLA HS hco hfr
                generalize (wN own q)[p] = c at *
                go_wp2_with fail
                refine HOW.out.mono ?_
                rintro e wd ⟨rfl, fd⟩
                obtain ⟨we, hrun, hoe, fe⟩ := (HO.out.kept fd).store (x := (c : Int)) (by have := HSM.out; simp only [maxLen]; omega) (wf_small (by omega) (by omega)) hfrH.out
                have HO2 := hid hoe
                have HM2 : Hid (Pn w we a Z4 own) := ⟨(HM.out.kept fd).m.carry fe (fun i hi e => hB.out.2 (e ▸ hi)) (fun e => by have := hB.out.1; have := HM.out.p0; omega), HM.out.z, (HM.out.kept fd).nw.on fe (fun i e => by have := hB.out.1; omega), HM.out.p0⟩
                have HK2 : Hid (NumsAt we (some ⟨b1, o1, none⟩) (nI (wN own q))) := (HK.out.fr fd).carry fe (fun b off e _ hb => hBl.out b off e hb)
                clear hoe fe fd HO HM HK HOW hlk hsl hfrH hcc hb1
                go_wp2
                go_roundw
                case rel => exact ⟨p + 1, c, _, by omega, by go_num, rfl, HLA2, HS2, HO2, HM2, HK2⟩
                case measure => simp [intOf]; omega
              · obtain rfl : p = (wN own q).length := by omega
                have HS2 := hid HS.out.next
                clear HS HLA HK
                go_wp2
                go_roundw
                case rel => exact ⟨q + 1, sl, by omega, by go_num, HS2, HO, HM⟩
                case measure => simp [intOf]; omega
          · obtain rfl : q = 8 := by omega
            have hlen := HO.out.len
            have hsum : Hid (sl.length + (wN own (-1)).length = n) := by
              have h1 := had_all HM.out.m.own
              have h2 := HS.out.len
              have h3 := HLN.out
              show _ = _
              omega
            have HFR := hid (p_free HM.out.m)
            generalize (wN own (-1)).length = fr at *
            go_wp2_with fail
            refine HFR.out.mono ?_
            rintro e wf ⟨rfl, ff⟩
            have HM2 := hid (HM.out.kept ff)
            clear ff HM HO HS HFR hlen
            have hs1 : (sl.length : Int) + (fr : Int) = (n : Int) := by have := hsum.out; omega
            have hs2 : IntKind.i64.wrap (n : Int) = (n : Int) := by rw [IntKind.wrap_i64]; omega
            go_wp2
            go_roundw
            case rel => exact ⟨j + 1, Z4, own, by omega, by go_num, HLN, HM2⟩
            case measure => simp [intOf]; omega
      have HLN : Hid ((shS own0 ow 0).length = n) := (shS_len _ _ _).trans HLN0.out
      have HC := hid (n_drop HM.out ow)
      generalize shS own0 ow 0 = own at *
      go_wp2_with fail
      refine HC.out.mono ?_
      rintro e w4 ⟨Z4, ⟨gad, gcap, rfl, _, _⟩, hm4, _, _⟩
      have HM4 := hid hm4
      clear hm4 HC HM HX x0 x1 x2 hc1 hc2 hc3 hbb
      go_wp2
      have HM5 := hid (HM4.out.alloc (.map #[] 0))
      have HO5 := hid (Om.new w4)
      have hB : Hid (w.heap.size ≤ w4.heap.size ∧ ¬ Z4 w4.heap.size) := ⟨HM4.out.nw.le, HM4.out.new⟩
      clear HM4 hmm
      generalize w4.heap.size = B at *
      go_loopw [60] (fun i wq => ∃ (q : Nat) (sl : List Int), q ≤ 8 ∧ i = .int .i64 q ∧ Hid (Seen own q 0 sl) ∧ Hid (Om wq B sl) ∧ Hid (Pn w wq a Z4 own)) (fun i _ => 8 - (intOf i).toNat)
      case atStart => exact ⟨0, [], by omega, rfl, Seen.start own, HO5, HM5⟩
      case round =>
        clear HO5 HM5
        obtain ⟨q, sl, hq, rfl, HS, HO, HM⟩ := hrel
        by_cases hq8 : q < 8
        · have HP := hid (p_window HM.out.m (q : Int))
          have HNI : Hid (wiL own (q : Int) = wN own (q : Int)) := by show _ = _; unfold wiL; exact if_pos ⟨by omega, by omega⟩
          rw [HNI.out] at HP
          have HLL : Hid (∀ (i : Nat) (h : i < (wN own q).length), (wN own q)[i] < n ∧ owI own ((wN own q)[i] : Nat) = q) := fun i h => ⟨by have h1 := wN_lt (List.getElem_mem h); have h2 := HLN.out; omega, wN_at (List.getElem_mem h)⟩
          have HSM : Hid (hadTo own q + (wN own q).length ≤ 100) := by
            have h1 := had_all HM.out.m.own
            have h2 := HLN.out
            have h3 : ∀ m, q + 1 ≤ m → hadTo own (q + 1) ≤ hadTo own m := fun m hm => by
              induction hm with
              | refl => exact Nat.le_refl _
              | step _ ih => exact Nat.le_trans ih (Nat.le_add_right _ _)
            have h4 := h3 8 (by omega)
            have h5 : hadTo own (q + 1) = hadTo own q + (wN own q).length := rfl
            show _ ≤ _
            omega
          go_wp2_with fail
          refine HP.out.mono ?_
          rintro e wa ⟨⟨lad, lcap, rfl, hk, hkb, _⟩, fa⟩
          have HO1 := hid (HO.out.kept fa)
          have HM1 := hid (HM.out.kept fa)
          have HK := hid hk.at_
          have hBl : Hid (∀ b off, lad = some ⟨b, off, none⟩ → ¬ b = B) := fun b off e hb => by have h1 := hkb b off e; have h2 := HO.out.lt; omega
          clear hk hkb fa HP HO HM HNI
          have hnl : (nI (wN own (q : Int))).length = (wN own (q : Int)).length := nI_length _
          have hw100 : (wN own (q : Int)).length ≤ 100 := by have := HSM.out; omega
          go_wp2
          go_loopw [11, 67] (fun lv i wc => ∃ (p : Nat) (lastv : Int) (sl : List Int), p ≤ (wN own q).length ∧ i = .int .i64 p ∧ lv = .int .i64 lastv ∧ Hid (∀ (i : Nat) (h : i < (wN own q).length), p ≤ i → lastv < ((wN own q)[i] : Nat)) ∧ Hid (Seen own q p sl) ∧ Hid (Om wc B sl) ∧ Hid (Pn w wc a Z4 own) ∧ Hid (NumsAt wc lad (nI (wN own q)))) (fun _ i _ => (wN own q).length - (intOf i).toNat)
          case atStart => exact ⟨0, -1, sl, by omega, rfl, rfl, (fun i h _ => by omega), HS, HO1, HM1, HK⟩
          case round =>
            clear HS HO1 HM1 HK
            obtain ⟨p, lastv, sl, hp, rfl, rfl, HLA, HS, HO, HM, HK⟩ := hrel
            by_cases hpl : p < (wN own q).length
            · obtain ⟨b1, o1, rfl, hb1, hcc⟩ := HK.out p (by rw [nI_length]; exact hpl)
              rw [nI_get] at hcc
              have hfr := HS.out.fresh hpl
              have HS2 := hid (HS.out.more hpl)
              have hcn := (HLL.out p hpl).1
              have hco := (HLL.out p hpl).2
              have hla := HLA.out p hpl (Nat.le_refl _)
              have HLA2 : Hid (∀ (i : Nat) (h : i < (wN own q).length), p + 1 ≤ i → (((wN own q)[p] : Nat) : Int) < ((wN own q)[i] : Nat)) := fun i h hi => by have := rises_lt (wN_rises own q) hpl h (by omega); omega
              have hlk := HO.out.look (x := (((wN own q)[p] : Nat) : Int)) (wf_small (by omega) (by omega))
              rw [decide_eq_false hfr] at hlk
              have HOW := hid (p_owner HM.out.m (((wN own q)[p] : Nat) : Int))
              rw [hco] at HOW
              have hsl := HS.out.len
              have hfrH := hid hfr
              clear HLA HS hco hfr
              generalize (wN own q)[p] = c at *
              go_wp2_with fail
              refine HOW.out.mono ?_
              rintro e wd ⟨rfl, fd⟩
              obtain ⟨we, hrun, hoe, fe⟩ := (HO.out.kept fd).store (x := (c : Int)) (by have := HSM.out; simp only [maxLen]; omega) (wf_small (by omega) (by omega)) hfrH.out
              have HO2 := hid hoe
              have HM2 : Hid (Pn w we a Z4 own) := ⟨(HM.out.kept fd).m.carry fe (fun i hi e => hB.out.2 (e ▸ hi)) (fun e => by have := hB.out.1; have := HM.out.p0; omega), HM.out.z, (HM.out.kept fd).nw.on fe (fun i e => by have := hB.out.1; omega), HM.out.p0⟩
              have HK2 : Hid (NumsAt we (some ⟨b1, o1, none⟩) (nI (wN own q))) := (HK.out.fr fd).carry fe (fun b off e _ hb => hBl.out b off e hb)
              clear hoe fe fd HO HM HK HOW hlk hsl hfrH hcc hb1
              go_wp2
              go_roundw
              case rel => exact ⟨p + 1, c, _, by omega, by go_num, rfl, HLA2, HS2, HO2, HM2, HK2⟩
              case measure => simp [intOf]; omega
            · obtain rfl : p = (wN own q).length := by omega
              have HS2 := hid HS.out.next
              clear HS HLA HK
              go_wp2
              go_roundw
              case rel => exact ⟨q + 1, sl, by omega, by go_num, HS2, HO, HM⟩
              case measure => simp [intOf]; omega
        · obtain rfl : q = 8 := by omega
          have hlen := HO.out.len
          have hsum : Hid (sl.length + (wN own (-1)).length = n) := by
            have h1 := had_all HM.out.m.own
            have h2 := HS.out.len
            have h3 := HLN.out
            show _ = _
            omega
          have HFR := hid (p_free HM.out.m)
          generalize (wN own (-1)).length = fr at *
          go_wp2_with fail
          refine HFR.out.mono ?_
          rintro e wf ⟨rfl, ff⟩
          have HM2 := hid (HM.out.kept ff)
          clear ff HM HO HS HFR hlen
          have hs1 : (sl.length : Int) + (fr : Int) = (n : Int) := by have := hsum.out; omega
          have hs2 : IntKind.i64.wrap (n : Int) = (n : Int) := by rw [IntKind.wrap_i64]; omega
          go_wp2
          go_roundw
          case rel => exact ⟨j + 1, Z4, own, by omega, by go_num, HLN, HM2⟩
          case measure => simp [intOf]; omega
    · obtain rfl : j = l.length := by omega
      go_wp2
      go_ret
      exact ⟨by simp, HM0.out.nw.fr⟩
theorem apart_walk (n : Int) (v : Value) (w : World) (g : Gr w) (h : ∃ ad cap l, v = .slice ad (List.length l) cap ∧ OpsAt w ad l ∧ l.length ≤ maxLen) : Calls Tryd.prog 4 #[.int .i64 n, v] w fun e w' => e = .returned (.bool true) ∧ Fr (fun _ => False) w w' := by
  obtain ⟨ad, cap, l, rfl, g1, g2⟩ := h
  by_cases hc : 1 ≤ n ∧ n ≤ 32
  · obtain ⟨n, rfl⟩ : ∃ m : Nat, n = (m : Int) := ⟨n.toNat, by omega⟩
    exact apart_yes (by omega) (by omega) ad l cap g2 w g1 g
  · exact apart_bad hc _ w g
end Go.Proofs.YthamfljooapkoaaDoor
