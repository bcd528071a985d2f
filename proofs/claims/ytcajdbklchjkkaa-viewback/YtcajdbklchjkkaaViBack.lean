/-
  What was written is read, and all else is as it was: the walk of the law ViewBack.
-/
import Derived.Test.YtcajdbklchjkkaaViMoves
import Derived.Test.YtcajdbklchjkkaaSeenC
namespace Go.Proofs.Ytcajdbklchjkkaa
open Go.RowKit
open An

theorem vwB_read {T : Tb} (ok : TbOk T) {bs : List UInt8} {x : Int} {ds : List UInt8} (h : VwOk T bs.length x ds.length) : vrV T (vwB T bs x ds) x ds.length = ds := by
  have hl := vwB_length ok bs x ds
  unfold vrV
  rw [hl, if_pos h]
  unfold vwB
  rw [if_pos h]
  obtain ⟨a1, a2, _⟩ := h.apt ok
  exact rd_wr a1 (by rw [a2]; simp)
/-- Does it lie in one of the pieces? -/
def InP (L : List Sq) (x : Int) : Prop := ∃ s ∈ L, s.1 ≤ x ∧ x < s.1 + s.2.1
/-- The places of the first j pieces, and of k bytes of the next one. -/
structure Got (L : List Sq) (j k : Nat) (q : List Int) : Prop where
  len : q.length = lenL (L.take j) + k
  mem : ∀ x, x ∈ q ↔ InP (L.take j) x ∨ ∃ h : j < L.length, L[j].1 ≤ x ∧ x < L[j].1 + k
theorem Got.start (L : List Sq) : Got L 0 0 [] := ⟨rfl, fun x => ⟨fun h => by simp at h, fun h => by
  rcases h with ⟨s, hs, _⟩ | ⟨h, h1, h2⟩
  · simp at hs
  · exfalso; simp at h2; omega⟩⟩
theorem Got.fresh {L : List Sq} {N j k : Nat} {q : List Int} (h : Got L j k q) (ha : Apt N L) (hj : j < L.length) (hk : (k : Int) < L[j].2.1) : L[j].1 + k ∉ q := fun e => by
  rcases (h.mem _).1 e with ⟨s, hs, h1, h2⟩ | ⟨_, h1, h2⟩
  · obtain ⟨i, hi, rfl⟩ := List.getElem_of_mem hs
    rw [List.length_take] at hi
    rw [List.getElem_take] at h1 h2
    have hp := List.pairwise_iff_getElem.1 ha.apart i j (by omega) hj (by omega)
    have := ha.at_ L[j] (List.getElem_mem hj)
    omega
  · omega
theorem Got.step {L : List Sq} {j k : Nat} {q : List Int} (h : Got L j k q) (hj : j < L.length) : Got L j (k + 1) ((L[j].1 + k) :: q) := by
  refine ⟨by rw [List.length_cons, h.len]; omega, fun x => ?_⟩
  rw [List.mem_cons, h.mem x]
  constructor
  · rintro (rfl | h1 | ⟨h0, h1, h2⟩)
    · exact .inr ⟨hj, by omega, by omega⟩
    · exact .inl h1
    · exact .inr ⟨h0, h1, by omega⟩
  · rintro (h1 | ⟨h0, h1, h2⟩)
    · exact .inr (.inl h1)
    · by_cases e : x = L[j].1 + k
      · exact .inl e
      · exact .inr (.inr ⟨h0, h1, by omega⟩)
theorem Got.next {L : List Sq} {j k : Nat} {q : List Int} (h : Got L j k q) (hj : j < L.length) (hk : (k : Int) = L[j].2.1) : Got L (j + 1) 0 q := by
  have e : L.take (j + 1) = L.take j ++ [L[j]] := List.take_succ_eq_append_getElem hj
  refine ⟨?_, fun x => ?_⟩
  · rw [h.len, e, lenL_append]
    simp only [lenL]
    omega
  · rw [h.mem x, e]
    constructor
    · rintro (⟨s, hs, h1⟩ | ⟨h0, h1, h2⟩)
      · exact .inl ⟨s, List.mem_append_left _ hs, h1⟩
      · exact .inl ⟨L[j], List.mem_append_right _ (by simp), h1, by omega⟩
    · rintro (⟨s, hs, h1, h2⟩ | ⟨h0, h1, h2⟩)
      · rcases List.mem_append.1 hs with hs | hs
        · exact .inl ⟨s, hs, h1, h2⟩
        · obtain rfl : s = L[j] := by simpa using hs
          exact .inr ⟨hj, h1, by omega⟩
      · exfalso; simp at h2; omega
theorem Got.out {L : List Sq} {q : List Int} (h : Got L L.length 0 q) {x : Int} (hx : x ∉ q) : ∀ s ∈ L, x < s.1 ∨ s.1 + s.2.1 ≤ x := fun s hs => by
  by_cases e : s.1 ≤ x ∧ x < s.1 + s.2.1
  · exact absurd ((h.mem x).2 (.inl ⟨s, by rw [List.take_length]; exact hs, e⟩)) hx
  · omega
set_option maxRecDepth 20000 in
set_option maxHeartbeats 4000000 in
theorem back_walk (sv : Value) (first data : ByteArray) (x0 : Int) (hx0 : I64 x0) (w : World) (h : ∃ ad cap l, sv = .slice ad (List.length l) cap ∧ OpsAt w ad l ∧ l.length ≤ maxLen) : Calls Try.prog 4 #[sv, .string first, .int .i64 x0, .string data] w fun e w' => e = .returned (.bool true) ∧ Fr (fun _ => False) w w' := by
  obtain ⟨ad, cap, l, rfl, hops, hmax⟩ := h
  have HA := hid awake_any
  have HO := hid hops
  have HX := hid hx0
  clear hops hx0
  by_cases h1 : (60 : Int) < l.length
  · clear HO
    go_enter Try.func4, Try.ntmps4
    go_wp2_with fail
    refine (HA.out _).mono ?_
    rintro e w1 ⟨rfl, f1⟩
    have F1 := hid f1
    clear f1
    go_wp2_with fail
    refine (HA.out _).mono ?_
    rintro e w2 ⟨rfl, f2⟩
    have F2 := hid (F1.out.trans f2)
    clear f2 F1
    go_wp2
    go_ret
    exact ⟨by simp, F2.out⟩
  by_cases h2 : (4096 : Int) < first.size
  · clear HO
    go_enter Try.func4, Try.ntmps4
    go_wp2_with fail
    refine (HA.out _).mono ?_
    rintro e w1 ⟨rfl, f1⟩
    have F1 := hid f1
    clear f1
    go_wp2_with fail
    refine (HA.out _).mono ?_
    rintro e w2 ⟨rfl, f2⟩
    have F2 := hid (F1.out.trans f2)
    clear f2 F1
    go_wp2
    go_ret
    exact ⟨by simp, F2.out⟩
  by_cases h3 : (4096 : Int) < data.size
  · clear HO
    go_enter Try.func4, Try.ntmps4
    go_wp2_with fail
    refine (HA.out _).mono ?_
    rintro e w1 ⟨rfl, f1⟩
    have F1 := hid f1
    clear f1
    go_wp2_with fail
    refine (HA.out _).mono ?_
    rintro e w2 ⟨rfl, f2⟩
    have F2 := hid (F1.out.trans f2)
    clear f2 F1
    go_wp2
    go_ret
    exact ⟨by simp, F2.out⟩
  have d1 : decide ((60 : Int) < l.length) = false := decide_eq_false h1
  have d2 : decide ((4096 : Int) < first.size) = false := decide_eq_false h2
  have d3 : decide ((4096 : Int) < data.size) = false := decide_eq_false h3
  have HNA : Hid (∀ w1, Things w w1 [] → Calls Try.prog 9 #[.int .i64 4096] w1 fun e w' => ∃ a, e = .returned (.tuple #[.pointer (some ⟨a, 0, none⟩), .int .i64 0]) ∧ Things w w' [Am 77 a (List.replicate 4096 0) []]) := fun w1 h => ga_new h 4096 (by decide)
  have HNT : Hid (∀ w1 a, Things w w1 [Am 77 a (List.replicate 4096 0) []] → Calls Try.prog 8 #[] w1 fun e w' => ∃ t, e = .returned (.pointer (some ⟨t, 0, none⟩)) ∧ Things w w' [Am 77 a (List.replicate 4096 0) [], Tm t []]) := fun w1 a h => g_new h
  have T0 : Hid (Things w w []) := Things.start (Nw.start w)
  go_enter Try.func4, Try.ntmps4
  go_wp2_with fail
  refine (HA.out _).mono ?_
  rintro e w1 ⟨rfl, f1⟩
  have T1 := hid (T0.out.kept f1)
  clear f1 T0 HA
  go_wp2_with fail
  refine (HNA.out _ T1.out).mono ?_
  rintro e w2 ⟨a, rfl, h2⟩
  have T2 := hid h2
  clear h2 T1 HNA
  go_wp2_with fail
  refine (HNT.out _ _ T2.out).mono ?_
  rintro e w3 ⟨t, rfl, h3⟩
  have T3 := hid h3
  clear h3 T2 HNT
  go_wp2
  have HM : Hid (∀ w0 T x y, TbOk T → I64 x → I64 y → Things w w0 [Am 77 a (List.replicate 4096 0) [], Tm t T] → Calls Try.prog 17 #[.pointer (some ⟨t, 0, none⟩), .int .i64 x, .int .i64 y] w0 fun e w' => e = .returned (.int .i64 (tbME T x y)) ∧ Things w w' [Am 77 a (List.replicate 4096 0) [], Tm t (tbM T x y)]) := fun w0 T x y ok hx hy h => g_map h 1 rfl ok hx hy
  go_loopw [53] (fun i wr => ∃ (j : Nat) (T : Tb), j ≤ l.length ∧ i = .int .i64 j ∧ Hid (TbOk T) ∧ Hid (Things w wr [Am 77 a (List.replicate 4096 0) [], Tm t T])) (fun i _ => l.length - (intOf i).toNat)
  case atStart => exact ⟨0, [], by omega, rfl, TbOk.none, T3⟩
  case round =>
    obtain ⟨j, T, hj, rfl, OK, T3⟩ := hrel
    by_cases hlt : j < l.length
    · obtain ⟨bb, off, rfl, hbb, hc1, hc2, hc3, hB⟩ := HO.out.fr T3.out.nw.fr j hlt
      generalize hk : l[j] = o at hc1 hc2 hc3 hB
      obtain ⟨kind, x, y⟩ := o
      simp only at hc1 hc2 hc3 hB
      by_cases hy8 : y < 8
      · have T4 := hid (T3.out.kept ((Fr.refl _ _).alloc (.cells #[.int .i64 kind, .int .i64 x, .int .i64 y] 56)))
        have HC := hid fun w0 h => HM.out w0 T x y OK.out hB.2.1 hB.2.2 h
        have OK2 := hid (OK.out.map x y)
        clear hk HO T3 hB HM OK
        generalize tbM T x y = T2 at *
        generalize tbME T x y = me at *
        go_wp2_with fail
        refine (HC.out _ T4.out).mono ?_
        rintro e w5 ⟨rfl, h5⟩
        have T5 := hid h5
        clear h5 T4 HC
        go_wp2
        go_roundw
        case rel => exact ⟨j + 1, T2, by omega, by go_num, OK2, T5⟩
        case measure => simp [intOf]; omega
      · have hy9 : 8 ≤ y := by omega
        have T4 := hid (T3.out.kept ((Fr.refl _ _).alloc (.cells #[.int .i64 kind, .int .i64 x, .int .i64 y] 56)))
        clear hk HO T3 hB HM
        go_wp2
        go_roundw
        case rel => exact ⟨j + 1, T, by omega, by go_num, OK, T4⟩
        case measure => simp [intOf]; omega
    · obtain rfl : l.length = j := by omega
      clear HO HM
      have ok := OK.out
      have l3 : data.size ≤ 4096 := by omega
      have l2 : first.size ≤ 4096 := by omega
      have HW : Hid (∀ w0, Things w w0 [Am 77 a (List.replicate 4096 0) [], Tm t T] → Calls Try.prog 18 #[.pointer (some ⟨a, 0, none⟩), .int .i64 0, .string first] w0 fun e w' => e = .returned (.int .i64 0) ∧ ∃ bs ss, bs.length = 4096 ∧ ss.length ≤ 1 ∧ Things w w' [Am 77 a bs ss, Tm t T]) := fun w0 h => (ga_write h 0 rfl 0 first (by rw [List.length_replicate]; omega) (by simp)).mono fun e w' ⟨he, h2⟩ => ⟨he, _, _, over_length _ _ _ (by rw [List.length_replicate]; show 0 + first.size ≤ 4096; omega), noted_len _ _ _ _, h2⟩
      clear d1 d2 d3 h1 h2 h3 hlt hmax
      go_wp2_with fail
      refine (HW.out _ T3.out).mono ?_
      rintro e w4 ⟨rfl, bs, ss, hbl, hsl, h4⟩
      have T4 := hid h4
      clear h4 T3 HW
      have HR1 : Hid (∀ w0, Things w w0 [Am 77 a bs ss, Tm t T] → Calls Try.prog 15 #[.pointer (some ⟨a, 0, none⟩), .int .i64 0, .int .i64 4096] w0 fun e w' => e = .returned (.tuple #[.string ⟨bs.toArray⟩, .int .i64 0]) ∧ ∃ ss2, ss2.length ≤ 2 ∧ Things w w' [Am 77 a bs ss2, Tm t T]) := fun w0 h => (ga_read h 0 rfl 0 4096 (by omega) (by omega)).mono fun e w' ⟨he, h2⟩ => ⟨by rw [he, List.drop_zero, List.take_of_length_le (by omega)], _, Nat.le_trans (noted_len _ _ _ _) (by omega), h2⟩
      have HV1 : Hid (∀ w0 ss2, ss2.length ≤ 2 → Things w w0 [Am 77 a bs ss2, Tm t T] → Calls Try.prog 19 #[.pointer (some ⟨a, 0, none⟩), .pointer (some ⟨t, 0, none⟩), .int .i64 x0, .string data] w0 fun e w' => e = .returned (.int .i64 (vwE T 4096 x0 data.size)) ∧ ∃ ss3, ss3.length ≤ 100 ∧ Things w w' [Am 77 a (vwB T bs x0 data.data.toList) ss3, Tm t T]) := fun w0 ss2 hs2 h => (gv_write h 0 1 (by decide) rfl rfl ok HX.out data (by omega) (by omega)).mono fun e w' ⟨he, h2⟩ => ⟨by rw [he, hbl], _, by have := (vrT_len ok bs.length ss2 x0 data.size).2; omega, h2⟩
      have hbl2 : (vwB T bs x0 data.data.toList).length = 4096 := (vwB_length ok _ _ _).trans hbl
      have HR2 : Hid (∀ w0 ss3, ss3.length ≤ 100 → Things w w0 [Am 77 a (vwB T bs x0 data.data.toList) ss3, Tm t T] → Calls Try.prog 15 #[.pointer (some ⟨a, 0, none⟩), .int .i64 0, .int .i64 4096] w0 fun e w' => e = .returned (.tuple #[.string ⟨(vwB T bs x0 data.data.toList).toArray⟩, .int .i64 0]) ∧ ∃ ss4, ss4.length ≤ 101 ∧ Things w w' [Am 77 a (vwB T bs x0 data.data.toList) ss4, Tm t T]) := fun w0 ss3 hs3 h => (ga_read h 0 rfl 0 4096 (by omega) (by omega)).mono fun e w' ⟨he, h2⟩ => ⟨by rw [he, List.drop_zero, List.take_of_length_le (by omega)], _, Nat.le_trans (noted_len _ _ _ _) (by omega), h2⟩
      go_wp2_with fail
      refine (HR1.out _ T4.out).mono ?_
      rintro e w5 ⟨rfl, ss2, hs2, h5⟩
      have T5 := hid h5
      clear h5 T4 HR1 hsl
      go_wp2_with fail
      refine (HV1.out _ _ hs2 T5.out).mono ?_
      rintro e w6 ⟨rfl, ss3, hs3, h6⟩
      have T6 := hid h6
      clear h6 T5 HV1 hs2
      go_wp2_with fail
      refine (HR2.out _ _ hs3 T6.out).mono ?_
      rintro e w7 ⟨rfl, ss4, hs4, h7⟩
      have T7 := hid h7
      clear h7 T6 HR2 hs3
      by_cases hv : VwOk T 4096 x0 data.size
      case neg =>
        have e1 : vwE T 4096 x0 data.size = 4 := if_neg hv
        have e2 : vwB T bs x0 data.data.toList = bs := by unfold vwB; rw [hbl]; exact if_neg hv
        rw [e1, e2]
        clear hv e1 e2
        go_wp2
        go_ret
        exact ⟨by simp, T7.out.nw.fr⟩
      have e1 : vwE T 4096 x0 data.size = 0 := if_pos hv
      rw [e1]
      have hdl : (data.data.toList.length : Int) = data.size := rfl
      have HV2 : Hid (∀ w0, Things w w0 [Am 77 a (vwB T bs x0 data.data.toList) ss4, Tm t T] → Calls Try.prog 20 #[.pointer (some ⟨a, 0, none⟩), .pointer (some ⟨t, 0, none⟩), .int .i64 x0, .int .i64 data.size] w0 fun e w' => e = .returned (.tuple #[.string data, .int .i64 0]) ∧ ∃ ss5, Things w w' [Am 77 a (vwB T bs x0 data.data.toList) ss5, Tm t T]) := fun w0 h => (gv_read h 0 1 (by decide) rfl rfl ok HX.out (n := data.size) ⟨by omega, by omega⟩ (by omega) (by omega)).mono fun e w' ⟨he, h2⟩ => ⟨by
        have q1 : vrV T (vwB T bs x0 data.data.toList) x0 data.size = data.data.toList := vwB_read ok (by rw [hbl]; exact hv)
        have q2 : vwE T (vwB T bs x0 data.data.toList).length x0 data.size = 0 := by rw [hbl2]; exact if_pos hv
        rw [he, q1, q2], _, h2⟩
      have HPI : Hid (∀ w0 ss5, Things w w0 [Am 77 a (vwB T bs x0 data.data.toList) ss5, Tm t T] → Calls Try.prog 21 #[.pointer (some ⟨t, 0, none⟩), .int .i64 x0, .int .i64 data.size] w0 fun e w' => ∃ ad cap, e = .returned (.tuple #[.slice ad (piL T x0 data.size).length cap, .int .i64 0]) ∧ Things w w' [Am 77 a (vwB T bs x0 data.data.toList) ss5, Tm t T, Sv ad (piL T x0 data.size)]) := fun w0 ss5 h => (g_pieces h 1 rfl ok HX.out (n := data.size) ⟨by omega, by omega⟩).mono fun e w' ⟨ad, cap, he, h2⟩ => ⟨ad, cap, by rw [he, hv.1], h2⟩
      go_wp2_with fail
      refine (HV2.out _ T7.out).mono ?_
      rintro e w8 ⟨rfl, ss5, h8⟩
      have T8 := hid h8
      clear h8 T7 HV2
      go_wp2_with fail
      refine (HPI.out _ _ T8.out).mono ?_
      rintro e w9 ⟨ad2, cap2, rfl, h9⟩
      have T10 : Hid (Things w (w9.alloc (.map #[] 0)) [Am 77 a (vwB T bs x0 data.data.toList) ss5, Tm t T, Sv ad2 (piL T x0 data.size), Mc w9.heap.size []]) := h9.setC
      clear h9 T8 HPI
      have hap := hv.apt ok
      have hfar : ∀ i : Nat, (∀ s ∈ piL T x0 data.size, (i : Int) < s.1 ∨ s.1 + s.2.1 ≤ i) → (vwB T bs x0 data.data.toList)[i]? = bs[i]? := fun i hi => by
        have e : vwB T bs x0 data.data.toList = wrB bs (piL T x0 data.size) data.data.toList := by
          unfold vwB
          rw [hbl]
          exact if_pos hv
        rw [e]
        exact wrB_far (by rw [hbl]; exact hap.1) i hi
      have HFAR := hid hfar
      have HAPT := hid hap.1
      have hll : lenL (piL T x0 data.size) = data.size := hap.2.1
      have hlp : (piL T x0 data.size).length ≤ 100 := by have := hap.2.2.1; omega
      clear hap hfar hv e1 ok OK hdl HX hs4
      generalize vwB T bs x0 data.data.toList = bs2 at *
      generalize piL T x0 data.size = L at *
      have hmm := @run_makeMap Try.prog
      go_wp2
      clear hmm
      generalize w9.heap.size = B at *
      go_loopw [121] (fun i wr => ∃ (j : Nat) (q : List Int), j ≤ L.length ∧ i = .int .i64 j ∧ Hid (Got L j 0 q) ∧ Hid (Things w wr [Am 77 a bs2 ss5, Tm t T, Sv ad2 L, Mc B q])) (fun i _ => L.length - (intOf i).toNat)
      case atStart => exact ⟨0, [], by omega, rfl, Got.start L, T10⟩
      case round =>
        obtain ⟨j, q, hj, rfl, HG, T11⟩ := hrel
        clear T10
        by_cases hlt : j < L.length
        · obtain ⟨bb, off, rfl, hbb, hc1, hc2, hc3⟩ := T11.out.sps 2 rfl j hlt
          have hat := HAPT.out.at_ L[j] (List.getElem_mem hlt)
          have HLJ : Hid (L[j] = L[j]) := rfl
          have T12 : Hid (Things w _ [Am 77 a bs2 ss5, Tm t T, Sv (some ⟨bb, off, none⟩) L, Mc B q, Blk wr.heap.size (.cells #[.int .i64 L[j].1, .int .i64 L[j].2.1, .bool L[j].2.2] 65 (0, 0))]) := T11.out.blk _
          have HST : Hid (∀ (k : Nat) q', (k : Int) < L[j].2.1 → Got L j k q' → L[j].1 + k ∉ q' ∧ Got L j (k + 1) ((L[j].1 + k) :: q') ∧ q'.length < maxLen) := fun k q' hk hg => ⟨hg.fresh HAPT.out hlt hk, hg.step hlt, by
            have h1 := hg.len
            have h2 : lenL (L.take j) ≤ lenL L := by
              have := lenL_append (L.take j) (L.drop j)
              rw [List.take_append_drop] at this
              omega
            unfold maxLen
            omega⟩
          have HEND : Hid (∀ (k : Nat) q', (k : Int) = L[j].2.1 → Got L j k q' → Got L (j + 1) 0 q') := fun k q' hk hg => hg.next hlt hk
          generalize hm : L[j] = m at *
          obtain ⟨m1, m2, m3⟩ := m
          simp only at hc1 hc2 hc3 hat T12 HST HEND
          obtain ⟨M2, rfl⟩ : ∃ M : Nat, m2 = M := ⟨m2.toNat, by omega⟩
          clear hm HLJ T11
          generalize hB7 : wr.heap.size = B7 at *
          go_wp2
          go_loopw [127] (fun i wq => ∃ (k : Nat) (q' : List Int), k ≤ M2 ∧ i = .int .i64 k ∧ Hid (Got L j k q') ∧ Hid (Things w wq [Am 77 a bs2 ss5, Tm t T, Sv (some ⟨bb, off, none⟩) L, Mc B q', Blk B7 (.cells #[.int .i64 m1, .int .i64 M2, .bool m3] 65 (0, 0))])) (fun i _ => M2 - (intOf i).toNat)
          case atStart => exact ⟨0, q, by omega, rfl, HG, T12⟩
          case round =>
            obtain ⟨k, q', hk, rfl, HG2, T13⟩ := hrel
            clear T12 HG
            by_cases hkl : k < M2
            · obtain ⟨f1, f2, f3⟩ := HST.out k q' (by omega) HG2.out
              have r1 : IntKind.i64.wrap (m1 + (k : Int)) = m1 + k := by rw [IntKind.wrap_i64]; omega
              have hwf := wf_small (x := m1 + k) (by omega) (by omega)
              obtain ⟨w14, hrun, h14⟩ := T13.out.storeC 3 rfl f3 hwf f1
              have HG3 := hid f2
              have T14 : Hid (Things w w14 [Am 77 a bs2 ss5, Tm t T, Sv (some ⟨bb, off, none⟩) L, Mc B ((m1 + k) :: q'), Blk B7 (.cells #[.int .i64 m1, .int .i64 M2, .bool m3] 65 (0, 0))]) := h14
              have hb := T13.out.cells 4 rfl
              have v0 : wr.cell? ⟨B7, 0, none⟩ = some (.int .i64 m1) := by simp [World.cell?, hb]
              clear f1 f2 f3 hwf h14 T13 HG2 HST HEND hb
              go_wp2
              go_roundw
              case rel => exact ⟨k + 1, _, by omega, by go_num, HG3, T14⟩
              case measure => simp [intOf]; omega
            · obtain rfl : M2 = k := by omega
              have HG3 := hid (HEND.out M2 q' rfl HG2.out)
              have T14 := hid (Things.less (ts := [Am 77 a bs2 ss5, Tm t T, Sv (some ⟨bb, off, none⟩) L, Mc B q']) T13.out)
              clear T13 HG2 HST HEND
              go_wp2
              go_roundw
              case rel => exact ⟨j + 1, q', by omega, by go_num, HG3, T14⟩
              case measure => simp [intOf]; omega
        · obtain rfl : L.length = j := by omega
          clear HAPT
          go_wp2
          go_loopw [137] (fun i wr => ∃ k : Nat, k ≤ 4096 ∧ i = .int .i64 k ∧ Hid (Things w wr [Am 77 a bs2 ss5, Tm t T, Sv ad2 L, Mc B q])) (fun i _ => 4096 - (intOf i).toNat)
          case atStart => exact ⟨0, by omega, rfl, T11⟩
          case round =>
            obtain ⟨k, hk, rfl, T12⟩ := hrel
            clear T11
            by_cases hkl : k < 4096
            · have hlk := (T12.out.kept (Fr.refl _ _).drew).lookC 3 rfl (x := (k : Int)) (wf_small (by omega) (by omega))
              by_cases hin : (k : Int) ∈ q
              · rw [decide_eq_true hin] at hlk
                go_wp2_with fail
                go_region
                go_wp2
                go_roundw
                case rel => exact ⟨k + 1, by omega, by go_num, T12.out.kept (Fr.refl _ _).drew⟩
                case measure => simp [intOf]; omega
              · rw [decide_eq_false hin] at hlk
                have hb := HFAR.out k (HG.out.out hin)
                have hk2 : k < bs2.length := by omega
                have hk1 : k < bs.length := by omega
                have hbb2 : bs2[k] = bs[k] := by
                  rw [List.getElem?_eq_getElem hk2, List.getElem?_eq_getElem hk1] at hb
                  simpa using hb
                have hcmp : ∀ (p1 : k < (ByteArray.mk bs2.toArray).size) (p2 : k < (ByteArray.mk bs.toArray).size), ((((ByteArray.mk bs2.toArray)[k]'p1).toNat : Int) != (((ByteArray.mk bs.toArray)[k]'p2).toNat : Int)) = false := fun p1 p2 => by
                  have e1 : (ByteArray.mk bs2.toArray)[k]'p1 = bs2[k] := rfl
                  have e2 : (ByteArray.mk bs.toArray)[k]'p2 = bs[k] := rfl
                  rw [e1, e2, hbb2]
                  simp
                have i1 : (k : Int) < bs2.length := by omega
                have i2 : (k : Int) < bs.length := by omega
                go_wp2_with fail
                go_region
                go_wp2
                go_roundw
                case rel => exact ⟨k + 1, by omega, by go_num, T12.out.kept (Fr.refl _ _).drew⟩
                case measure => simp [intOf]; omega
            · obtain rfl : k = 4096 := by omega
              have hln := T12.out.lenC 3 rfl
              have hql : q.length = data.size := by rw [HG.out.len, List.take_length, hll]; rfl
              rw [hql] at hln
              go_wp2
              go_ret
              exact ⟨by simp, T12.out.nw.fr⟩
end Go.Proofs.Ytcajdbklchjkkaa
