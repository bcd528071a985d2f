/-
  A window gives out all of its pages, rising, each once, and then none: the walk of the law ColourAll.
-/
import Derived.Test.YtcekpaicccmhkaaDoorCoState
import Derived.Test.YtcekpaicccmhkaaDoorCoMath
namespace Go.Proofs.YtcekpaicccmhkaaDoor
open Go.RowKit

theorem off_old {W w : World} {a k : Nat} {Z : Nat → Prop} {has : List Bool} {ad : Option Addr} {l : List Int} (h : Mn W w a Z k has) (hl : NumsAt W ad l) : Off Z ad l := fun b off e h0 hz => by
  obtain ⟨b', off', h1, h2, _⟩ := hl 0 h0
  rw [e] at h1
  simp only [Option.some.injEq, Addr.mk.injEq] at h1
  have := h.z b hz
  omega
set_option maxRecDepth 20000 in
theorem all_no {n k : Int} (h : ¬ Cfg n k) (v : Value) (w : World) (g : Gr w) : Calls Tryd.prog 5 #[.agg #[.int .i64 n, .int .i64 k], v] w fun e w' => e = .returned (.bool true) ∧ Fr (fun _ => False) w w' := by
  have H1 := hid fun w => c_new_no h w
  have HA := hid fun w0 (f : Fr (fun _ => False) w w0) => awake_f w0 (g.fr f)
  have A := Cf.new w n k
  have c0 := A.c0
  have c1 := A.c1
  clear A h g
  go_enter Tryd.func5, Tryd.ntmps5
  go_wp2_with fail
  refine (H1.out _).mono ?_
  rintro e w1 ⟨rfl, f1⟩
  have HF1 := hid (((Fr.refl (fun _ => False) w).alloc _).trans f1)
  clear f1 c0 c1
  go_wp2_with fail
  refine (HA.out _ HF1.out).mono ?_
  rintro e w2 ⟨rfl, f2⟩
  have HF2 := hid (HF1.out.trans f2)
  clear f2 HF1
  go_wp2_with fail
  refine (HA.out _ HF2.out).mono ?_
  rintro e w3 ⟨rfl, f3⟩
  have HF3 := hid (HF2.out.trans f3)
  clear f3 HF2
  go_wp2
  go_ret
  exact ⟨by simp, HF3.out⟩
set_option maxRecDepth 20000 in
theorem all_long {n k : Nat} (h : Cfg n k) (ad : Option Addr) (l : List Int) (cap : Nat) (hl : 100 < l.length) (hlm : l.length ≤ 9223372036854775807) (w : World) (g : Gr w) : Calls Tryd.prog 5 #[.agg #[.int .i64 (n : Int), .int .i64 (k : Int)], .slice ad l.length cap] w fun e w' => e = .returned (.bool true) ∧ Fr (fun _ => False) w w' := by
  have HST := hid (Nw.start w g.pos)
  have H1 := hid fun w0 (nw : Nw w w0) => n_new h nw g
  have HA := hid fun w0 (f : Fr (fun _ => False) w w0) => awake_f w0 (g.fr f)
  have A := Cf.new w n k
  have c0 := A.c0
  have c1 := A.c1
  clear A h g
  go_enter Tryd.func5, Tryd.ntmps5
  go_wp2_with fail
  refine (H1.out _ (HST.out.alloc _)).mono ?_
  rintro e w1 ⟨a, Z, rfl, hz, hm, f1⟩
  have HF1 := hid hm.nw.fr
  clear f1 c0 c1 hz hm
  go_wp2_with fail
  refine (HA.out _ HF1.out).mono ?_
  rintro e w2 ⟨rfl, f2⟩
  have HF2 := hid (HF1.out.trans f2)
  clear f2 HF1
  go_wp2_with fail
  refine (HA.out _ HF2.out).mono ?_
  rintro e w3 ⟨rfl, f3⟩
  have HF3 := hid (HF2.out.trans f3)
  clear f3 HF2
  go_wp2
  go_ret
  exact ⟨by simp, HF3.out⟩
set_option maxRecDepth 20000 in
set_option maxHeartbeats 1000000 in
theorem all_loop {n k : Nat} (h : Cfg n k) (ad : Option Addr) (l : List Int) (cap : Nat) (hll : ¬ 100 < l.length) (w : World) (hl : NumsAt w ad l) (g : Gr w) : Calls Tryd.prog 5 #[.agg #[.int .i64 (n : Int), .int .i64 (k : Int)], .slice ad l.length cap] w fun e w' => e = .returned (.bool true) ∧ Fr (fun _ => False) w w' := by
  have HST := hid (Nw.start w g.pos)
  have H1 := hid fun w0 (nw : Nw w w0) => n_new h nw g
  have HA := hid fun w0 (f : Fr (fun _ => False) w w0) => awake_f w0 (g.fr f)
  have HX := hid (Cf.new w n k)
  have c0 := HX.out.c0
  have c1 := HX.out.c1
  have HL := hid hl
  have hm : l.length ≤ maxLen := by simp only [maxLen]; omega
  have hn4 : n ≤ 4096 := by unfold Cfg at h; omega
  clear h g hl
  go_enter Tryd.func5, Tryd.ntmps5
  go_wp2_with fail
  refine (H1.out _ (HST.out.alloc _)).mono ?_
  rintro e w1 ⟨a, Z, rfl, hz, hm1, f1⟩
  have HM1 := hid hm1
  have HX1 := hid (HX.out.kept f1)
  have hzx : Hid (¬ Z w.heap.size) := fun e => by have := hz _ e; simp at this; omega
  have HO := hid (off_old hm1 HL.out)
  clear f1 c0 c1 hz hm1 H1 HX
  go_wp2_with fail
  refine (HA.out _ HM1.out.nw.fr).mono ?_
  rintro e w2 ⟨rfl, f2⟩
  have HM2 := hid (HM1.out.kept f2)
  have HX2 := hid (HX1.out.kept f2)
  clear f2 HM1 HX1 HA
  have HT := hid fun w0 has (h : Mn w w0 a Z k has) => n_take cap h (HL.out.fr h.nw.fr) HO.out hm
  have HR := hid fun w0 has (h : Mn w w0 a Z k has) => n_free cap h (HL.out.fr h.nw.fr) HO.out hm
  clear HL HO hm
  have hfr : frI k (List.replicate n false) l ≤ n := by have := cnt_le (meant k (List.replicate n false) l) (List.replicate n false).length; simpa [frI] using this
  have hlen : (List.replicate n false).length = n := by simp
  generalize List.replicate n false = has0 at *
  go_wp2_with fail
  refine (HR.out _ _ HM2.out).mono ?_
  rintro e w3 ⟨rfl, hm3, f3⟩
  have HM3 := hid hm3
  have HX3 := hid (HX2.out.kept f3)
  clear hm3 f3 HM2 HX2
  have HF0 : Hid (frI k has0 l = frI k has0 l) := rfl
  generalize hN : frI k has0 l = N at hfr ⊢
  have HNN := hid hN
  clear hN HF0
  go_wp2
  go_loopw [8, 32] (fun x i wr => ∃ (j : Nat) (last : Int) (has : List Bool), j ≤ N ∧ i = .int .i64 j ∧ x = .int .i64 last ∧ Hid (-1 ≤ last ∧ last < n ∧ has.length = n ∧ frI k has l + j = N ∧ (∀ i : Nat, (i : Int) ≤ last → meant k has l i = false)) ∧ Hid (Mn w wr a Z k has) ∧ Hid (Cf wr w.heap.size n k)) (fun _ i _ => N - (intOf i).toNat)
  case atStart => exact ⟨0, -1, has0, by omega, rfl, rfl, ⟨by omega, by omega, hlen, by rw [HNN.out]; rfl, fun i hi => by omega⟩, HM3, HX3⟩
  case round =>
    obtain ⟨j, last, has, hj, rfl, rfl, HI, HM, HX⟩ := hrel
    clear HM3 HX3
    obtain ⟨i1, i2, i3, i4, i5⟩ := HI.out
    by_cases hlt : j < N
    · obtain ⟨p, p1, p2, p3, p4, p5, p6, p7, p8⟩ := take_yes (k := k) (has := has) (l := l) (by omega)
      have pl : last < (p : Int) := by
        by_cases e : (p : Int) ≤ last
        · rw [i5 p e] at p2; cases p2
        · omega
      have hpn : p < n := by omega
      have hnl : (takS k has l).length = n := by rw [takS_length]; exact i3
      have HI2 : Hid (-1 ≤ (p : Int) ∧ (p : Int) < n ∧ (takS k has l).length = n ∧ frI k (takS k has l) l + (j + 1) = N ∧ (∀ i : Nat, (i : Int) ≤ (p : Int) → meant k (takS k has l) l i = false)) := ⟨by omega, by omega, hnl, by omega, fun i hi => p8 i (by omega)⟩
      have HTK := hid fun w0 (h : Mn w w0 a Z k (takS k has l)) => n_taken h p
      have HT2 := hid fun w0 (h : Mn w w0 a Z k has) => HT.out w0 has h
      rw [p3, p4] at HT2
      rw [p6] at HTK
      clear HI i5 p2 p3 p4 p5 p6 p7 p8 hnl i3 i4 HT HR p1
      generalize takS k has l = has' at *
      go_wp2_with fail
      refine (HT2.out _ HM.out).mono ?_
      rintro e w4 ⟨rfl, hm4, f4⟩
      have HM4 := hid hm4
      have HX4 := hid (HX.out.carry f4 hzx.out)
      clear hm4 f4 HM HX HT2
      have c0 := HX4.out.c0
      go_wp2_with fail
      refine (HTK.out _ HM4.out).mono ?_
      rintro e w5 ⟨rfl, hm5, f5⟩
      have HM5 := hid hm5
      have HX5 := hid (HX4.out.kept f5)
      clear hm5 f5 HM4 HX4 HTK c0
      go_wp2
      go_roundw
      case rel => exact ⟨j + 1, p, has', by omega, by go_num, rfl, HI2, HM5, HX5⟩
      case measure => simp [intOf]; omega
    · have hj2 : j = N := by omega
      subst hj2
      obtain ⟨q1, q2, q3⟩ := take_no (k := k) (has := has) (l := l) (by omega)
      have hf0 : frI k has l = 0 := by omega
      have HT2 := hid fun w0 (h : Mn w w0 a Z k has) => HT.out w0 has h
      have HR2 := hid fun w0 (h : Mn w w0 a Z k has) => HR.out w0 has h
      rw [q1, q2, q3] at HT2
      rw [hf0] at HR2
      clear HI i5 i4 i3 q1 q2 q3 hf0 HT HR
      go_wp2_with fail
      refine (HT2.out _ HM.out).mono ?_
      rintro e w4 ⟨rfl, hm4, f4⟩
      have HM4 := hid hm4
      clear hm4 f4 HM HX HT2
      go_wp2_with fail
      refine (HR2.out _ HM4.out).mono ?_
      rintro e w5 ⟨rfl, hm5, f5⟩
      have HM5 := hid hm5
      clear hm5 f5 HM4 HR2
      go_wp2
      go_ret
      exact ⟨by simp, HM5.out.nw.fr⟩
theorem all_walk (n k : Int) (v : Value) (w : World) (g : Gr w) (h : ∃ ad cap l, v = .slice ad (List.length l) cap ∧ NumsAt w ad l ∧ l.length ≤ maxLen) : Calls Tryd.prog 5 #[.agg #[.int .i64 n, .int .i64 k], v] w fun e w' => e = .returned (.bool true) ∧ Fr (fun _ => False) w w' := by
  obtain ⟨ad, cap, l, rfl, g1, g2⟩ := h
  by_cases hc : Cfg n k
  · obtain ⟨n, rfl⟩ : ∃ m : Nat, n = (m : Int) := ⟨n.toNat, by unfold Cfg at hc; omega⟩
    obtain ⟨k, rfl⟩ : ∃ m : Nat, k = (m : Int) := ⟨k.toNat, by unfold Cfg at hc; omega⟩
    by_cases h2 : 100 < l.length
    · exact all_long hc ad l cap h2 (by simp only [maxLen] at g2; omega) w g
    · exact all_loop hc ad l cap h2 w g1 g
  · exact all_no hc _ w g
end Go.Proofs.YtcekpaicccmhkaaDoor
