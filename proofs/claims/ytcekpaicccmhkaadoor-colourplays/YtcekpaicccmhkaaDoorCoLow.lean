/-
  What is taken is the lowest free page of the window's colours: the walk of the law ColourLow.
-/
import Derived.Test.YtcekpaicccmhkaaDoorCoAll
import Derived.Test.YtcekpaicccmhkaaDoorCoApp
namespace Go.Proofs.YtcekpaicccmhkaaDoor
open Go.RowKit

section
variable {W w w' : World} {a k : Nat} {Z : Nat → Prop} {has : List Bool} {o : Obj}
theorem clone_on (h : Mn W w a Z k has) (f : Fr (fun i => i = w.heap.size) (w.alloc o) w') : Mn W w' a Z k has :=
  ⟨(h.alloc o).m.carry f (fun i hi e => by subst e; exact h.new hi) (fun e => by have := h.nw.pos; have := h.nw.le; omega), h.z, (h.alloc o).nw.on f (fun i e => by subst e; exact h.nw.le)⟩
theorem clone_off (h : Mn W w a Z k has) {g : Nat} (hg : g = w.heap.size ∨ (w.alloc o).heap.size ≤ g) (l : List Int) : Off Z (some ⟨g, 0, none⟩) l := fun b off e _ hz => by
  simp only [Option.some.injEq, Addr.mk.injEq] at e
  have := h.m.zlt b hz
  have e1 := e.1
  rcases hg with hg | hg
  · omega
  · simp at hg; omega
theorem clone_cf {B : Nat} {n k : Int} (h : Cf w B n k) (f : Fr (fun i => i = w.heap.size) (w.alloc o) w') : Cf w' B n k := (h.alloc o).carry f (fun e => by have := h.lt; omega)
end
theorem meant_no_in {k : Nat} {has : List Bool} {l : List Int} {j : Nat} (hj : j < has.length) (h : meant k has l j = false) (hi : inW k l j = true) : isT has (j : Int) = true := by
  unfold meant at h
  rw [hi, Bool.and_true] at h
  unfold isT
  simp [List.getD, hj] at h ⊢
  exact h
theorem meant_in {k : Nat} {has : List Bool} {l : List Int} {j : Nat} (h : meant k has l j = true) : inW k l j = true := by
  unfold meant at h; rw [Bool.and_eq_true] at h; exact h.2
/-- The document's map with nothing but its configuration. -/
structure Mp (w : World) (r n k : Nat) : Prop where
  heap : w.heap[r]? = some (.cells #[.int .i64 (n : Int), .int .i64 (k : Int), .slice none 0 0] 55 (0, 0))
theorem Mp.c1 {w : World} {r n k : Nat} (h : Mp w r n k) : w.cell? ⟨r, 1, none⟩ = some (.int .i64 (k : Int)) := by simp [World.cell?, h.heap]
theorem Mp.kept {w w' : World} {r n k : Nat} (h : Mp w r n k) (f : Fr (fun _ => False) w w') : Mp w' r n k := ⟨by rw [f.block r (Array.getElem?_eq_some_iff.1 h.heap).1 id]; exact h.heap⟩
theorem isT_set {has : List Bool} {j p : Nat} (h : isT has (j : Int) = true) : isT (has.set p true) (j : Int) = true := by
  unfold isT at h ⊢
  simp only [List.length_set, Int.toNat_natCast, List.getD, List.getElem?_set, Bool.and_eq_true, decide_eq_true_eq] at h ⊢
  refine ⟨h.1, ?_⟩
  by_cases e : p = j
  · subst e; have : p < has.length := by omega
    simp [this]
  · simp only [e, if_false]; exact h.2
set_option maxRecDepth 20000 in
theorem low_no {n k : Int} (h : ¬ Cfg n k) (v1 v2 : Value) (w : World) (g : Gr w) : Calls Tryd.prog 7 #[.agg #[.int .i64 n, .int .i64 k], v1, v2] w fun e w' => e = .returned (.bool true) ∧ Fr (fun _ => False) w w' := by
  have H1 := hid fun w => c_new_no h w
  have HA := hid fun w0 (f : Fr (fun _ => False) w w0) => awake_f w0 (g.fr f)
  have A := Cf.new w n k
  have c0 := A.c0
  have c1 := A.c1
  clear A h g
  go_enter Tryd.func7, Tryd.ntmps7
  go_wp2_with fail
  refine (H1.out _).mono ?_
  rintro e w1 ⟨rfl, f1⟩
  have HF1 := hid (((Fr.refl (fun _ => False) w).alloc _).trans f1)
  clear f1 c0 c1
  go_wp2_with fail
  refine (HA.out _ HF1.out).mono ?_
  rintro e w2 ⟨rfl, f2⟩
  have HF2 := hid (HF1.out.trans f2)
  clear f2 HF1
  go_wp2_with fail
  refine (HA.out _ HF2.out).mono ?_
  rintro e w3 ⟨rfl, f3⟩
  have HF3 := hid (HF2.out.trans f3)
  clear f3 HF2
  go_wp2
  go_ret
  exact ⟨by simp, HF3.out⟩
set_option maxRecDepth 20000 in
theorem low_long {n k : Nat} (h : Cfg n k) (ad1 : Option Addr) (t : List Int) (cap1 : Nat) (ad : Option Addr) (l : List Int) (cap : Nat) (hbig : 600 < t.length ∨ 100 < l.length ∨ 1024 < n) (ht : t.length ≤ 9223372036854775807) (hl : l.length ≤ 9223372036854775807) (w : World) (g : Gr w) : Calls Tryd.prog 7 #[.agg #[.int .i64 (n : Int), .int .i64 (k : Int)], .slice ad1 t.length cap1, .slice ad l.length cap] w fun e w' => e = .returned (.bool true) ∧ Fr (fun _ => False) w w' := by
  have HST := hid (Nw.start w g.pos)
  have H1 := hid fun w0 (nw : Nw w w0) => n_new h nw g
  have HA := hid fun w0 (f : Fr (fun _ => False) w w0) => awake_f w0 (g.fr f)
  have HX := hid (Cf.new w n k)
  have c0 := HX.out.c0
  have c1 := HX.out.c1
  have hn : n ≤ 4096 := by unfold Cfg at h; omega
  clear h g
  by_cases b1 : 600 < t.length
  · clear hbig
    go_enter Tryd.func7, Tryd.ntmps7
    go_wp2_with fail
    refine (H1.out _ (HST.out.alloc _)).mono ?_
    rintro e w1 ⟨a, Z, rfl, hz, hm, f1⟩
    have HF1 := hid hm.nw.fr
    have HX1 := hid (HX.out.kept f1)
    clear f1 c0 c1 hz hm HX
    go_wp2_with fail
    refine (HA.out _ HF1.out).mono ?_
    rintro e w2 ⟨rfl, f2⟩
    have HF2 := hid (HF1.out.trans f2)
    have c0 := (HX1.out.kept f2).c0
    clear f2 HF1 HX1
    go_wp2_with fail
    refine (HA.out _ HF2.out).mono ?_
    rintro e w3 ⟨rfl, f3⟩
    have HF3 := hid (HF2.out.trans f3)
    clear f3 HF2 c0
    go_wp2
    go_ret
    exact ⟨by simp, HF3.out⟩
  · by_cases b2 : 100 < l.length
    · clear hbig
      go_enter Tryd.func7, Tryd.ntmps7
      go_wp2_with fail
      refine (H1.out _ (HST.out.alloc _)).mono ?_
      rintro e w1 ⟨a, Z, rfl, hz, hm, f1⟩
      have HF1 := hid hm.nw.fr
      have HX1 := hid (HX.out.kept f1)
      clear f1 c0 c1 hz hm HX
      go_wp2_with fail
      refine (HA.out _ HF1.out).mono ?_
      rintro e w2 ⟨rfl, f2⟩
      have HF2 := hid (HF1.out.trans f2)
      have c0 := (HX1.out.kept f2).c0
      clear f2 HF1 HX1
      go_wp2_with fail
      refine (HA.out _ HF2.out).mono ?_
      rintro e w3 ⟨rfl, f3⟩
      have HF3 := hid (HF2.out.trans f3)
      clear f3 HF2 c0
      go_wp2
      go_ret
      exact ⟨by simp, HF3.out⟩
    · have b3 : 1024 < n := by omega
      clear hbig
      go_enter Tryd.func7, Tryd.ntmps7
      go_wp2_with fail
      refine (H1.out _ (HST.out.alloc _)).mono ?_
      rintro e w1 ⟨a, Z, rfl, hz, hm, f1⟩
      have HF1 := hid hm.nw.fr
      have HX1 := hid (HX.out.kept f1)
      clear f1 c0 c1 hz hm HX
      go_wp2_with fail
      refine (HA.out _ HF1.out).mono ?_
      rintro e w2 ⟨rfl, f2⟩
      have HF2 := hid (HF1.out.trans f2)
      have c0 := (HX1.out.kept f2).c0
      clear f2 HF1 HX1
      go_wp2_with fail
      refine (HA.out _ HF2.out).mono ?_
      rintro e w3 ⟨rfl, f3⟩
      have HF3 := hid (HF2.out.trans f3)
      clear f3 HF2 c0
      go_wp2
      go_ret
      exact ⟨by simp, HF3.out⟩
set_option maxRecDepth 20000 in
set_option maxHeartbeats 1000000 in
theorem low_loop {n k : Nat} (h : Cfg n k) (ad1 : Option Addr) (t : List Int) (cap1 : Nat) (ad : Option Addr) (l : List Int) (cap : Nat) (h1 : ¬ 600 < t.length) (h2 : ¬ 100 < l.length) (h3 : ¬ 1024 < n) (w : World) (ht : NumsAt w ad1 t) (hl : NumsAt w ad l) (g : Gr w) : Calls Tryd.prog 7 #[.agg #[.int .i64 (n : Int), .int .i64 (k : Int)], .slice ad1 t.length cap1, .slice ad l.length cap] w fun e w' => e = .returned (.bool true) ∧ Fr (fun _ => False) w w' := by
  have HST := hid (Nw.start w g.pos)
  have H1 := hid fun w0 (nw : Nw w w0) => n_new h nw g
  have HA := hid fun w0 (f : Fr (fun _ => False) w w0) => awake_f w0 (g.fr f)
  have HX := hid (Cf.new w n k)
  have c0 := HX.out.c0
  have c1 := HX.out.c1
  have HLT := hid ht
  have HL := hid hl
  have HCF := hid h
  clear h g hl ht
  go_enter Tryd.func7, Tryd.ntmps7
  go_wp2_with fail
  refine (H1.out _ (HST.out.alloc _)).mono ?_
  rintro e w1 ⟨a, Z, rfl, hz, hm1, f1⟩
  have HM1 := hid hm1
  have HX1 := hid (HX.out.kept f1)
  have hzx : Hid (¬ Z w.heap.size) := fun e => by have := hz _ e; simp at this; omega
  clear f1 c0 c1 hz hm1 H1 HX
  go_wp2_with fail
  refine (HA.out _ HM1.out.nw.fr).mono ?_
  rintro e w2 ⟨rfl, f2⟩
  have HM2 := hid (HM1.out.kept f2)
  have HX2 := hid (HX1.out.kept f2)
  clear f2 HM1 HX1 HA
  have c0 := HX2.out.c0
  go_wp2
  clear c0
  go_loopw [41] (fun i wr => ∃ (j : Nat) (has : List Bool), j ≤ t.length ∧ i = .int .i64 j ∧ Hid (has.length = n) ∧ Hid (Mn w wr a Z k has) ∧ Hid (Cf wr w.heap.size n k)) (fun i _ => t.length - (intOf i).toNat)
  case atStart => exact ⟨0, _, by omega, rfl, by show _ = _; simp, HM2, HX2⟩
  case round =>
    obtain ⟨j, has, hj, rfl, HN, HM, HX⟩ := hrel
    clear HM2 HX2
    by_cases hlt : j < t.length
    · have HE := hid (heap_alloc_new wr (.cells #[] 3))
      have HL1 := hid ((HLT.out.fr HM.out.nw.fr).fr ((Fr.refl _ _).alloc (.cells #[] 3)))
      clear HL HLT
      go_wp2_with (at_builtin; refine wpList_clone rfl (.tmp 44) (.tmp 45) rfl HE.out cap1 rfl rfl HL1.out (by omega) ?_; intro g1 cp1 w3 n3 f3 h3; have HM3 := hid (clone_on HM.out f3); have HX3 := hid (clone_cf HX.out f3); have HT := hid (n_take cp1 HM3.out n3 (clone_off HM.out h3 t) (by simp only [maxLen]; omega)); clear f3 n3 h3)
      have HN2 : Hid ((takS k has t).length = n) := by show _ = _; rw [takS_length]; exact HN.out
      generalize takS k has t = has' at *
      refine HT.out.mono ?_
      rintro e w4 ⟨rfl, hm4, f4⟩
      have HM4 := hid hm4
      have HX4 := hid (HX3.out.carry f4 hzx.out)
      clear hm4 f4 HT HM3 HX3 HM HX HE HL1
      go_wp2
      go_roundw
      case rel => exact ⟨j + 1, has', by omega, by go_num, HN2, HM4, HX4⟩
      case measure => simp [intOf]; omega
    · have hj2 : j = t.length := by omega
      subst hj2
      have HE := hid (heap_alloc_new wr (.cells #[] 3))
      have HL1 := hid ((HL.out.fr HM.out.nw.fr).fr ((Fr.refl _ _).alloc (.cells #[] 3)))
      clear HLT hj hlt
      go_wp2_with (at_builtin; refine wpList_clone rfl (.tmp 51) (.tmp 52) rfl HE.out cap rfl rfl HL1.out (by omega) ?_; intro g1 cp1 w3 n3 f3 h3; have HM3 := hid (clone_on HM.out f3); have HX3 := hid (clone_cf HX.out f3); have HT := hid (n_take cp1 HM3.out n3 (clone_off HM.out h3 l) (by simp only [maxLen]; omega)); clear f3 n3 h3)
      clear HM HX HE HL1
      by_cases hfr : 0 < frI k has l
      · obtain ⟨p, p1, p2, p3, p4, p5, p6, p7, p8⟩ := take_yes hfr
        have hk := HCF.out
        unfold Cfg at hk
        have hin := hid (meant_in p2)
        have hlow := hid fun (j : Nat) (hj : j < p) (hi : inW k l j = true) => show isT (takS k has l) (j : Int) = true by
          have hj2 : j < (takS k has l).length := by rw [takS_length]; omega
          exact meant_no_in hj2 (p8 j (by omega)) hi
        have hpn : p < n := by have := HN.out; omega
        have HP6 := hid p6
        rw [p3, p4] at HT
        generalize takS k has l = has' at *
        clear p1 p2 p3 p4 p5 p6 p7 p8 hfr HN
        refine HT.out.mono ?_
        rintro e w4 ⟨rfl, hm4, f4⟩
        have HX4 := HX3.out.carry f4 hzx.out
        have c0 := HX4.c0
        have c1 := HX4.c1
        have d0 := (HX4.alloc (.cells #[.int .i64 (n : Int), .int .i64 (k : Int), .slice none 0 0] 55)).c0
        have HM4 := hid (hm4.alloc (.cells #[.int .i64 (n : Int), .int .i64 (k : Int), .slice none 0 0] 55))
        have HP4 : Hid (Mp (w4.alloc (.cells #[.int .i64 (n : Int), .int .i64 (k : Int), .slice none 0 0] 55)) w4.heap.size n k) := ⟨heap_alloc_new _ _⟩
        clear hm4 f4 HT HM3 HX3 HX4
        have HOF := hid fun (q : Nat) (hq : q ≤ 4096) w0 (hm : Mn w w0 a Z k has') (hp : Mp w0 w4.heap.size n k) => e_of (p := q) cap hp.c1 (by omega) (by omega) (by omega) (HL.out.fr hm.nw.fr) (by simp only [maxLen]; omega)
        have HTK := hid fun (q : Nat) w0 (hm : Mn w w0 a Z k has') => n_taken hm q
        clear HL HCF
        go_wp2
        clear c0 c1 d0
        generalize w4.heap.size = r at *
        go_loopw [61] (fun i wr => ∃ (j : Nat), j ≤ p ∧ i = .int .i64 j ∧ Hid (Mn w wr a Z k has') ∧ Hid (Mp wr r n k)) (fun i _ => p - (intOf i).toNat)
        case atStart => exact ⟨0, by omega, rfl, HM4, HP4⟩
        case round =>
          clear HM4 HP4
          obtain ⟨j, hj, rfl, HM, HP⟩ := hrel
          by_cases hjp : j < p
          · have HO2 := hid fun w0 hm hp => HOF.out j (by omega) w0 hm hp
            have HT2 := hid fun w0 hm => HTK.out j w0 hm
            cases hi : inW k l j
            · rw [hi] at HO2
              clear hi HTK HOF HT2
              go_wp2_with fail
              refine (HO2.out _ HM.out HP.out).mono ?_
              rintro e w5 ⟨rfl, f5⟩
              have HM5 := hid (HM.out.kept (frOf f5))
              have HP5 := hid (HP.out.kept (frOf f5))
              clear f5 HM HP HO2
              go_wp2
              go_roundw
              case rel => exact ⟨j + 1, by omega, by go_num, HM5, HP5⟩
              case measure => simp [intOf]; omega
            · rw [hi] at HO2
              rw [hlow.out j hjp hi] at HT2
              clear hi HTK HOF
              go_wp2_with fail
              refine (HO2.out _ HM.out HP.out).mono ?_
              rintro e w5 ⟨rfl, f5⟩
              have HM5 := hid (HM.out.kept (frOf f5))
              have HP5 := hid (HP.out.kept (frOf f5))
              clear f5 HM HP HO2
              go_wp2_with fail
              refine (HT2.out _ HM5.out).mono ?_
              rintro e w6 ⟨rfl, hm6, f6⟩
              have HM6 := hid hm6
              have HP6' := hid (HP5.out.kept f6)
              clear f6 hm6 HM5 HP5 HT2
              go_wp2
              go_roundw
              case rel => exact ⟨j + 1, by omega, by go_num, HM6, HP6'⟩
              case measure => simp [intOf]; omega
          · have hj2 : j = p := by omega
            subst hj2
            have HO2 := hid fun w0 hm hp => HOF.out j (by omega) w0 hm hp
            have HT2 := hid fun w0 hm => HTK.out j w0 hm
            rw [hin.out] at HO2
            rw [HP6.out] at HT2
            clear HTK HOF hin HP6 hlow
            go_wp2_with fail
            refine (HO2.out _ HM.out HP.out).mono ?_
            rintro e w5 ⟨rfl, f5⟩
            have HM5 := hid (HM.out.kept (frOf f5))
            clear f5 HM HP HO2
            go_wp2_with fail
            refine (HT2.out _ HM5.out).mono ?_
            rintro e w6 ⟨rfl, hm6, f6⟩
            have HM6 := hid hm6
            clear f6 hm6 HM5 HT2
            go_wp2
            go_ret
            exact ⟨by simp, HM6.out.nw.fr⟩
      · obtain ⟨q1, q2, q3⟩ := take_no (k := k) (has := has) (l := l) (by omega)
        have hk := HCF.out
        unfold Cfg at hk
        have hlow := hid fun (j : Nat) (hj : j < n) (hi : inW k l j = true) => show isT has (j : Int) = true by
          have hn := HN.out
          have hj2 : j < has.length := by omega
          refine meant_no_in hj2 ?_ hi
          cases hm : meant k has l j
          · rfl
          · exfalso
            have := cnt_less (f := meant k has l) (g := fun i => meant k has l i && decide (i ≠ j)) has.length hj2 hm (by simp) (fun i _ hi => by simp [hi])
            unfold frI at hfr
            omega
        rw [q1, q2, q3] at HT
        clear q1 q2 q3 hfr HN
        refine HT.out.mono ?_
        rintro e w4 ⟨rfl, hm4, f4⟩
        have HX4 := HX3.out.carry f4 hzx.out
        have c0 := HX4.c0
        have c1 := HX4.c1
        have d0 := (HX4.alloc (.cells #[.int .i64 (n : Int), .int .i64 (k : Int), .slice none 0 0] 55)).c0
        have HM4 := hid (hm4.alloc (.cells #[.int .i64 (n : Int), .int .i64 (k : Int), .slice none 0 0] 55))
        have HP4 : Hid (Mp (w4.alloc (.cells #[.int .i64 (n : Int), .int .i64 (k : Int), .slice none 0 0] 55)) w4.heap.size n k) := ⟨heap_alloc_new _ _⟩
        clear hm4 f4 HT HM3 HX3 HX4
        have HOF := hid fun (q : Nat) (hq : q ≤ 4096) w0 (hm : Mn w w0 a Z k has) (hp : Mp w0 w4.heap.size n k) => e_of (p := q) cap hp.c1 (by omega) (by omega) (by omega) (HL.out.fr hm.nw.fr) (by simp only [maxLen]; omega)
        have HTK := hid fun (q : Nat) w0 (hm : Mn w w0 a Z k has) => n_taken hm q
        clear HL HCF
        go_wp2
        clear c0 c1 d0
        generalize w4.heap.size = r at *
        go_loopw [61] (fun i wr => ∃ (j : Nat), j ≤ n ∧ i = .int .i64 j ∧ Hid (Mn w wr a Z k has) ∧ Hid (Mp wr r n k)) (fun i _ => n - (intOf i).toNat)
        case atStart => exact ⟨0, by omega, rfl, HM4, HP4⟩
        case round =>
          clear HM4 HP4
          obtain ⟨j, hj, rfl, HM, HP⟩ := hrel
          by_cases hjp : j < n
          · have HO2 := hid fun w0 hm hp => HOF.out j (by omega) w0 hm hp
            have HT2 := hid fun w0 hm => HTK.out j w0 hm
            cases hi : inW k l j
            · rw [hi] at HO2
              clear hi HTK HOF HT2
              go_wp2_with fail
              refine (HO2.out _ HM.out HP.out).mono ?_
              rintro e w5 ⟨rfl, f5⟩
              have HM5 := hid (HM.out.kept (frOf f5))
              have HP5 := hid (HP.out.kept (frOf f5))
              clear f5 HM HP HO2
              go_wp2
              go_roundw
              case rel => exact ⟨j + 1, by omega, by go_num, HM5, HP5⟩
              case measure => simp [intOf]; omega
            · rw [hi] at HO2
              rw [hlow.out j hjp hi] at HT2
              clear hi HTK HOF
              go_wp2_with fail
              refine (HO2.out _ HM.out HP.out).mono ?_
              rintro e w5 ⟨rfl, f5⟩
              have HM5 := hid (HM.out.kept (frOf f5))
              have HP5 := hid (HP.out.kept (frOf f5))
              clear f5 HM HP HO2
              go_wp2_with fail
              refine (HT2.out _ HM5.out).mono ?_
              rintro e w6 ⟨rfl, hm6, f6⟩
              have HM6 := hid hm6
              have HP6' := hid (HP5.out.kept f6)
              clear f6 hm6 HM5 HP5 HT2
              go_wp2
              go_roundw
              case rel => exact ⟨j + 1, by omega, by go_num, HM6, HP6'⟩
              case measure => simp [intOf]; omega
          · have hj2 : j = n := by omega
            subst hj2
            clear HTK HOF hlow
            go_wp2
            go_ret
            exact ⟨by simp, HM.out.nw.fr⟩
theorem low_walk (n k : Int) (v1 v2 : Value) (w : World) (g : Gr w) (h1 : ∃ ad cap l, v1 = .slice ad (List.length l) cap ∧ NumsAt w ad l ∧ l.length ≤ maxLen) (h2 : ∃ ad cap l, v2 = .slice ad (List.length l) cap ∧ NumsAt w ad l ∧ l.length ≤ maxLen) : Calls Tryd.prog 7 #[.agg #[.int .i64 n, .int .i64 k], v1, v2] w fun e w' => e = .returned (.bool true) ∧ Fr (fun _ => False) w w' := by
  obtain ⟨ad1, cap1, t, rfl, g1, g2⟩ := h1
  obtain ⟨ad, cap, l, rfl, g3, g4⟩ := h2
  by_cases hc : Cfg n k
  · obtain ⟨n, rfl⟩ : ∃ m : Nat, n = (m : Int) := ⟨n.toNat, by unfold Cfg at hc; omega⟩
    obtain ⟨k, rfl⟩ : ∃ m : Nat, k = (m : Int) := ⟨k.toNat, by unfold Cfg at hc; omega⟩
    by_cases hb : 600 < t.length ∨ 100 < l.length ∨ 1024 < n
    · exact low_long hc ad1 t cap1 ad l cap hb (by simp only [maxLen] at g2; omega) (by simp only [maxLen] at g4; omega) w g
    · exact low_loop hc ad1 t cap1 ad l cap (fun e => hb (.inl e)) (fun e => hb (.inr (.inl e))) (fun e => hb (.inr (.inr e))) w g1 g3 g
  · exact low_no hc _ _ w g
end Go.Proofs.YtcekpaicccmhkaaDoor
