/-
  Shrink, Drop, Copy: and so all calls of package pool.
-/
import Derived.Test.YthamfljooapkoaaDoorPoCallsC
import Derived.Deep.RegionLaw
namespace Go.Proofs.YthamfljooapkoaaDoor
open Go.RowKit

/-- 'l[:k]' of a row of the call's own. -/
theorem run_cut {w : World} {base : Nat} {v : Value} {l : List Int} (h : w.ownsRow base 3 1 v l.length (ic l)) {k : Nat} (hk : k ≤ l.length) :
    ∃ ad cap, (∀ w, (Instr.slice 34 v none (some (.int .i64 (k : Int))) none).run Tryd.prog w = .ok (.slice ad k cap) w) ∧ w.ownsRow base 3 1 (.slice ad k cap) k (ic (l.take k)) ∧ (Value.slice ad k cap).ownBlock = v.ownBlock := by
  obtain ⟨i0, hi, hz0, hz1, hz2⟩ := info_parts Tryd.infoInt
  rcases h.2 with ⟨rfl, h2⟩ | ⟨g, cap, cur, rfl, hb, hc, h3, h4, h5, h6⟩
  · obtain rfl : k = 0 := by omega
    refine ⟨none, 0, fun w => ?_, ?_, rfl⟩
    · simp [Instr.slice, Instr.sliceBounds, Instr.sliceBound, asIntOf, run_underlying Tryd.underlying34, sizeOf, typeInfo, hi]
    · rw [List.take_zero]; exact World.ownsRow_nil _ _ _ _
  · have hb2 : (0 : Int) ≤ (k : Int) ∧ (k : Int) ≤ (cap : Int) := by omega
    refine ⟨some ⟨g, 0, none⟩, cap, fun w => ?_, ⟨by rw [ic_length, List.length_take]; omega, .inr ⟨g, cap, cur, rfl, hb, hc, by omega, h4, h5, ?_⟩⟩, rfl⟩
    · have hk2 : k ≤ cap := by omega
      by_cases h0 : cap = 0
      · obtain rfl : k = 0 := by omega
        simp [Instr.slice, Instr.sliceBounds, Instr.sliceBound, asIntOf, run_underlying Tryd.underlying34, sizeOf, typeInfo, hi, h0]
      · simp [Instr.slice, Instr.sliceBounds, Instr.sliceBound, asIntOf, run_underlying Tryd.underlying34, sizeOf, typeInfo, hi, hb2, hk2, h0, add_plain]
    · rw [Nat.mul_one] at h6 ⊢
      rw [show ic (l.take k) = (ic l).take k by simp [ic, List.map_take], ← h6, List.take_take, Nat.min_eq_left hk]
/-- A window out of all eight. -/
theorem ix_any (V : Nat → Value) {j : Nat} (hj : j < 8) (w : World) : (Instr.index 51 (.agg #[V 0, V 1, V 2, V 3, V 4, V 5, V 6, V 7]) (.int .i64 (j : Int))).run Tryd.prog w = .ok (V j) w := by
  have h8 : j = 0 ∨ j = 1 ∨ j = 2 ∨ j = 3 ∨ j = 4 ∨ j = 5 ∨ j = 6 ∨ j = 7 := by omega
  rcases h8 with rfl | rfl | rfl | rfl | rfl | rfl | rfl | rfl <;> simp [Instr.index, asIntOf, run_underlying Tryd.underlying51, Tryd.sizeOf34, part]
section
variable {w w' : World} {a : Nat} {Z : Nat → Prop} {own : List Int}
theorem shL_none {o k : Int} (h : ¬ ((Ow o ∧ 0 ≤ k) ∧ k ≤ (wN own o).length)) : shL own o k = [] := if_neg h
theorem shS_none {o k : Int} (h : ¬ ((Ow o ∧ 0 ≤ k) ∧ k ≤ (wN own o).length)) : shS own o k = own := by unfold shS; rw [shL_none h]; rfl
set_option maxHeartbeats 1000000 in
theorem shrink_no (h : Pm w a Z own) {o k : Int} (hn : ¬ ((Ow o ∧ 0 ≤ k) ∧ k ≤ (wN own o).length)) : Calls Tryd.prog 19 #[.pointer (some ⟨a, 0, none⟩), .int .i64 o, .int .i64 k] w fun e w' => e = .returned (.tuple #[.slice none 0 0, .int .i64 12]) ∧ w' = w := by
  have HM := hid (own_any o w)
  by_cases ho : Ow o
  · rw [decide_eq_true ho] at HM
    by_cases hk : k < 0
    · clear h hn ho
      go_enter Tryd.func19, Tryd.ntmps19
      go_wp2_with (go_at_call 24; refine HM.out.mono ?_; rintro e w1 ⟨rfl, hw⟩; obtain rfl := hw.symm; clear hw)
      go_ret2
      exact ⟨by simp, rfl⟩
    · obtain ⟨n, rfl⟩ : ∃ n : Nat, o = n := ⟨o.toNat, by unfold Ow at ho; omega⟩
      have h8 : n < 8 := by unfold Ow at ho; omega
      have hf : ((wN own n).length : Int) < k := by
        have : ¬ k ≤ (wN own n).length := fun e => hn ⟨⟨ho, by omega⟩, e⟩
        omega
      obtain ⟨sa, sb, V, h1, h2, h3, h4⟩ := h
      have cv := h1.cv h8
      have hr := h1.row n h8
      rw [← nI_length] at hr
      obtain ⟨ad, cap, e2, _⟩ := nums_of hr
      rw [e2, nI_length] at cv
      generalize (wN own n).length = q at *
      clear h1 h2 h3 h4 hr e2 hn ho
      go_enter Tryd.func19, Tryd.ntmps19
      go_wp2_with (go_at_call 24; refine HM.out.mono ?_; rintro e w1 ⟨rfl, hw⟩; obtain rfl := hw.symm; clear hw)
      go_ret2
      exact ⟨by simp, rfl⟩
  · rw [decide_eq_false ho] at HM
    clear h hn ho
    go_enter Tryd.func19, Tryd.ntmps19
    go_wp2_with (go_at_call 24; refine HM.out.mono ?_; rintro e w1 ⟨rfl, hw⟩; obtain rfl := hw.symm; clear hw)
    go_ret2
    exact ⟨by simp, rfl⟩
set_option maxHeartbeats 1000000 in
theorem shrink_ok (h : Pm w a Z own) {o k : Nat} (ho : o < 8) (hk : k ≤ (wN own o).length) : Calls Tryd.prog 19 #[.pointer (some ⟨a, 0, none⟩), .int .i64 (o : Int), .int .i64 (k : Int)] w fun e w' => ∃ Z', LsK w w' Z' (nI ((wN own o).drop k)) 0 e ∧ Pm w' a Z' (setAll own ((wN own o).drop k) (-1)) ∧ (∀ i, Z' i → Z i ∨ w.heap.size ≤ i) ∧ Fr Z w w' := by
  have HM := hid (own_any o w)
  rw [decide_eq_true (show Ow (o : Int) from ⟨by omega, by omega⟩)] at HM
  obtain ⟨sa, sb, V, h1, h2, h3, h4⟩ := h
  have HO2 := hid h2
  have HZ := hid h3
  have HZ4 := hid h4
  have HP := hid h1
  have HK := hid hk
  have cv := h1.cv ho
  have hr := h1.row o ho
  rw [← nI_length] at hr
  obtain ⟨ad, cap, e2, hn⟩ := nums_of hr
  have hnc : (nI (wN own o)).length ≤ cap := by
    rcases hr.2 with ⟨e3, e4⟩ | ⟨g, cap2, cur, e3, _, _, h5, _⟩
    · rw [e4]; omega
    · rw [e2] at e3; cases e3; exact h5
  obtain ⟨tad, tcap, ht1, ht2⟩ := run_tail ad (nI (wN own o)).length cap k (by rw [nI_length]; exact hk) hnc
  have htn := ht2 w (nI (wN own o)) rfl hn
  have e5 : (nI (wN own o)).drop k = nI ((wN own o).drop k) := by simp [nI, List.map_drop]
  have e6 : (nI (wN own o)).length - k = (nI ((wN own o).drop k)).length := by rw [← e5, List.length_drop]
  rw [e5] at htn
  have H1 := hid (cl_any tcap htn (by rw [nI_length, List.length_drop]; have := wN_le own o; have := h2.most; omega))
  rw [← e6] at H1
  have hr2 := hr
  rw [e2] at cv hr2
  obtain ⟨cad, ccap, hc1, hc2, hc3⟩ := run_cut hr2 (by rw [nI_length]; exact hk)
  have HC := hid (And.intro hc2 hc3)
  have hq : (nI (wN own o)).length = (wN own o).length := nI_length _
  have HE6 := hid e6
  have HV := hid e2
  clear h1 h2 h3 h4 hr hr2 hn htn ht2 hc2 hc3 e5 e6 e2
  generalize (nI (wN own o)).length = q at *
  have hlt : ¬ (q : Int) < (k : Int) := by omega
  have HQ := hid hq
  clear hq hk hnc
  go_enter Tryd.func19, Tryd.ntmps19
  go_wp2_with (go_at_call 24; refine HM.out.mono ?_; rintro e w1 ⟨rfl, hw⟩; obtain rfl := hw.symm; clear hw)
  refine H1.out.mono ?_
  rintro e w1 ⟨⟨v, rfl, hv⟩, f1⟩
  rw [HE6.out] at hv
  obtain ⟨vad, vcap, hve, hvn, hnew⟩ := row_list hv
  rw [← HE6.out] at hve
  subst hve
  have HVN := hid hvn
  have HNW := hid hnew
  have HF1 := hid f1
  have HP1 := hid (HP.out.kept f1)
  have c1 : w1.cell? ⟨a, 1 + o, none⟩ = some (.slice ad q cap) := by rw [← HV.out]; exact HP1.out.cv ho
  have z1 := HP1.out.fz (1 + o)
  have HQ3 := hid (HP1.out.put ho (w1 := w1) (Fr.refl _ _) (v := .slice cad k ccap) (l := (wN own o).take k) (by
    have e7 : (ic ((nI (wN own o)).take k)) = ic (nI ((wN own o).take k)) := by simp [nI, List.map_take]
    have e8 : ((wN own o).take k).length = k := by rw [List.length_take]; have := HK.out; omega
    rw [e8, ← e7]
    exact own_carry HC.out.1 HF1.out (fun _ _ => id)) (fun x hx => .inl (by rw [HV.out, ← HC.out.2]; exact hx)))
  clear hv hvn hnew f1 cv
  have hsz := HF1.out.size
  have hlow : ∀ x, Blk a sa sb V x → x < w.heap.size := fun x hx => (HP.out.low hx).2
  have HLO := hid hlow
  have HVO : Hid (∀ x, (V o).ownBlock = some x → x < w.heap.size) := fun x hx => hlow x (.inr (.inr (.inr ⟨o, ho, hx⟩)))
  clear hlow
  have HN2 : Hid (NumsAt ((w1.setCell ⟨a, 1 + o, none⟩ (.slice cad k ccap)).drew) vad (nI ((wN own o).drop k))) := HVN.out.carry HQ3.out.2.drew (by
    rintro b off e _ (e2 | e2)
    · have := HNW.out b off e; have := HLO.out a (.inl rfl); omega
    · have := HNW.out b off e; have := HVO.out b e2; omega)
  have HG := hid (give_any (l := (wN own o).drop k) vcap (HQ3.out.1.kept (Fr.refl _ _).drew) HN2.out (by
    intro b off e _ e2
    have := HNW.out b off e; have := HLO.out sb (.inr (.inr (.inl rfl))); omega) (fun x hx => wN_lt ((mem_parts k x).2 (.inr hx))) (by rw [List.length_drop]; have := wN_le own o; have := HO2.out.most; omega))
  have e9 : ((wN own o).drop k).length = q - k := by rw [HE6.out, nI_length]
  rw [e9] at HG
  clear e9
  go_wp2
  go_region
  go_wp2_with fail
  refine HG.out.mono ?_
  rintro e w3 ⟨rfl, hp3, f3⟩
  have HP3 := hid hp3
  have HF3 := hid f3
  clear hp3 f3
  go_wp2
  go_ret2
  have f13 := HQ3.out.2.drew
  have hZ : ∀ i, Blk a sa sb (upd V o (.slice cad k ccap)) i → Blk a sa sb V i := by
    rintro i (e | e | e | ⟨p, hp, e⟩)
    · exact .inl e
    · exact .inr (.inl e)
    · exact .inr (.inr (.inl e))
    · by_cases e2 : p = o
      · subst e2
        rw [upd_same, HC.out.2, ← HV.out] at e
        exact .inr (.inr (.inr ⟨p, hp, e⟩))
      · rw [upd_else _ _ e2] at e
        exact .inr (.inr (.inr ⟨p, hp, e⟩))
  have hsL : shL own o k = (wN own o).drop k := if_pos ⟨⟨⟨by omega, by omega⟩, by omega⟩, by have := HK.out; omega⟩
  have hO := shS_own HO2.out (o : Int) (k : Int)
  have hkl := kept_low (own := own) (o := (o : Int)) (k := k) ⟨by omega, by omega⟩ HK.out
  unfold shS at hO hkl
  rw [hsL] at hO hkl
  refine ⟨Blk a sa sb (upd V o (.slice cad k ccap)), ⟨vad, vcap, by rw [← HE6.out]; simp, ⟨?_, ?_⟩, HNW.out⟩, ⟨sa, sb, _, HP3.out.congr ?_, hO, fun _ h => h, fun x hx => (HP3.out.low hx).2⟩, fun i hi => .inl (HZ.out i (hZ i hi)), ?_⟩
  · refine HN2.out.carry HF3.out ?_
    intro b off e _ e2
    have := HNW.out b off e; have := HLO.out sb (.inr (.inr (.inl rfl))); omega
  · intro b off e _ hb
    have := HNW.out b off e; have := HLO.out b (hZ b hb); omega
  · intro i hi
    by_cases e2 : i = o
    · subst e2; rw [upd_same]; exact hkl.symm
    · rw [upd_else _ _ e2]; exact (sh_other k (by omega) (by omega)).symm
  · refine Fr.trans' ((HF1.out.mono fun _ _ e => e.elim).trans' f13 ?_) HF3.out ?_
    · rintro i _ (e2 | e2)
      · exact HZ.out i (.inl e2)
      · exact HZ.out i (.inr (.inr (.inr ⟨o, ho, e2⟩)))
    · exact fun i _ e => HZ.out i (.inr (.inr (.inl e)))
theorem p_shrink (h : Pm w a Z own) (o k : Int) : Calls Tryd.prog 19 #[.pointer (some ⟨a, 0, none⟩), .int .i64 o, .int .i64 k] w fun e w' => ∃ Z', LsK w w' Z' (nI (shL own o k)) (shE own o k) e ∧ Pm w' a Z' (shS own o k) ∧ (∀ i, Z' i → Z i ∨ w.heap.size ≤ i) ∧ Fr Z w w' := by
  by_cases h1 : (Ow o ∧ 0 ≤ k) ∧ k ≤ (wN own o).length
  · have e1 : shL own o k = (wN own o).drop k.toNat := if_pos h1
    have e2 : shE own o k = 0 := if_pos h1
    obtain ⟨⟨⟨h3, h4⟩, h5⟩, h6⟩ := h1
    obtain ⟨n, rfl⟩ : ∃ n : Nat, o = n := ⟨o.toNat, by omega⟩
    obtain ⟨m, rfl⟩ : ∃ m : Nat, k = m := ⟨k.toNat, by omega⟩
    rw [Int.toNat_natCast] at e1
    unfold shS
    rw [e1, e2]
    exact shrink_ok h (by omega) (by omega)
  · have e2 : shE own o k = 12 := if_neg h1
    rw [shL_none h1, shS_none h1, e2]
    refine (shrink_no h h1).mono ?_
    rintro e w1 ⟨rfl, rfl⟩
    exact refused h 12
theorem p_drop (h : Pm w a Z own) (o : Int) : Calls Tryd.prog 20 #[.pointer (some ⟨a, 0, none⟩), .int .i64 o] w fun e w' => ∃ Z', LsK w w' Z' (nI (shL own o 0)) (shE own o 0) e ∧ Pm w' a Z' (shS own o 0) ∧ (∀ i, Z' i → Z i ∨ w.heap.size ≤ i) ∧ Fr Z w w' := by
  have H1 := hid (p_shrink h o 0)
  clear h
  go_enter Tryd.func20, Tryd.ntmps20
  go_wp2_with fail
  refine H1.out.mono ?_
  rintro e w1 ⟨Z', ⟨ad, cap, rfl, h2, h3⟩, h4⟩
  have HH := hid (And.intro h2 (And.intro h3 h4))
  clear h2 h3 h4 H1
  go_wp2
  go_ret2
  exact ⟨Z', ⟨ad, cap, by simp, HH.out.1, HH.out.2.1⟩, HH.out.2.2⟩
set_option maxHeartbeats 1000000 in
theorem p_copy (h : Pm w a Z own) : Calls Tryd.prog 10 #[.pointer (some ⟨a, 0, none⟩)] w fun e w' => ∃ a' Z', e = .returned (.pointer (some ⟨a', 0, none⟩)) ∧ (∀ i, Z' i → w.heap.size ≤ i) ∧ Pm w' a' Z' own ∧ Fr (fun _ => False) w w' := by
  obtain ⟨sa, sb, V, h1, h2, h3, h4⟩ := h
  have HP := hid h1
  have HO := hid h2
  have c0 := h1.c0
  have H1 := hid (Sf.s_copy h1.sh)
  clear h1 h2 h3 h4
  go_enter Tryd.func10, Tryd.ntmps10
  go_wp2_with fail
  refine H1.out.mono ?_
  rintro e w1 ⟨na, nb, rfl, hs1, f1, l1, l2⟩
  have HF1 := hid f1
  have HP1 : Hid (Pj (w1.alloc (.cells #[.pointer (some ⟨na, 0, none⟩), .slice none 0 0, .slice none 0 0, .slice none 0 0, .slice none 0 0, .slice none 0 0, .slice none 0 0, .slice none 0 0, .slice none 0 0] 53)) 1 a sa sb V (hs own) (fun o => wN own o)) := HP.out.kept (f1.alloc _)
  have hsz := f1.size
  have HJ : Hid (Pj (w1.alloc (.cells #[.pointer (some ⟨na, 0, none⟩), .slice none 0 0, .slice none 0 0, .slice none 0 0, .slice none 0 0, .slice none 0 0, .slice none 0 0, .slice none 0 0, .slice none 0 0] 53)) w.heap.size w1.heap.size na nb (fun _ => .slice none 0 0) (hs own) (fun _ => [])) := Pj.fresh hs1 ⟨l1, l2, hsz⟩ (Sf.Tab.pos HP.out.tab)
  clear c0
  have c0 := HP1.out.cv (o := 0) (by decide)
  have c1 := HP1.out.cv (o := 1) (by decide)
  have c2 := HP1.out.cv (o := 2) (by decide)
  have c3 := HP1.out.cv (o := 3) (by decide)
  have c4 := HP1.out.cv (o := 4) (by decide)
  have c5 := HP1.out.cv (o := 5) (by decide)
  have c6 := HP1.out.cv (o := 6) (by decide)
  have c7 := HP1.out.cv (o := 7) (by decide)
  simp only [Nat.reduceAdd] at c0 c1 c2 c3 c4 c5 c6 c7
  clear hs1 f1
  go_wp2
  clear c0 c1 c2 c3 c4 c5 c6 c7
  have HW : Hid (Fr (fun x => w.heap.size ≤ x) w (w1.alloc (.cells #[.pointer (some ⟨na, 0, none⟩), .slice none 0 0, .slice none 0 0, .slice none 0 0, .slice none 0 0, .slice none 0 0, .slice none 0 0, .slice none 0 0, .slice none 0 0] 53))) := (HF1.out.mono fun _ _ e => e.elim).alloc _
  generalize w1.heap.size = a2 at *
  go_loopw [4, 5, 19] (fun _ _ i wr => ∃ (j : Nat) (V' : Nat → Value), j ≤ 8 ∧ i = .int .i64 j ∧ Pj wr w.heap.size a2 na nb V' (hs own) (fun o => if o < j then wN own o else []) ∧ Fr (fun x => w.heap.size ≤ x) w wr) (fun _ _ i _ => 8 - (intOf i).toNat)
  case atStart => exact ⟨0, _, by omega, rfl, HJ.out, HW.out⟩
  case round =>
    obtain ⟨j, V', hj, rfl, hp, hf⟩ := hrel
    have HJ2 := hid hp
    have HF2 := hid hf
    clear hp hf HJ HW HP1
    by_cases hlt : j < 8
    · have hx := ix_any V hlt
      have HP2 := hid (HP.out.kept HF2.out.new)
      have hr := HP2.out.row j hlt
      rw [← nI_length] at hr
      obtain ⟨ad, cap, e2, hn⟩ := nums_of hr
      rw [e2] at hx
      have HC := hid fun (wx : World) (f : Fr (fun _ => False) wr wx) => cl_any cap (hn.fr f) (by rw [nI_length]; have := wN_le own j; have := HO.out.most; omega)
      have hsz2 := HF2.out.size
      clear hr hn e2 HP2
      go_wp2_with fail
      go_region_with (go_at_call 23; refine (HC.out _ (Fr.refl _ _).drew).mono ?_; rintro e w2 ⟨⟨v, rfl, hv⟩, f2⟩; obtain ⟨vad, vn, vcap, rfl⟩ := slice_of hv; have HV := hid hv; have HFF := hid ((Fr.refl (fun _ => False) wr).drew.trans f2); have HJ3 := hid (HJ2.out.kept HFF.out); have c3 := HJ3.out.cv hlt; have z3 := HJ3.out.fz (1 + j); clear hv f2)
      all_goals
        have HQ := hid (HJ2.out.put hlt (w1 := w2) (HFF.out.mono fun _ _ e => e.elim) (v := .slice vad vn vcap) (l := wN own j) (by rw [← nI_length]; exact own_low HV.out (by simpa using hsz2)) (fun x hx => .inr (by have := (HV.out.lt x hx).1; simpa using this)))
        go_wp2
        go_roundw
        case rel => exact ⟨j + 1, upd V' j (.slice vad vn vcap), by omega, by go_num, HQ.out.1.congr (fun o ho => by
          by_cases e : o = j
          · subst e; rw [upd_same, if_pos (by omega)]
          · rw [upd_else _ _ e]
            by_cases e2 : o < j
            · rw [if_pos e2, if_pos (by omega)]
            · rw [if_neg e2, if_neg (by omega)]), Fr.trans' HF2.out HQ.out.2 (fun x _ e => by
              rcases e with e | e
              · rw [e]; exact HJ2.out.lo.1
              · exact ((HJ2.out.row j hlt).lt x e).1)⟩
        case measure => simp [intOf]; omega
    · obtain rfl : j = 8 := by omega
      have HM := hid (Pm.made (own := own) (HJ2.out.congr (L' := fun o => wN own o) fun o ho => if_pos ho) HO.out)
      go_wp2
      go_ret
      obtain ⟨Z', hZ, hM⟩ := HM.out
      exact ⟨a2, Z', by simp, hZ, hM, HF2.out.new⟩
end
end Go.Proofs.YthamfljooapkoaaDoor
