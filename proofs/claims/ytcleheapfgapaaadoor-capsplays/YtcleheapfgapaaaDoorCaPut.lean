/-
  The document's table: a slot is put into it.
-/
import Derived.Test.YtcleheapfgapaaaDoorCaRef
import Derived.Test.YtcleheapfgapaaaDoorCaApp
import Derived.Deep.RegionHeld3
namespace Go.Proofs.YtcleheapfgapaaaDoor
open Go.RowKit

theorem Ct.Ok.at_le {c : Ct} (h : c.Ok) : ∀ i (hi : i < c.L.length), (i : Int) ≤ c.L[i].s
  | 0, hi => by have := (h.kr _ (List.getElem_mem hi)).1; unfold KR at this; omega
  | i + 1, hi => by
    have h1 := h.at_le i (by omega)
    have h2 := List.pairwise_iff_getElem.1 h.srt i (i + 1) (by omega) hi (by omega)
    omega
theorem Ct.Ok.len {c : Ct} (h : c.Ok) : c.L.length ≤ 4160 := by
  by_cases h0 : c.L.length = 0
  · omega
  · have h1 := h.at_le (c.L.length - 1) (by omega)
    have h2 := (h.kr _ (List.getElem_mem (l := c.L) (n := c.L.length - 1) (by omega))).1
    unfold KR at h2
    omega
theorem scan_drop_le {L : List Sl} {s : Int} {j : Nat} (hj : j < L.length) (h : L[j].s ≤ s) : scan (L.drop j) s = ((scan (L.drop (j + 1)) (if L[j].s = s then s + 1 else s)).1 + 1, (scan (L.drop (j + 1)) (if L[j].s = s then s + 1 else s)).2) := by
  rw [List.drop_eq_getElem_cons hj, scan, if_pos h]
theorem scan_drop_gt {L : List Sl} {s : Int} {j : Nat} (hj : j < L.length) (h : ¬ L[j].s ≤ s) : scan (L.drop j) s = (0, s) := by
  rw [List.drop_eq_getElem_cons hj, scan, if_neg h]
theorem scan_drop_end {L : List Sl} {s : Int} {j : Nat} (hj : ¬ j < L.length) : scan (L.drop j) s = (0, s) := by
  rw [List.drop_of_length_le (by omega), scan]
/-- The table when its new row is stored. -/
theorem put_done {w w5 : World} {base r B5 g n cap : Nat} {v vold : Value} {c : Ct} {lo hi rr a : Int} (h : Rc w base r v c) (l0 : 0 ≤ lo) (hh : hi ≤ 4160) (hr : 1 ≤ rr ∧ rr ≤ 7) (ha : 0 ≤ a) (hc : c.can lo hi) (hst : w5.heap[r]? = some (.cells #[.int .i64 c.T, .int .i64 (c.nx + 1), vold] 46 (0, 0)))
    (hrow : w5.ownsRow B5 75 5 (.slice (some ⟨g, 0, none⟩) n cap) (c.L.take (scan c.L lo).1 ++ [c.slot lo rr a] ++ c.L.drop (scan c.L lo).1).length (sc c.T (c.L.take (scan c.L lo).1 ++ [c.slot lo rr a] ++ c.L.drop (scan c.L lo).1))) (hB : base ≤ B5) (hgr : g ≠ r) :
    Rc (w5.setCell ⟨r, 2, none⟩ (.slice (some ⟨g, 0, none⟩) n cap)) base r (.slice (some ⟨g, 0, none⟩) n cap) (plS c lo hi rr a) := by
  have hok := plS_ok (a := a) h.ok l0 hh hr ha
  have e : plS c lo hi rr a = ⟨c.T, c.nx + 1, c.L.take (scan c.L lo).1 ++ c.slot lo rr a :: c.L.drop (scan c.L lo).1⟩ := if_pos hc
  refine ⟨?_, ?_, fun e => hgr (by simpa [Value.ownBlock] using e), hok, Nat.le_trans hok.len (by decide), h.lo⟩
  · rw [heap_setCell_same w5 r 2 _ _ _ hst, e]
    rfl
  · refine own_carry (S := fun x => x = r) ?_ (Fr.setCell (S := fun x => x = r) (p := ⟨r, 2, none⟩) (Fr.refl _ _) rfl _) (fun x hx e => hgr (by simp only [Value.ownBlock, Option.some.injEq] at hx; omega))
    rw [e]
    have := own_low hrow hB
    rw [List.append_assoc] at this
    exact this
set_option maxRecDepth 20000 in
set_option maxHeartbeats 2000000 in
theorem e_put {w : World} {base r : Nat} {v : Value} {c : Ct} (h : Rc w base r v c) {lo hi a rr : Int} (l0 : 0 ≤ lo) (l1 : lo ≤ 4160) (hh : hi ≤ 4160) (hr : 1 ≤ rr ∧ rr ≤ 7) (ha : 0 ≤ a) : Calls Tryd.prog 27 #[.pointer (some ⟨r, 0, none⟩), .int .i64 lo, .int .i64 hi, .int .i64 a, .int .i64 rr] w fun e w' => e = .returned (.tuple #[.int .u64 (plV c lo hi rr), .int .i64 (plE c lo hi)]) ∧ (∃ v', Rc w' base r v' (plS c lo hi rr a) ∧ Fv w v v') ∧ Fr (fun x => x = r) w w' := by
  have HR := hid h
  have hlen := h.ok.len
  have c2 := h.c2
  obtain ⟨ad, cap, rfl, hcap, hg, hn⟩ := h.form
  clear h
  go_enter Tryd.func27, Tryd.ntmps27
  go_wp2
  go_loopw [12, 13] (fun i y wr => ∃ (j : Nat) (s : Int), j ≤ c.L.length ∧ i = .int .i64 j ∧ y = .int .i64 s ∧ wr = w ∧ lo ≤ s ∧ s ≤ lo + j ∧ (scan c.L lo).1 = j + (scan (c.L.drop j) s).1 ∧ (scan c.L lo).2 = (scan (c.L.drop j) s).2) (fun i _ _ => c.L.length - (intOf i).toNat)
  case atStart => exact ⟨0, lo, by omega, rfl, rfl, rfl, by omega, by omega, by simp, by simp⟩
  case round =>
    obtain ⟨j, s, hj, rfl, rfl, hwr, s0, s1, hs1, hs2⟩ := hrel
    obtain rfl := hwr.symm
    clear hwr
    have HS := hid (And.intro hs1 hs2)
    clear hs1 hs2
    by_cases hlt : j < c.L.length
    · obtain ⟨g, cap', e, x0, x1, x2, x3, x4⟩ := HR.out.cells j hlt
      simp only [Value.slice.injEq] at e
      obtain ⟨rfl, _, rfl⟩ := e
      by_cases hx : c.L[j].s ≤ s
      · have hst := scan_drop_le hlt hx
        have HSN : Hid ((scan c.L lo).1 = (j + 1 : Nat) + (scan (c.L.drop (j + 1)) (if c.L[j].s = s then s + 1 else s)).1 ∧ (scan c.L lo).2 = (scan (c.L.drop (j + 1)) (if c.L[j].s = s then s + 1 else s)).2) := by
          have h1 := HS.out.1
          have h2 := HS.out.2
          rw [hst] at h1 h2
          exact ⟨by rw [h1]; omega, h2⟩
        clear HS hst
        generalize c.L[j].s = xs at *
        by_cases e : xs = s
        · subst e
          rw [if_pos rfl] at HSN
          go_wp2
          go_roundw
          case rel => exact ⟨j + 1, xs + 1, by omega, by go_num, by go_num, trivial, by omega, by omega, HSN.out.1, HSN.out.2⟩
          case measure => simp [intOf]; omega
        · rw [if_neg e] at HSN
          have hb : (xs == s) = false := by simpa using e
          go_wp2
          go_roundw
          case rel => exact ⟨j + 1, s, by omega, by go_num, rfl, trivial, by omega, by omega, HSN.out.1, HSN.out.2⟩
          case measure => simp [intOf]; omega
      · have HSE : Hid ((scan c.L lo).1 = j ∧ (scan c.L lo).2 = s) := by
          have h1 := HS.out.1
          have h2 := HS.out.2
          rw [scan_drop_gt hlt hx] at h1 h2
          exact ⟨h1, h2⟩
        clear HS
        generalize c.L[j].s = xs at *
        have c0 := HR.out.c0
        have c1 := HR.out.c1
        have f1 := HR.out.fz 1
        have hnx := HR.out.ok.nx
        have ht := HR.out.ok.t
        have hrl := HR.out.ltr
        obtain ⟨ad2, cap2, hr2, hM, hMne⟩ := HR.out.tail hj
        obtain ⟨ad1, hr1, hP, hPne, hPn⟩ := HR.out.head hj
        have HMP : Hid (c.L.take (scan c.L lo).1 = c.L.take j ∧ c.L.drop (scan c.L lo).1 = c.L.drop j ∧ (c.L.take j).length ≤ 4160 ∧ (c.L.drop j).length ≤ 4160) := by rw [HSE.out.1]; exact ⟨rfl, rfl, by rw [List.length_take]; omega, by rw [List.length_drop]; omega⟩
        generalize c.L.drop j = M at *
        generalize c.L.take j = P at *
        have hPl := HMP.out.2.2.1
        have hMl := HMP.out.2.2.2
        have HM := hid (And.intro hM hMne)
        have HP := hid (And.intro hP (And.intro hPne hPn))
        clear hM hMne hP hPne hPn
        by_cases hcan : c.can lo hi
        · have hc1 : s < hi := by have := hcan.1; rw [HSE.out.2] at this; exact this
          have hc2 : c.nx < 17592186044416 := hcan.2
          have HCN := hid hcan
          clear hcan
          have w1 : IntKind.i64.wrap (c.nx + 1) = c.nx + 1 := by rw [IntKind.wrap_i64]; omega
          have HK := hid (Kb.new w c.T s rr c.nx)
          have HF1 : Hid (Fr (fun x => x = r) w ((w.alloc (.cells #[.int .i64 c.T, .int .i64 s, .int .i64 rr, .int .i64 c.nx] 53)).setCell ⟨r, 1, none⟩ (.int .i64 (c.nx + 1)))) := Fr.setCell (S := fun x => x = r) (p := ⟨r, 1, none⟩) ((Fr.refl _ w).alloc _) rfl _
          have HS1 : Hid (((w.alloc (.cells #[.int .i64 c.T, .int .i64 s, .int .i64 rr, .int .i64 c.nx] 53)).setCell ⟨r, 1, none⟩ (.int .i64 (c.nx + 1))).heap[r]? = some (.cells #[.int .i64 c.T, .int .i64 (c.nx + 1), .slice (some ⟨g, 0, none⟩) c.L.length cap] 46 (0, 0))) := by
            show _ = _
            rw [heap_setCell_same _ r 1 _ _ _ ((Below.heap_alloc w _ r hrl).trans HR.out.st)]
            rfl
          have HK1 : Hid (Kb ((w.alloc (.cells #[.int .i64 c.T, .int .i64 s, .int .i64 rr, .int .i64 c.nx] 53)).setCell ⟨r, 1, none⟩ (.int .i64 (c.nx + 1))) w.heap.size c.T s rr c.nx) := HK.out.carry (S := fun x => x = r) (Fr.setCell (S := fun x => x = r) (p := ⟨r, 1, none⟩) (Fr.refl _ _) rfl _) (by omega)
          have HZ1 : Hid (((w.alloc (.cells #[.int .i64 c.T, .int .i64 s, .int .i64 rr, .int .i64 c.nx] 53)).setCell ⟨r, 1, none⟩ (.int .i64 (c.nx + 1))).heap.size = w.heap.size + 1) := by show _ = _; simp [World.setCell]
          have c2' : (((w.alloc (.cells #[.int .i64 c.T, .int .i64 s, .int .i64 rr, .int .i64 c.nx] 53)).setCell ⟨r, 1, none⟩ (.int .i64 (c.nx + 1))).alloc (.cells #[] 75)).cell? ⟨r, 2, none⟩ = some (.slice (some ⟨g, 0, none⟩) c.L.length cap) := by
            have e := (Below.heap_alloc _ (.cells #[] 75) r (by simp [World.setCell]; omega)).trans HS1.out
            simp [World.cell?, e]
          go_wp2
          go_region_held3 (fun w' => w'.cell? ⟨r, 0, none⟩ = some (.int .i64 c.T) ∧ w'.cell? ⟨r, 1, none⟩ = some (.int .i64 c.nx)) (go_keep) (fail)
          generalize hW1 : (w.alloc (.cells #[.int .i64 c.T, .int .i64 s, .int .i64 rr, .int .i64 c.nx] 53)).setCell ⟨r, 1, none⟩ (.int .i64 (c.nx + 1)) = W1 at *
          have HM2 : Hid (SlotsAt (W1.alloc (.cells #[] 75)).drew c.T ad2 M) := HM.out.1.carry ((HF1.out.alloc _).drew) (fun b off e h0 => HM.out.2 b off e h0)
          have HP2 : Hid (SlotsAt (W1.alloc (.cells #[] 75)).drew c.T ad1 P) := HP.out.1.carry ((HF1.out.alloc _).drew) (fun b off e _ => HP.out.2.1 b off e)
          have HO2 : Hid ((W1.alloc (.cells #[] 75)).drew.ownsRow W1.heap.size 75 5 (.slice (some ⟨W1.heap.size, 0, none⟩) 0 0) ([] : List Sl).length (sc c.T [])) :=
            ⟨rfl, .inr ⟨W1.heap.size, 0, #[], rfl, Nat.le_refl _, heap_alloc_new W1 (.cells #[] 75), Nat.le_refl _, by simp [maxLen], rfl, rfl⟩⟩
          have hw1s : w.heap.size + 1 = W1.heap.size := HZ1.out.symm
          go_wp2_with (at_builtin; refine wpList_slots rfl (.tmp 82) (.tmp 88) rfl HO2.out (.inl ⟨_, _, _, rfl⟩) cap2 HM2.out (by simp; omega) (by simp) rfl rfl ?_; intro g3 cap3 w3 ho3 hf3 hs3; simp only [List.length_nil, Nat.zero_add, List.nil_append] at ho3 ⊢; have HO3 := hid ho3; have HF3 := hid hf3; have hs3' : W1.heap.size ≤ g3 := (by rcases hs3 with e | e; (simp [Value.ownBlock] at e; omega); (simp at e; omega)); clear ho3 hf3 hs3)
          have HF3a : Hid (Fr (fun k => k = W1.heap.size) (W1.alloc (.cells #[] 75)).drew w3) := HF3.out.mono fun k _ e => by simpa [Value.ownBlock] using e.symm
          have HS3 : Hid (w3.heap[r]? = some (.cells #[.int .i64 c.T, .int .i64 (c.nx + 1), .slice (some ⟨g, 0, none⟩) c.L.length cap] 46 (0, 0))) := by
            show _ = _
            rw [HF3a.out.block r (by show r < (W1.alloc _).heap.size; simp; omega) (by omega)]
            exact (Below.heap_alloc W1 _ r (by omega)).trans HS1.out
          have HK3 : Hid (Kb w3 w.heap.size c.T s rr c.nx) := (HK1.out.kept (((Fr.refl (fun _ => False) W1).alloc _).drew)).carry HF3a.out (by omega)
          have HP3 : Hid (SlotsAt w3 c.T ad1 P) := HP2.out.carry HF3a.out (fun b off e h0 e2 => by
            obtain ⟨b', off', e', hb', _⟩ := HP.out.1 h0
            rw [e] at e'
            simp only [Option.some.injEq, Addr.mk.injEq, and_true] at e'
            omega)
          have HM3 := hid (slots_row HO3.out)
          have hw3 : W1.heap.size + 1 ≤ w3.heap.size := by have := HF3a.out.size; simp at this; omega
          have HFA : Hid (Fr (fun x => x = r) w w3) := Fr.trans' ((HF1.out.alloc _).drew) HF3a.out (fun i hi e => by omega)
          clear HF3 HO2 HM2 HP2 HS1 HK1 c0 c1 c2 c2' f1 hr2
          have d2 : w3.cell? ⟨r, 2, none⟩ = some (.slice (some ⟨g, 0, none⟩) c.L.length cap) := by simp [World.cell?, HS3.out]
          have k0 := HK3.out.c0
          have k1 := HK3.out.c1
          have k2 := HK3.out.c2
          have k3 := HK3.out.c3
          have d2a : (w3.alloc (.cells #[.int .i64 c.T, .int .i64 s, .int .i64 rr, .int .i64 c.nx, .int .i64 a] 75)).cell? ⟨r, 2, none⟩ = some (.slice (some ⟨g, 0, none⟩) c.L.length cap) := by
            have e := (Below.heap_alloc w3 (.cells #[.int .i64 c.T, .int .i64 s, .int .i64 rr, .int .i64 c.nx, .int .i64 a] 75) r (by omega)).trans HS3.out
            simp [World.cell?, e]
          go_wp2
          go_region_law (first | (refine step_first (y := ⟨s, rr, c.nx, a⟩) (by rfl) _ _ (by rfl) (HP3.out.fr ((Fr.refl (fun _ => False) w3).drew.alloc _)) HP.out.2.2 1 (slots_one (heap_alloc_new _ _)) (by omega) (by rfl) (by rfl) ?_; intro g4 cap4 w4 Q hQ hQl ho4 hf4 hg4; have HQ := hid hQ; clear hQ; have HF4 := hid (((Fr.refl (fun _ => False) w3).drew.alloc _).trans hf4); have hB4 := hf4.size; have HO4 := hid ho4; clear hf4 ho4; have HM4 := hid (HM3.out.fr HF4.out); have hg4' : w3.heap.size + 1 ≤ g4 := (by simpa using hg4); clear hg4; have HQl := hid hQl; clear hQl; have hQM : Q.length + M.length ≤ 100000 := (by have := HQl.out; omega)) | (refine step_slots (by rfl) _ _ (by rfl) HO4.out (.inl ⟨g4, _, _, rfl⟩) cap3 HM4.out hQM hB4 (by rfl) (by rfl) ?_; intro g5 cap5 w5 ho5 hf5 hs5; have HO5 := hid ho5; have HF5 : Hid (Fr (fun k => k = g4) w4 w5) := (hf5.mono fun k _ e => by simpa [Value.ownBlock] using e.symm); have hg5 : w3.heap.size + 1 ≤ g5 := (by have := HF4.out.size; rcases hs5 with e | e; (simp [Value.ownBlock] at e; omega); (have hb := hB4; simp at hb; omega)); clear ho5 hf5 hs5; have HS5 : Hid (w5.heap[r]? = some (.cells #[.int .i64 c.T, .int .i64 (c.nx + 1), .slice (some ⟨g, 0, none⟩) c.L.length cap] 46 (0, 0))) := (by show _ = _; rw [HF5.out.block r (by have := HF4.out.size; omega) (by omega), HF4.out.block r (by omega) id]; exact HS3.out); have d25 : w5.cell? ⟨r, 2, none⟩ = some (.slice (some ⟨g, 0, none⟩) c.L.length cap) := (by simp [World.cell?, HS5.out]); have f25 : w5.frozen? ⟨r, 2, none⟩ = false := (by simp [World.frozen?, HS5.out])))
          all_goals
            have HEQ : Hid (Q ++ M = c.L.take (scan c.L lo).1 ++ [c.slot lo rr a] ++ c.L.drop (scan c.L lo).1) := by
              show _ = _
              rw [HMP.out.1, HMP.out.2.1, HQ.out]
              unfold Ct.slot
              rw [HSE.out.2]
            have HR6 : Hid (Rc (w5.setCell ⟨r, 2, none⟩ (.slice (some ⟨g5, 0, none⟩) (Q.length + M.length) cap5)) base r (.slice (some ⟨g5, 0, none⟩) (Q.length + M.length) cap5) (plS c lo hi rr a)) := by
              have ho := HO5.out
              rw [HEQ.out] at ho
              exact put_done HR.out l0 hh hr ha HCN.out HS5.out ho (by have := HR.out.lo; have := HF4.out.size; simp; omega) (by omega)
            have HF6 : Hid (Fr (fun x => x = r) w (w5.setCell ⟨r, 2, none⟩ (.slice (some ⟨g5, 0, none⟩) (Q.length + M.length) cap5))) := Fr.setCell (S := fun x => x = r) (p := ⟨r, 2, none⟩) (Fr.trans' (Fr.trans HFA.out (HF4.out.mono fun _ _ e => e.elim)) HF5.out (fun i hi e => by omega)) rfl _
            have HK6 : Hid (Kb (w5.setCell ⟨r, 2, none⟩ (.slice (some ⟨g5, 0, none⟩) (Q.length + M.length) cap5)) w.heap.size c.T s rr c.nx) := ((HK3.out.kept HF4.out).carry HF5.out (by omega)).carry (S := fun x => x = r) (Fr.setCell (S := fun x => x = r) (p := ⟨r, 2, none⟩) (Fr.refl _ _) rfl _) (by omega)
            have HPK := hid fun w => e_pack c.T s rr c.nx w
            have HE1 : Hid (plV c lo hi rr = pkB c.T s rr c.nx ∧ plE c lo hi = 0) := by
              refine ⟨?_, if_pos HCN.out⟩
              unfold plV
              rw [if_pos HCN.out]
              unfold Sl.bits Ct.slot
              rw [HSE.out.2]
            clear HO5 HEQ HQ HS5 HF5 HK3 HM4 HO4 HF4 HS3 HP3 HM3 HO3 HMP HM HP HSE d2 d2a k0 k1 k2 k3 d25 f25
            generalize w5.setCell ⟨r, 2, none⟩ (.slice (some ⟨g5, 0, none⟩) (Q.length + M.length) cap5) = w6 at *
            have k0 := HK6.out.c0
            have k1 := HK6.out.c1
            have k2 := HK6.out.c2
            have k3 := HK6.out.c3
            go_wp2_with fail
            refine (HPK.out _).mono ?_
            rintro e w7 ⟨rfl, f7⟩
            have HR7 := hid (HR6.out.kept f7)
            have HF7 := hid (HF6.out.trans (f7.mono fun _ _ e => e.elim))
            clear f7 HR6 HF6 HK6
            go_wp2
            go_ret2
            exact ⟨by rw [HE1.out.1, HE1.out.2]; simp, ⟨_, HR7.out, .inr fun q e => by simp only [Value.ownBlock, Option.some.injEq] at e; omega⟩, HF7.out⟩
        · have HE1 : Hid (plV c lo hi rr = 0 ∧ plE c lo hi = 10 ∧ plS c lo hi rr a = c) := ⟨if_neg hcan, if_neg hcan, if_neg hcan⟩
          clear HM HP hr1 hr2 HMP
          by_cases hs : s < hi
          · have hnx2 : ¬ c.nx < 17592186044416 := fun h => hcan ⟨by rw [HSE.out.2]; exact hs, h⟩
            clear hcan
            go_wp2
            go_ret2
            exact ⟨by rw [HE1.out.1, HE1.out.2.1]; simp, ⟨_, by rw [HE1.out.2.2]; exact HR.out, .inl rfl⟩, Fr.refl _ _⟩
          · clear hcan
            go_wp2
            go_ret2
            exact ⟨by rw [HE1.out.1, HE1.out.2.1]; simp, ⟨_, by rw [HE1.out.2.2]; exact HR.out, .inl rfl⟩, Fr.refl _ _⟩
    · have HSE : Hid ((scan c.L lo).1 = j ∧ (scan c.L lo).2 = s) := by
        have h1 := HS.out.1
        have h2 := HS.out.2
        rw [scan_drop_end hlt] at h1 h2
        exact ⟨h1, h2⟩
      clear HS
      have c0 := HR.out.c0
      have c1 := HR.out.c1
      have f1 := HR.out.fz 1
      have hnx := HR.out.ok.nx
      have ht := HR.out.ok.t
      have hrl := HR.out.ltr
      obtain ⟨ad2, cap2, hr2, hM, hMne⟩ := HR.out.tail hj
      obtain ⟨ad1, hr1, hP, hPne, hPn⟩ := HR.out.head hj
      have HMP : Hid (c.L.take (scan c.L lo).1 = c.L.take j ∧ c.L.drop (scan c.L lo).1 = c.L.drop j ∧ (c.L.take j).length ≤ 4160 ∧ (c.L.drop j).length ≤ 4160) := by rw [HSE.out.1]; exact ⟨rfl, rfl, by rw [List.length_take]; omega, by rw [List.length_drop]; omega⟩
      generalize c.L.drop j = M at *
      generalize c.L.take j = P at *
      have hPl := HMP.out.2.2.1
      have hMl := HMP.out.2.2.2
      have HM := hid (And.intro hM hMne)
      have HP := hid (And.intro hP (And.intro hPne hPn))
      clear hM hMne hP hPne hPn
      by_cases hcan : c.can lo hi
      · have hc1 : s < hi := by have := hcan.1; rw [HSE.out.2] at this; exact this
        have hc2 : c.nx < 17592186044416 := hcan.2
        have HCN := hid hcan
        clear hcan
        have w1 : IntKind.i64.wrap (c.nx + 1) = c.nx + 1 := by rw [IntKind.wrap_i64]; omega
        have HK := hid (Kb.new w c.T s rr c.nx)
        have HF1 : Hid (Fr (fun x => x = r) w ((w.alloc (.cells #[.int .i64 c.T, .int .i64 s, .int .i64 rr, .int .i64 c.nx] 53)).setCell ⟨r, 1, none⟩ (.int .i64 (c.nx + 1)))) := Fr.setCell (S := fun x => x = r) (p := ⟨r, 1, none⟩) ((Fr.refl _ w).alloc _) rfl _
        have HS1 : Hid (((w.alloc (.cells #[.int .i64 c.T, .int .i64 s, .int .i64 rr, .int .i64 c.nx] 53)).setCell ⟨r, 1, none⟩ (.int .i64 (c.nx + 1))).heap[r]? = some (.cells #[.int .i64 c.T, .int .i64 (c.nx + 1), .slice ad c.L.length cap] 46 (0, 0))) := by
          show _ = _
          rw [heap_setCell_same _ r 1 _ _ _ ((Below.heap_alloc w _ r hrl).trans HR.out.st)]
          rfl
        have HK1 : Hid (Kb ((w.alloc (.cells #[.int .i64 c.T, .int .i64 s, .int .i64 rr, .int .i64 c.nx] 53)).setCell ⟨r, 1, none⟩ (.int .i64 (c.nx + 1))) w.heap.size c.T s rr c.nx) := HK.out.carry (S := fun x => x = r) (Fr.setCell (S := fun x => x = r) (p := ⟨r, 1, none⟩) (Fr.refl _ _) rfl _) (by omega)
        have HZ1 : Hid (((w.alloc (.cells #[.int .i64 c.T, .int .i64 s, .int .i64 rr, .int .i64 c.nx] 53)).setCell ⟨r, 1, none⟩ (.int .i64 (c.nx + 1))).heap.size = w.heap.size + 1) := by show _ = _; simp [World.setCell]
        have c2' : (((w.alloc (.cells #[.int .i64 c.T, .int .i64 s, .int .i64 rr, .int .i64 c.nx] 53)).setCell ⟨r, 1, none⟩ (.int .i64 (c.nx + 1))).alloc (.cells #[] 75)).cell? ⟨r, 2, none⟩ = some (.slice ad c.L.length cap) := by
          have e := (Below.heap_alloc _ (.cells #[] 75) r (by simp [World.setCell]; omega)).trans HS1.out
          simp [World.cell?, e]
        go_wp2
        go_region_held3 (fun w' => w'.cell? ⟨r, 0, none⟩ = some (.int .i64 c.T) ∧ w'.cell? ⟨r, 1, none⟩ = some (.int .i64 c.nx)) (go_keep) (fail)
        generalize hW1 : (w.alloc (.cells #[.int .i64 c.T, .int .i64 s, .int .i64 rr, .int .i64 c.nx] 53)).setCell ⟨r, 1, none⟩ (.int .i64 (c.nx + 1)) = W1 at *
        have HM2 : Hid (SlotsAt (W1.alloc (.cells #[] 75)).drew c.T ad2 M) := HM.out.1.carry ((HF1.out.alloc _).drew) (fun b off e h0 => HM.out.2 b off e h0)
        have HP2 : Hid (SlotsAt (W1.alloc (.cells #[] 75)).drew c.T ad1 P) := HP.out.1.carry ((HF1.out.alloc _).drew) (fun b off e _ => HP.out.2.1 b off e)
        have HO2 : Hid ((W1.alloc (.cells #[] 75)).drew.ownsRow W1.heap.size 75 5 (.slice (some ⟨W1.heap.size, 0, none⟩) 0 0) ([] : List Sl).length (sc c.T [])) :=
          ⟨rfl, .inr ⟨W1.heap.size, 0, #[], rfl, Nat.le_refl _, heap_alloc_new W1 (.cells #[] 75), Nat.le_refl _, by simp [maxLen], rfl, rfl⟩⟩
        have hw1s : w.heap.size + 1 = W1.heap.size := HZ1.out.symm
        go_wp2_with (at_builtin; refine wpList_slots rfl (.tmp 82) (.tmp 88) rfl HO2.out (.inl ⟨_, _, _, rfl⟩) cap2 HM2.out (by simp; omega) (by simp) rfl rfl ?_; intro g3 cap3 w3 ho3 hf3 hs3; simp only [List.length_nil, Nat.zero_add, List.nil_append] at ho3 ⊢; have HO3 := hid ho3; have HF3 := hid hf3; have hs3' : W1.heap.size ≤ g3 := (by rcases hs3 with e | e; (simp [Value.ownBlock] at e; omega); (simp at e; omega)); clear ho3 hf3 hs3)
        have HF3a : Hid (Fr (fun k => k = W1.heap.size) (W1.alloc (.cells #[] 75)).drew w3) := HF3.out.mono fun k _ e => by simpa [Value.ownBlock] using e.symm
        have HS3 : Hid (w3.heap[r]? = some (.cells #[.int .i64 c.T, .int .i64 (c.nx + 1), .slice ad c.L.length cap] 46 (0, 0))) := by
          show _ = _
          rw [HF3a.out.block r (by show r < (W1.alloc _).heap.size; simp; omega) (by omega)]
          exact (Below.heap_alloc W1 _ r (by omega)).trans HS1.out
        have HK3 : Hid (Kb w3 w.heap.size c.T s rr c.nx) := (HK1.out.kept (((Fr.refl (fun _ => False) W1).alloc _).drew)).carry HF3a.out (by omega)
        have HP3 : Hid (SlotsAt w3 c.T ad1 P) := HP2.out.carry HF3a.out (fun b off e h0 e2 => by
          obtain ⟨b', off', e', hb', _⟩ := HP.out.1 h0
          rw [e] at e'
          simp only [Option.some.injEq, Addr.mk.injEq, and_true] at e'
          omega)
        have HM3 := hid (slots_row HO3.out)
        have hw3 : W1.heap.size + 1 ≤ w3.heap.size := by have := HF3a.out.size; simp at this; omega
        have HFA : Hid (Fr (fun x => x = r) w w3) := Fr.trans' ((HF1.out.alloc _).drew) HF3a.out (fun i hi e => by omega)
        clear HF3 HO2 HM2 HP2 HS1 HK1 c0 c1 c2 c2' f1 hr2
        have d2 : w3.cell? ⟨r, 2, none⟩ = some (.slice ad c.L.length cap) := by simp [World.cell?, HS3.out]
        have k0 := HK3.out.c0
        have k1 := HK3.out.c1
        have k2 := HK3.out.c2
        have k3 := HK3.out.c3
        have d2a : (w3.alloc (.cells #[.int .i64 c.T, .int .i64 s, .int .i64 rr, .int .i64 c.nx, .int .i64 a] 75)).cell? ⟨r, 2, none⟩ = some (.slice ad c.L.length cap) := by
          have e := (Below.heap_alloc w3 (.cells #[.int .i64 c.T, .int .i64 s, .int .i64 rr, .int .i64 c.nx, .int .i64 a] 75) r (by omega)).trans HS3.out
          simp [World.cell?, e]
        go_wp2
        go_region_law (first | (refine step_first (y := ⟨s, rr, c.nx, a⟩) (by rfl) _ _ (by rfl) (HP3.out.fr ((Fr.refl (fun _ => False) w3).drew.alloc _)) HP.out.2.2 1 (slots_one (heap_alloc_new _ _)) (by omega) (by rfl) (by rfl) ?_; intro g4 cap4 w4 Q hQ hQl ho4 hf4 hg4; have HQ := hid hQ; clear hQ; have HF4 := hid (((Fr.refl (fun _ => False) w3).drew.alloc _).trans hf4); have hB4 := hf4.size; have HO4 := hid ho4; clear hf4 ho4; have HM4 := hid (HM3.out.fr HF4.out); have hg4' : w3.heap.size + 1 ≤ g4 := (by simpa using hg4); clear hg4; have HQl := hid hQl; clear hQl; have hQM : Q.length + M.length ≤ 100000 := (by have := HQl.out; omega)) | (refine step_slots (by rfl) _ _ (by rfl) HO4.out (.inl ⟨g4, _, _, rfl⟩) cap3 HM4.out hQM hB4 (by rfl) (by rfl) ?_; intro g5 cap5 w5 ho5 hf5 hs5; have HO5 := hid ho5; have HF5 : Hid (Fr (fun k => k = g4) w4 w5) := (hf5.mono fun k _ e => by simpa [Value.ownBlock] using e.symm); have hg5 : w3.heap.size + 1 ≤ g5 := (by have := HF4.out.size; rcases hs5 with e | e; (simp [Value.ownBlock] at e; omega); (have hb := hB4; simp at hb; omega)); clear ho5 hf5 hs5; have HS5 : Hid (w5.heap[r]? = some (.cells #[.int .i64 c.T, .int .i64 (c.nx + 1), .slice ad c.L.length cap] 46 (0, 0))) := (by show _ = _; rw [HF5.out.block r (by have := HF4.out.size; omega) (by omega), HF4.out.block r (by omega) id]; exact HS3.out); have d25 : w5.cell? ⟨r, 2, none⟩ = some (.slice ad c.L.length cap) := (by simp [World.cell?, HS5.out]); have f25 : w5.frozen? ⟨r, 2, none⟩ = false := (by simp [World.frozen?, HS5.out])))
        all_goals
          have HEQ : Hid (Q ++ M = c.L.take (scan c.L lo).1 ++ [c.slot lo rr a] ++ c.L.drop (scan c.L lo).1) := by
            show _ = _
            rw [HMP.out.1, HMP.out.2.1, HQ.out]
            unfold Ct.slot
            rw [HSE.out.2]
          have HR6 : Hid (Rc (w5.setCell ⟨r, 2, none⟩ (.slice (some ⟨g5, 0, none⟩) (Q.length + M.length) cap5)) base r (.slice (some ⟨g5, 0, none⟩) (Q.length + M.length) cap5) (plS c lo hi rr a)) := by
            have ho := HO5.out
            rw [HEQ.out] at ho
            exact put_done HR.out l0 hh hr ha HCN.out HS5.out ho (by have := HR.out.lo; have := HF4.out.size; simp; omega) (by omega)
          have HF6 : Hid (Fr (fun x => x = r) w (w5.setCell ⟨r, 2, none⟩ (.slice (some ⟨g5, 0, none⟩) (Q.length + M.length) cap5))) := Fr.setCell (S := fun x => x = r) (p := ⟨r, 2, none⟩) (Fr.trans' (Fr.trans HFA.out (HF4.out.mono fun _ _ e => e.elim)) HF5.out (fun i hi e => by omega)) rfl _
          have HK6 : Hid (Kb (w5.setCell ⟨r, 2, none⟩ (.slice (some ⟨g5, 0, none⟩) (Q.length + M.length) cap5)) w.heap.size c.T s rr c.nx) := ((HK3.out.kept HF4.out).carry HF5.out (by omega)).carry (S := fun x => x = r) (Fr.setCell (S := fun x => x = r) (p := ⟨r, 2, none⟩) (Fr.refl _ _) rfl _) (by omega)
          have HPK := hid fun w => e_pack c.T s rr c.nx w
          have HE1 : Hid (plV c lo hi rr = pkB c.T s rr c.nx ∧ plE c lo hi = 0) := by
            refine ⟨?_, if_pos HCN.out⟩
            unfold plV
            rw [if_pos HCN.out]
            unfold Sl.bits Ct.slot
            rw [HSE.out.2]
          clear HO5 HEQ HQ HS5 HF5 HK3 HM4 HO4 HF4 HS3 HP3 HM3 HO3 HMP HM HP HSE d2 d2a k0 k1 k2 k3 d25 f25
          generalize w5.setCell ⟨r, 2, none⟩ (.slice (some ⟨g5, 0, none⟩) (Q.length + M.length) cap5) = w6 at *
          have k0 := HK6.out.c0
          have k1 := HK6.out.c1
          have k2 := HK6.out.c2
          have k3 := HK6.out.c3
          go_wp2_with fail
          refine (HPK.out _).mono ?_
          rintro e w7 ⟨rfl, f7⟩
          have HR7 := hid (HR6.out.kept f7)
          have HF7 := hid (HF6.out.trans (f7.mono fun _ _ e => e.elim))
          clear f7 HR6 HF6 HK6
          go_wp2
          go_ret2
          exact ⟨by rw [HE1.out.1, HE1.out.2]; simp, ⟨_, HR7.out, .inr fun q e => by simp only [Value.ownBlock, Option.some.injEq] at e; omega⟩, HF7.out⟩
      · have HE1 : Hid (plV c lo hi rr = 0 ∧ plE c lo hi = 10 ∧ plS c lo hi rr a = c) := ⟨if_neg hcan, if_neg hcan, if_neg hcan⟩
        clear HM HP hr1 hr2 HMP
        by_cases hs : s < hi
        · have hnx2 : ¬ c.nx < 17592186044416 := fun h => hcan ⟨by rw [HSE.out.2]; exact hs, h⟩
          clear hcan
          go_wp2
          go_ret2
          exact ⟨by rw [HE1.out.1, HE1.out.2.1]; simp, ⟨_, by rw [HE1.out.2.2]; exact HR.out, .inl rfl⟩, Fr.refl _ _⟩
        · clear hcan
          go_wp2
          go_ret2
          exact ⟨by rw [HE1.out.1, HE1.out.2.1]; simp, ⟨_, by rw [HE1.out.2.2]; exact HR.out, .inl rfl⟩, Fr.refl _ _⟩
end Go.Proofs.YtcleheapfgapaaaDoor
