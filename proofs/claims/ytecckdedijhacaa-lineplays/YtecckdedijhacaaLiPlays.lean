/-
  In every order of calls numbers stand as the document says: the walk of the law LinePlays.
-/
import Derived.Test.YtecckdedijhacaaLiAwake
import Derived.Test.YtecckdedijhacaaLiRef
import Derived.Test.YtecckdedijhacaaLiOpen
namespace Go.Proofs.Ytecckdedijhacaa
open Go.RowKit

/-- Both lines behind so many rounds. -/
def Lr (W w : World) (p q j : Nat) : Prop := ∃ L y, LiOk L ∧ L.length ≤ j ∧ Things W w [Lm p L, Blk q (.cells #[y] 29 (0, 0)), Rw W.heap.size y L]
set_option maxRecDepth 20000 in
set_option maxHeartbeats 4000000 in
theorem plays_walk (sv : Value) (w : World) (h : ∃ ad cap l, sv = .slice ad (List.length l) cap ∧ OpsAt w ad l ∧ l.length ≤ maxLen) : Calls Try.prog 3 #[sv] w fun e w' => e = .returned (.bool true) ∧ Fr (fun _ => False) w w' := by
  obtain ⟨ad, cap, l, rfl, hops, hmax⟩ := h
  have HT : Hid (Things w w []) := Things.start (Nw.start w)
  have HA : Hid (∀ w0 ts, Things w w0 ts → Calls Try.prog 7 #[] w0 fun e w' => e = .returned (.bool true) ∧ Things w w' ts) := fun w0 ts h => awake_t h
  have HO := hid hops
  have H0 : Hid (∀ w0, Things w w0 [] → Calls Try.prog 8 #[] w0 fun e w' => ∃ p, e = .returned (.pointer (some ⟨p, 0, none⟩)) ∧ Things w w' [Lm p []]) := fun w0 h => l_new h
  clear hops
  go_enter Try.func3, Try.ntmps3
  go_wp2_with fail
  refine (HA.out _ _ HT.out).mono ?_
  rintro e w1 ⟨rfl, h1⟩
  have T1 := hid h1
  clear h1 HT
  by_cases hl : 500 < l.length
  · have hl' : 500 < (l.length : Int) := by omega
    clear HO H0
    go_wp2_with fail
    refine (HA.out _ _ T1.out).mono ?_
    rintro e w5 ⟨rfl, h1⟩
    have T5 := hid h1
    clear h1 T1
    go_wp2
    go_ret
    exact ⟨by simp, T5.out.nw.fr⟩
  have hl' : (l.length : Int) ≤ 500 := by omega
  clear HA
  go_wp2_with fail
  refine (H0.out _ T1.out).mono ?_
  rintro e w2 ⟨p, rfl, h1⟩
  have T2 := hid h1
  clear h1 T1 H0
  go_wp2
  generalize hq : w2.heap.size = q at *
  have TZ : Hid (Lr w (w2.alloc (.cells #[.slice none 0 0] 29)) p q 0) := ⟨[], .slice none 0 0, LiOk.none, by simp, by rw [← hq]; exact (T2.out.blk _).more (Rw.good _ _ _) (Rw.empty _ _) (Fr.refl _ _) fun _ e => e.elim⟩
  clear T2
  go_loopw [3, 23] (fun pv i wr => ∃ j p : Nat, j ≤ l.length ∧ pv = .pointer (some ⟨p, 0, none⟩) ∧ i = .int .i64 j ∧ Lr w wr p q j) (fun _ i _ => l.length - (intOf i).toNat)
  case atStart => exact ⟨0, p, by omega, rfl, rfl, TZ.out⟩
  case round =>
    clear TZ
    obtain ⟨j, p, hj, rfl, rfl, L, y, hok, hlen, ht⟩ := hrel
    have T := hid ht
    have OK0 := hid hok
    clear ht hok
    by_cases hlt : j < l.length
    case neg =>
      clear HO
      go_wp2
      go_ret
      exact ⟨by simp, T.out.nw.fr⟩
    obtain ⟨bb, off, rfl, hbb, p1, p2, hB1, hB2⟩ := HO.out.fr T.out.nw.fr j hlt
    generalize hop : l[j] = op2 at p1 p2 hB1 hB2
    obtain ⟨kd, x⟩ := op2
    simp only at p1 p2 hB1 hB2
    have HX0 : Hid (I64 x) := hB2
    have T0 : Hid (Things w (wr.alloc (.cells #[.int .i64 kd, .int .i64 x] 31)) [Lm p L, Blk q (.cells #[y] 29 (0, 0)), Rw w.heap.size y L, Blk wr.heap.size (.cells #[.int .i64 kd, .int .i64 x] 31 (0, 0))]) := T.out.blk _
    clear hop HO T hB1 hB2
    generalize hw0 : wr.alloc (.cells #[.int .i64 kd, .int .i64 x] 31) = wa at T0
    generalize hB : wr.heap.size = B at T0
    obtain ⟨c0, c1, fz⟩ := cellZ (T0.out.cells 3 rfl)
    by_cases h1 : kd = 1
    · subst h1
      have H5 : Hid (∀ w0, Things w w0 [Lm p L, Blk q (.cells #[y] 29 (0, 0)), Rw w.heap.size y L, Blk B (.cells #[.int .i64 1, .int .i64 x] 31 (0, 0))] → Calls Try.prog 9 #[.pointer (some ⟨p, 0, none⟩), .int .i64 x] w0 fun e w' => e = .returned (.int .i64 (liPE L x)) ∧ Things w w' [Lm p (liP L x), Blk q (.cells #[y] 29 (0, 0)), Rw w.heap.size y L, Blk B (.cells #[.int .i64 1, .int .i64 x] 31 (0, 0))]) := fun w0 h => l_push h 0 rfl OK0.out (by omega) HX0.out
      have H6 : Hid (∀ w0, Things w w0 [Lm p (liP L x), Blk q (.cells #[y] 29 (0, 0)), Rw w.heap.size y L, Blk B (.cells #[.int .i64 1, .int .i64 x] 31 (0, 0))] → Calls Try.prog 10 #[.pointer (some ⟨q, 0, none⟩), .int .i64 x] w0 fun e w' => e = .returned (.int .i64 (liPE L x)) ∧ ∃ y2, Things w w' [Lm p (liP L x), Blk q (.cells #[y2] 29 (0, 0)), Rw w.heap.size y2 (liP L x), Blk B (.cells #[.int .i64 1, .int .i64 x] 31 (0, 0))]) := fun w0 h => r_push h 1 2 rfl rfl (by decide) (by omega) x
      have OK2 : Hid (LiOk (liP L x)) := OK0.out.push HX0.out
      have HL2 : Hid ((liP L x).length ≤ j + 1) := by have := liP_len L x; show _ ≤ _; omega
      clear OK0
      generalize liPE L x = pe at *
      generalize liP L x = L2 at *
      go_wp2_with fail
      go_region_held3 (fun w' => w'.cell? ⟨B, 1, none⟩ = some (.int .i64 x)) (first | exact (by assumption) | go_keep) (first | (go_at_call 9; refine (H5.out _ (T0.out.kept (Fr.refl _ _).drew)).mono ?_; rintro e w6 ⟨rfl, h6⟩; have T7 := hid h6; obtain ⟨c60, c61, _⟩ := cellZ (h6.cells 3 rfl); clear h6) | (go_at_call 10; refine (H6.out _ T7.out).mono ?_; rintro e w7 ⟨rfl, y2, h7⟩; have T8 := hid h7; obtain ⟨c70, c71, _⟩ := cellZ (h7.cells 3 rfl); clear h7))
      clear H5 H6 T0 T7 c0 c1 c60 c61 fz hw0
      obtain ⟨ad2, cap2, rfl, -⟩ := T8.out.row 2 rfl
      have hLL : L2.length ≤ 501 := by have := HL2.out; omega
      have HX1 : Hid (∀ w0, Things w w0 [Lm p L2, Blk q (.cells #[(.slice ad2 L2.length cap2)] 29 (0, 0)), Rw w.heap.size (.slice ad2 L2.length cap2) L2, Blk B (.cells #[.int .i64 1, .int .i64 x] 31 (0, 0))] → Calls Try.prog 14 #[.pointer (some ⟨p, 0, none⟩)] w0 fun e w' => e = .returned (.int .i64 (liF L2)) ∧ Things w w' [Lm p L2, Blk q (.cells #[(.slice ad2 L2.length cap2)] 29 (0, 0)), Rw w.heap.size (.slice ad2 L2.length cap2) L2, Blk B (.cells #[.int .i64 1, .int .i64 x] 31 (0, 0))]) := fun w0 h => l_front h 0 rfl OK2.out
      have HX2 : Hid (∀ w0, Things w w0 [Lm p L2, Blk q (.cells #[(.slice ad2 L2.length cap2)] 29 (0, 0)), Rw w.heap.size (.slice ad2 L2.length cap2) L2, Blk B (.cells #[.int .i64 1, .int .i64 x] 31 (0, 0))] → Calls Try.prog 15 #[.pointer (some ⟨q, 0, none⟩)] w0 fun e w' => e = .returned (.int .i64 (liF L2)) ∧ Things w w' [Lm p L2, Blk q (.cells #[(.slice ad2 L2.length cap2)] 29 (0, 0)), Rw w.heap.size (.slice ad2 L2.length cap2) L2, Blk B (.cells #[.int .i64 1, .int .i64 x] 31 (0, 0))]) := fun w0 h => r_front h 1 2 rfl rfl
      have HX3 : Hid (∀ w0, Things w w0 [Lm p L2, Blk q (.cells #[(.slice ad2 L2.length cap2)] 29 (0, 0)), Rw w.heap.size (.slice ad2 L2.length cap2) L2, Blk B (.cells #[.int .i64 1, .int .i64 x] 31 (0, 0))] → Calls Try.prog 16 #[.pointer (some ⟨p, 0, none⟩), .int .i64 x] w0 fun e w' => e = .returned (.bool (decide (x ∈ L2))) ∧ Things w w' [Lm p L2, Blk q (.cells #[(.slice ad2 L2.length cap2)] 29 (0, 0)), Rw w.heap.size (.slice ad2 L2.length cap2) L2, Blk B (.cells #[.int .i64 1, .int .i64 x] 31 (0, 0))]) := fun w0 h => l_has h 0 rfl OK2.out (by omega) HX0.out
      have HX4 : Hid (∀ w0, Things w w0 [Lm p L2, Blk q (.cells #[(.slice ad2 L2.length cap2)] 29 (0, 0)), Rw w.heap.size (.slice ad2 L2.length cap2) L2, Blk B (.cells #[.int .i64 1, .int .i64 x] 31 (0, 0))] → Calls Try.prog 17 #[.pointer (some ⟨q, 0, none⟩), .int .i64 x] w0 fun e w' => e = .returned (.bool (decide (x ∈ L2))) ∧ Things w w' [Lm p L2, Blk q (.cells #[(.slice ad2 L2.length cap2)] 29 (0, 0)), Rw w.heap.size (.slice ad2 L2.length cap2) L2, Blk B (.cells #[.int .i64 1, .int .i64 x] 31 (0, 0))]) := fun w0 h => r_has h 1 2 rfl rfl (by omega) x
      have HX5 : Hid (∀ w0, Things w w0 [Lm p L2, Blk q (.cells #[(.slice ad2 L2.length cap2)] 29 (0, 0)), Rw w.heap.size (.slice ad2 L2.length cap2) L2, Blk B (.cells #[.int .i64 1, .int .i64 x] 31 (0, 0))] → Calls Try.prog 19 #[.pointer (some ⟨p, 0, none⟩)] w0 fun e w' => ∃ ad cap, e = .returned (.slice ad L2.length cap) ∧ Things w w' ([Lm p L2, Blk q (.cells #[(.slice ad2 L2.length cap2)] 29 (0, 0)), Rw w.heap.size (.slice ad2 L2.length cap2) L2, Blk B (.cells #[.int .i64 1, .int .i64 x] 31 (0, 0))] ++ [Lv ad L2])) := fun w0 h => l_all h 0 rfl OK2.out (by omega)
      have HX6 : Hid (∀ w0 ad5 cap5, Things w w0 ([Lm p L2, Blk q (.cells #[(.slice ad2 L2.length cap2)] 29 (0, 0)), Rw w.heap.size (.slice ad2 L2.length cap2) L2, Blk B (.cells #[.int .i64 1, .int .i64 x] 31 (0, 0))] ++ [Lv ad5 L2]) → Calls Try.prog 18 #[.slice ad5 L2.length cap5, .slice ad2 L2.length cap2] w0 fun e w' => e = .returned (.bool true) ∧ Things w w' [Lm p L2, Blk q (.cells #[(.slice ad2 L2.length cap2)] 29 (0, 0)), Rw w.heap.size (.slice ad2 L2.length cap2) L2, Blk B (.cells #[.int .i64 1, .int .i64 x] 31 (0, 0))]) := fun w0 ad5 cap5 h => (same_yes cap5 cap2 (h.nums 4 rfl) (h.rowNums 2 rfl) (by omega)).mono fun _ _ ⟨he, f⟩ => ⟨he, Things.less (h.kept f)⟩
      have HX7 : Hid (∀ w0, Things w w0 [Lm p L2, Blk q (.cells #[(.slice ad2 L2.length cap2)] 29 (0, 0)), Rw w.heap.size (.slice ad2 L2.length cap2) L2, Blk B (.cells #[.int .i64 1, .int .i64 x] 31 (0, 0))] → Calls Try.prog 20 #[.pointer (some ⟨p, 0, none⟩)] w0 fun e w' => e = .returned (.int .i64 L2.length) ∧ Things w w' [Lm p L2, Blk q (.cells #[(.slice ad2 L2.length cap2)] 29 (0, 0)), Rw w.heap.size (.slice ad2 L2.length cap2) L2, Blk B (.cells #[.int .i64 1, .int .i64 x] 31 (0, 0))]) := fun w0 h => l_len h 0 rfl OK2.out (by omega)
      have HXA : Hid (∀ w0, Things w w0 [Lm p L2, Blk q (.cells #[(.slice ad2 L2.length cap2)] 29 (0, 0)), Rw w.heap.size (.slice ad2 L2.length cap2) L2, Blk B (.cells #[.int .i64 1, .int .i64 x] 31 (0, 0))] → w0.cell? ⟨q, 0, none⟩ = some (.slice ad2 L2.length cap2) ∧ w0.cell? ⟨B, 1, none⟩ = some (.int .i64 x)) := fun w0 h => ⟨(cellO (h.cells 1 rfl)).1, (cellZ (h.cells 3 rfl)).2.1⟩
      have HXB : Hid (∀ w0 R, Things w w0 ([Lm p L2, Blk q (.cells #[(.slice ad2 L2.length cap2)] 29 (0, 0)), Rw w.heap.size (.slice ad2 L2.length cap2) L2, Blk B (.cells #[.int .i64 1, .int .i64 x] 31 (0, 0))] ++ [R]) → w0.cell? ⟨q, 0, none⟩ = some (.slice ad2 L2.length cap2) ∧ w0.cell? ⟨B, 1, none⟩ = some (.int .i64 x)) := fun w0 R h => HXA.out w0 (Things.less h)
      generalize liF L2 = fr at HX1 HX2
      generalize decide (x ∈ L2) = hs at HX3 HX4
      obtain ⟨y0, y1⟩ := HXA.out _ T8.out
      go_wp2_with fail
      refine wp_region_held_drew (S := fun w' => w'.cell? ⟨q, 0, none⟩ = some (.slice ad2 L2.length cap2) ∧ w'.cell? ⟨B, 1, none⟩ = some (.int .i64 x)) (by kernel_rfl) ?_ (fun hHeld => ?_)
      · exact ⟨y0, y1⟩
      refine wpAnyH_take (i := 0) (oi := ⟨some 58, _, _, _, _, _⟩) (v := ?v1) rfl (by kernel_rfl) (by kernel_rfl) (by kernel_rfl) (fun _ _ _ h => h) (Or.inl ⟨by rfl, ?hy1⟩) (by assumption) ?rest1
      case hy1 => (intro w hSw; (try dsimp only at hSw); go_simp; try with_reducible rfl)
      simp only [Act.put, List.setIfInBounds_toArray, List.set_cons_zero, List.set_cons_succ]
      refine wpAnyH_take (i := 1) (oi := ⟨some 59, _, _, _, _, _⟩) (v := ?v2) rfl (by kernel_rfl) (by kernel_rfl) (by kernel_rfl) (fun _ _ _ h => h) (Or.inl ⟨by rfl, ?hy2⟩) (by assumption) ?rest2
      case hy2 => (intro w hSw; (try dsimp only at hSw); go_simp; try with_reducible rfl)
      simp only [Act.put, List.setIfInBounds_toArray, List.set_cons_zero, List.set_cons_succ]
      refine wpAnyH_take (i := 2) (oi := ⟨some 60, _, _, _, _, _⟩) (v := ?v3) rfl (by kernel_rfl) (by kernel_rfl) (by kernel_rfl) (fun _ _ _ h => h) (Or.inl ⟨by rfl, ?hy3⟩) (by assumption) ?rest3
      case hy3 => (intro w hSw; (try dsimp only at hSw); go_simp; try with_reducible rfl)
      simp only [Act.put, List.setIfInBounds_toArray, List.set_cons_zero, List.set_cons_succ]
      refine wpAnyH_take (i := 3) (oi := ⟨some 61, _, _, _, _, _⟩) (v := ?v4) rfl (by kernel_rfl) (by kernel_rfl) (by kernel_rfl) (fun _ _ _ h => h) (Or.inl ⟨by rfl, ?hy4⟩) (by assumption) ?rest4
      case hy4 => (intro w hSw; (try dsimp only at hSw); go_simp; try with_reducible rfl)
      simp only [Act.put, List.setIfInBounds_toArray, List.set_cons_zero, List.set_cons_succ]
      refine wpAnyH_take (i := 4) (oi := ⟨some 62, _, _, _, _, _⟩) (v := ?v5) rfl (by kernel_rfl) (by kernel_rfl) (by kernel_rfl) (fun _ _ _ h => h) (Or.inl ⟨by rfl, ?hy5⟩) (by assumption) ?rest5
      case hy5 => (intro w hSw; (try dsimp only at hSw); go_simp; try with_reducible rfl)
      simp only [Act.put, List.setIfInBounds_toArray, List.set_cons_zero, List.set_cons_succ]
      refine wpAnyH_take (i := 6) (oi := ⟨some 64, _, _, _, _, _⟩) (v := ?v6) rfl (by kernel_rfl) (by kernel_rfl) (by kernel_rfl) (fun _ _ _ h => h) (Or.inl ⟨by rfl, ?hy6⟩) (by assumption) ?rest6
      case hy6 => (intro w hSw; (try dsimp only at hSw); go_simp; try with_reducible rfl)
      simp only [Act.put, List.setIfInBounds_toArray, List.set_cons_zero, List.set_cons_succ]
      refine wpAnyH_ready (rs := [5]) (by kernel_rfl) (by simp) ?_
      refine AllReadyH.cons (o := ⟨some 63, _, _, _, _, _⟩) rfl (fun K hK => ?_) AllReadyH.nil
      go_simp
      go_wp2_with (go_at_call 14; refine (HX1.out _ (T8.out.kept (Fr.refl _ _).drew)).mono ?_; rintro e v1 ⟨rfl, h1⟩; have V1 := hid h1; obtain ⟨y1a, y1b⟩ := HXA.out _ h1; clear h1)
      refine hK.out _ _ ?_ (fun hHeld => ?_)
      · exact ⟨y1a, y1b⟩
      clear hK K
      refine wpAnyH_ready (rs := [7]) (by kernel_rfl) (by simp) ?_
      refine AllReadyH.cons (o := ⟨some 65, _, _, _, _, _⟩) rfl (fun K hK => ?_) AllReadyH.nil
      go_simp
      go_wp2_with (go_at_call 15; refine (HX2.out _ V1.out).mono ?_; rintro e v2 ⟨rfl, h1⟩; have V2 := hid h1; obtain ⟨y2a, y2b⟩ := HXA.out _ h1; clear h1)
      refine hK.out _ _ ?_ (fun hHeld => ?_)
      · exact ⟨y2a, y2b⟩
      clear hK K
      refine wpAnyH_take (i := 8) (oi := ⟨some 66, _, _, _, _, _⟩) (v := ?v7) rfl (by kernel_rfl) (by kernel_rfl) (by kernel_rfl) (fun _ _ _ h => h) (Or.inl ⟨by rfl, ?hy7⟩) (by assumption) ?rest7
      case hy7 => (intro w hSw; (try dsimp only at hSw); go_simp; try with_reducible rfl)
      simp only [Act.put, List.setIfInBounds_toArray, List.set_cons_zero, List.set_cons_succ]
      refine wpAnyH_take (i := 9) (oi := ⟨some 67, _, _, _, _, _⟩) (v := ?v8) rfl (by kernel_rfl) (by kernel_rfl) (by kernel_rfl) (fun _ _ _ h => h) (Or.inl ⟨by rfl, ?hy8⟩) (by assumption) ?rest8
      case hy8 => (intro w hSw; (try dsimp only at hSw); go_simp; try with_reducible rfl)
      simp only [Act.put, List.setIfInBounds_toArray, List.set_cons_zero, List.set_cons_succ]
      refine wpAnyH_take (i := 10) (oi := ⟨some 68, _, _, _, _, _⟩) (v := ?v9) rfl (by kernel_rfl) (by kernel_rfl) (by kernel_rfl) (fun _ _ _ h => h) (Or.inl ⟨by rfl, ?hy9⟩) (by assumption) ?rest9
      case hy9 => (intro w hSw; (try dsimp only at hSw); go_simp; try with_reducible rfl)
      simp only [Act.put, List.setIfInBounds_toArray, List.set_cons_zero, List.set_cons_succ]
      refine wpAnyH_take (i := 11) (oi := ⟨some 69, _, _, _, _, _⟩) (v := ?v10) rfl (by kernel_rfl) (by kernel_rfl) (by kernel_rfl) (fun _ _ _ h => h) (Or.inl ⟨by rfl, ?hy10⟩) (by assumption) ?rest10
      case hy10 => (intro w hSw; (try dsimp only at hSw); go_simp; try with_reducible rfl)
      simp only [Act.put, List.setIfInBounds_toArray, List.set_cons_zero, List.set_cons_succ]
      refine wpAnyH_take (i := 12) (oi := ⟨some 70, _, _, _, _, _⟩) (v := ?v11) rfl (by kernel_rfl) (by kernel_rfl) (by kernel_rfl) (fun _ _ _ h => h) (Or.inl ⟨by rfl, ?hy11⟩) (by assumption) ?rest11
      case hy11 => (intro w hSw; (try dsimp only at hSw); go_simp; try with_reducible rfl)
      simp only [Act.put, List.setIfInBounds_toArray, List.set_cons_zero, List.set_cons_succ]
      refine wpAnyH_take (i := 13) (oi := ⟨some 71, _, _, _, _, _⟩) (v := ?v12) rfl (by kernel_rfl) (by kernel_rfl) (by kernel_rfl) (fun _ _ _ h => h) (Or.inl ⟨by rfl, ?hy12⟩) (by assumption) ?rest12
      case hy12 => (intro w hSw; (try dsimp only at hSw); go_simp; try with_reducible rfl)
      simp only [Act.put, List.setIfInBounds_toArray, List.set_cons_zero, List.set_cons_succ]
      refine wpAnyH_take (i := 15) (oi := ⟨some 73, _, _, _, _, _⟩) (v := ?v13) rfl (by kernel_rfl) (by kernel_rfl) (by kernel_rfl) (fun _ _ _ h => h) (Or.inl ⟨by rfl, ?hy13⟩) (by assumption) ?rest13
      case hy13 => (intro w hSw; (try dsimp only at hSw); go_simp; try with_reducible rfl)
      simp only [Act.put, List.setIfInBounds_toArray, List.set_cons_zero, List.set_cons_succ]
      refine wpAnyH_take (i := 16) (oi := ⟨some 74, _, _, _, _, _⟩) (v := ?v14) rfl (by kernel_rfl) (by kernel_rfl) (by kernel_rfl) (fun _ _ _ h => h) (Or.inl ⟨by rfl, ?hy14⟩) (by assumption) ?rest14
      case hy14 => (intro w hSw; (try dsimp only at hSw); go_simp; try with_reducible rfl)
      simp only [Act.put, List.setIfInBounds_toArray, List.set_cons_zero, List.set_cons_succ]
      refine wpAnyH_take (i := 17) (oi := ⟨some 75, _, _, _, _, _⟩) (v := ?v15) rfl (by kernel_rfl) (by kernel_rfl) (by kernel_rfl) (fun _ _ _ h => h) (Or.inl ⟨by rfl, ?hy15⟩) (by assumption) ?rest15
      case hy15 => (intro w hSw; (try dsimp only at hSw); go_simp; try with_reducible rfl)
      simp only [Act.put, List.setIfInBounds_toArray, List.set_cons_zero, List.set_cons_succ]
      refine wpAnyH_ready (rs := [14]) (by kernel_rfl) (by simp) ?_
      refine AllReadyH.cons (o := ⟨some 72, _, _, _, _, _⟩) rfl (fun K hK => ?_) AllReadyH.nil
      go_simp
      go_wp2_with (go_at_call 16; refine (HX3.out _ V2.out).mono ?_; rintro e v3 ⟨rfl, h1⟩; have V3 := hid h1; obtain ⟨y3a, y3b⟩ := HXA.out _ h1; clear h1)
      refine hK.out _ _ ?_ (fun hHeld => ?_)
      · exact ⟨y3a, y3b⟩
      clear hK K
      refine wpAnyH_ready (rs := [18]) (by kernel_rfl) (by simp) ?_
      refine AllReadyH.cons (o := ⟨some 76, _, _, _, _, _⟩) rfl (fun K hK => ?_) AllReadyH.nil
      go_simp
      go_wp2_with (go_at_call 17; refine (HX4.out _ V3.out).mono ?_; rintro e v4 ⟨rfl, h1⟩; have V4 := hid h1; obtain ⟨y4a, y4b⟩ := HXA.out _ h1; clear h1)
      refine hK.out _ _ ?_ (fun hHeld => ?_)
      · exact ⟨y4a, y4b⟩
      clear hK K
      refine wpAnyH_take (i := 19) (oi := ⟨some 77, _, _, _, _, _⟩) (v := ?v16) rfl (by kernel_rfl) (by kernel_rfl) (by kernel_rfl) (fun _ _ _ h => h) (Or.inl ⟨by rfl, ?hy16⟩) (by assumption) ?rest16
      case hy16 => (intro w hSw; (try dsimp only at hSw); go_simp; try with_reducible rfl)
      simp only [Act.put, List.setIfInBounds_toArray, List.set_cons_zero, List.set_cons_succ]
      refine wpAnyH_take (i := 20) (oi := ⟨some 78, _, _, _, _, _⟩) (v := ?v17) rfl (by kernel_rfl) (by kernel_rfl) (by kernel_rfl) (fun _ _ _ h => h) (Or.inl ⟨by rfl, ?hy17⟩) (by assumption) ?rest17
      case hy17 => (intro w hSw; (try dsimp only at hSw); go_simp; try with_reducible rfl)
      simp only [Act.put, List.setIfInBounds_toArray, List.set_cons_zero, List.set_cons_succ]
      refine wpAnyH_take (i := 21) (oi := ⟨some 79, _, _, _, _, _⟩) (v := ?v18) rfl (by kernel_rfl) (by kernel_rfl) (by kernel_rfl) (fun _ _ _ h => h) (Or.inl ⟨by rfl, ?hy18⟩) (by assumption) ?rest18
      case hy18 => (intro w hSw; (try dsimp only at hSw); go_simp; try with_reducible rfl)
      simp only [Act.put, List.setIfInBounds_toArray, List.set_cons_zero, List.set_cons_succ]
      refine wpAnyH_take (i := 22) (oi := ⟨some 80, _, _, _, _, _⟩) (v := ?v19) rfl (by kernel_rfl) (by kernel_rfl) (by kernel_rfl) (fun _ _ _ h => h) (Or.inl ⟨by rfl, ?hy19⟩) (by assumption) ?rest19
      case hy19 => (intro w hSw; (try dsimp only at hSw); go_simp; try with_reducible rfl)
      simp only [Act.put, List.setIfInBounds_toArray, List.set_cons_zero, List.set_cons_succ]
      refine wpAnyH_take (i := 24) (oi := ⟨some 82, _, _, _, _, _⟩) (v := ?v20) rfl (by kernel_rfl) (by kernel_rfl) (by kernel_rfl) (fun _ _ _ h => h) (Or.inl ⟨by rfl, ?hy20⟩) (by assumption) ?rest20
      case hy20 => (intro w hSw; (try dsimp only at hSw); go_simp; try with_reducible rfl)
      simp only [Act.put, List.setIfInBounds_toArray, List.set_cons_zero, List.set_cons_succ]
      refine wpAnyH_take (i := 25) (oi := ⟨some 83, _, _, _, _, _⟩) (v := ?v21) rfl (by kernel_rfl) (by kernel_rfl) (by kernel_rfl) (fun _ _ _ h => h) (Or.inl ⟨by rfl, ?hy21⟩) (by assumption) ?rest21
      case hy21 => (intro w hSw; (try dsimp only at hSw); go_simp; try with_reducible rfl)
      simp only [Act.put, List.setIfInBounds_toArray, List.set_cons_zero, List.set_cons_succ]
      refine wpAnyH_take (i := 26) (oi := ⟨some 84, _, _, _, _, _⟩) (v := ?v22) rfl (by kernel_rfl) (by kernel_rfl) (by kernel_rfl) (fun _ _ _ h => h) (Or.inl ⟨by rfl, ?hy22⟩) (by assumption) ?rest22
      case hy22 => (intro w hSw; (try dsimp only at hSw); go_simp; try with_reducible rfl)
      simp only [Act.put, List.setIfInBounds_toArray, List.set_cons_zero, List.set_cons_succ]
      refine wpAnyH_take (i := 27) (oi := ⟨some 85, _, _, _, _, _⟩) (v := ?v23) rfl (by kernel_rfl) (by kernel_rfl) (by kernel_rfl) (fun _ _ _ h => h) (Or.inl ⟨by rfl, ?hy23⟩) (by assumption) ?rest23
      case hy23 => (intro w hSw; (try dsimp only at hSw); go_simp; try with_reducible rfl)
      simp only [Act.put, List.setIfInBounds_toArray, List.set_cons_zero, List.set_cons_succ]
      refine wpAnyH_ready (rs := [23]) (by kernel_rfl) (by simp) ?_
      refine AllReadyH.cons (o := ⟨some 81, _, _, _, _, _⟩) rfl (fun K hK => ?_) AllReadyH.nil
      go_simp
      go_wp2_with (go_at_call 19; refine (HX5.out _ V4.out).mono ?_; rintro e v5 ⟨ad5, cap5, rfl, h1⟩; have V5 := hid h1; obtain ⟨y5a, y5b⟩ := HXB.out _ _ h1; clear h1)
      refine hK.out _ _ ?_ (fun hHeld => ?_)
      · exact ⟨y5a, y5b⟩
      clear hK K
      refine wpAnyH_ready (rs := [28]) (by kernel_rfl) (by simp) ?_
      refine AllReadyH.cons (o := ⟨some 86, _, _, _, _, _⟩) rfl (fun K hK => ?_) AllReadyH.nil
      go_simp
      go_wp2_with (go_at_call 18; refine (HX6.out _ _ cap5 V5.out).mono ?_; rintro e v6 ⟨rfl, h1⟩; have V6 := hid h1; obtain ⟨y6a, y6b⟩ := HXA.out _ h1; clear h1)
      refine hK.out _ _ ?_ (fun hHeld => ?_)
      · exact ⟨y6a, y6b⟩
      clear hK K
      refine wpAnyH_take (i := 29) (oi := ⟨some 87, _, _, _, _, _⟩) (v := ?v24) rfl (by kernel_rfl) (by kernel_rfl) (by kernel_rfl) (fun _ _ _ h => h) (Or.inl ⟨by rfl, ?hy24⟩) (by assumption) ?rest24
      case hy24 => (intro w hSw; (try dsimp only at hSw); go_simp; try with_reducible rfl)
      simp only [Act.put, List.setIfInBounds_toArray, List.set_cons_zero, List.set_cons_succ]
      refine wpAnyH_take (i := 30) (oi := ⟨some 88, _, _, _, _, _⟩) (v := ?v25) rfl (by kernel_rfl) (by kernel_rfl) (by kernel_rfl) (fun _ _ _ h => h) (Or.inl ⟨by rfl, ?hy25⟩) (by assumption) ?rest25
      case hy25 => (intro w hSw; (try dsimp only at hSw); go_simp; try with_reducible rfl)
      simp only [Act.put, List.setIfInBounds_toArray, List.set_cons_zero, List.set_cons_succ]
      refine wpAnyH_take (i := 31) (oi := ⟨some 89, _, _, _, _, _⟩) (v := ?v26) rfl (by kernel_rfl) (by kernel_rfl) (by kernel_rfl) (fun _ _ _ h => h) (Or.inl ⟨by rfl, ?hy26⟩) (by assumption) ?rest26
      case hy26 => (intro w hSw; (try dsimp only at hSw); go_simp; try with_reducible rfl)
      simp only [Act.put, List.setIfInBounds_toArray, List.set_cons_zero, List.set_cons_succ]
      refine wpAnyH_take (i := 32) (oi := ⟨some 90, _, _, _, _, _⟩) (v := ?v27) rfl (by kernel_rfl) (by kernel_rfl) (by kernel_rfl) (fun _ _ _ h => h) (Or.inl ⟨by rfl, ?hy27⟩) (by assumption) ?rest27
      case hy27 => (intro w hSw; (try dsimp only at hSw); go_simp; try with_reducible rfl)
      simp only [Act.put, List.setIfInBounds_toArray, List.set_cons_zero, List.set_cons_succ]
      refine wpAnyH_take (i := 34) (oi := ⟨some 92, _, _, _, _, _⟩) (v := ?v28) rfl (by kernel_rfl) (by kernel_rfl) (by kernel_rfl) (fun _ _ _ h => h) (Or.inl ⟨by rfl, ?hy28⟩) (by assumption) ?rest28
      case hy28 => (intro w hSw; (try dsimp only at hSw); go_simp; try with_reducible rfl)
      simp only [Act.put, List.setIfInBounds_toArray, List.set_cons_zero, List.set_cons_succ]
      refine wpAnyH_take (i := 35) (oi := ⟨some 93, _, _, _, _, _⟩) (v := ?v29) rfl (by kernel_rfl) (by kernel_rfl) (by kernel_rfl) (fun _ _ _ h => h) (Or.inl ⟨by rfl, ?hy29⟩) (by assumption) ?rest29
      case hy29 => (intro w hSw; (try dsimp only at hSw); go_simp; try with_reducible rfl)
      simp only [Act.put, List.setIfInBounds_toArray, List.set_cons_zero, List.set_cons_succ]
      refine wpAnyH_take (i := 36) (oi := ⟨some 94, _, _, _, _, _⟩) (v := ?v30) rfl (by kernel_rfl) (by kernel_rfl) (by kernel_rfl) (fun _ _ _ h => h) (Or.inl ⟨by rfl, ?hy30⟩) (by assumption) ?rest30
      case hy30 => (intro w hSw; (try dsimp only at hSw); go_simp; try with_reducible rfl)
      simp only [Act.put, List.setIfInBounds_toArray, List.set_cons_zero, List.set_cons_succ]
      refine wpAnyH_take (i := 37) (oi := ⟨some 95, _, _, _, _, _⟩) (v := ?v31) rfl (by kernel_rfl) (by kernel_rfl) (by kernel_rfl) (fun _ _ _ h => h) (Or.inl ⟨by rfl, ?hy31⟩) (by assumption) ?rest31
      case hy31 => (intro w hSw; (try dsimp only at hSw); go_simp; try with_reducible rfl)
      simp only [Act.put, List.setIfInBounds_toArray, List.set_cons_zero, List.set_cons_succ]
      refine wpAnyH_take (i := 38) (oi := ⟨some 96, _, _, _, _, _⟩) (v := ?v32) rfl (by kernel_rfl) (by kernel_rfl) (by kernel_rfl) (fun _ _ _ h => h) (Or.inl ⟨by rfl, ?hy32⟩) (by assumption) ?rest32
      case hy32 => (intro w hSw; (try dsimp only at hSw); go_simp; try with_reducible rfl)
      simp only [Act.put, List.setIfInBounds_toArray, List.set_cons_zero, List.set_cons_succ]
      refine wpAnyH_ready (rs := [33]) (by kernel_rfl) (by simp) ?_
      refine AllReadyH.cons (o := ⟨some 91, _, _, _, _, _⟩) rfl (fun K hK => ?_) AllReadyH.nil
      go_simp
      go_wp2_with (go_at_call 20; refine (HX7.out _ V6.out).mono ?_; rintro e v7 ⟨rfl, h1⟩; have V7 := hid h1; obtain ⟨y7a, y7b⟩ := HXA.out _ h1; clear h1)
      refine hK.out _ _ ?_ (fun hHeld => ?_)
      · exact ⟨y7a, y7b⟩
      clear hK K
      refine wpAnyH_take (i := 39) (oi := ⟨some 97, _, _, _, _, _⟩) (v := ?v33) rfl (by kernel_rfl) (by kernel_rfl) (by kernel_rfl) (fun _ _ _ h => h) (Or.inl ⟨by rfl, ?hy33⟩) (by assumption) ?rest33
      case hy33 => (intro w hSw; (try dsimp only at hSw); go_simp; try with_reducible rfl)
      simp only [Act.put, List.setIfInBounds_toArray, List.set_cons_zero, List.set_cons_succ]
      refine wpAnyH_take (i := 40) (oi := ⟨some 98, _, _, _, _, _⟩) (v := ?v34) rfl (by kernel_rfl) (by kernel_rfl) (by kernel_rfl) (fun _ _ _ h => h) (Or.inl ⟨by rfl, ?hy34⟩) (by assumption) ?rest34
      case hy34 => (intro w hSw; (try dsimp only at hSw); go_simp; try with_reducible rfl)
      simp only [Act.put, List.setIfInBounds_toArray, List.set_cons_zero, List.set_cons_succ]
      refine wpAnyH_done (by kernel_rfl) ?_ _
      go_wp2
      go_roundw
      case rel => exact ⟨j + 1, p, by omega, rfl, by go_num, L2, _, OK2.out, HL2.out, Things.less (ts := [_, _, _]) V7.out⟩
      case measure => simp [intOf]; omega
    have n1 := h1
    clear h1
    by_cases h1 : kd = 2
    · subst h1
      have H5 : Hid (∀ w0, Things w w0 [Lm p L, Blk q (.cells #[y] 29 (0, 0)), Rw w.heap.size y L, Blk B (.cells #[.int .i64 2, .int .i64 x] 31 (0, 0))] → Calls Try.prog 11 #[.pointer (some ⟨p, 0, none⟩), .int .i64 x] w0 fun e w' => e = .returned (.int .i64 (liRE L x)) ∧ Things w w' [Lm p (liR L x), Blk q (.cells #[y] 29 (0, 0)), Rw w.heap.size y L, Blk B (.cells #[.int .i64 2, .int .i64 x] 31 (0, 0))]) := fun w0 h => l_remove h 0 rfl OK0.out (by omega) HX0.out
      have H6 : Hid (∀ w0, Things w w0 [Lm p (liR L x), Blk q (.cells #[y] 29 (0, 0)), Rw w.heap.size y L, Blk B (.cells #[.int .i64 2, .int .i64 x] 31 (0, 0))] → Calls Try.prog 12 #[.pointer (some ⟨q, 0, none⟩), .int .i64 x] w0 fun e w' => e = .returned (.int .i64 (liRE L x)) ∧ ∃ y2, Things w w' [Lm p (liR L x), Blk q (.cells #[y2] 29 (0, 0)), Rw w.heap.size y2 (liR L x), Blk B (.cells #[.int .i64 2, .int .i64 x] 31 (0, 0))]) := fun w0 h => r_remove h 1 2 rfl rfl (by decide) (by omega) x
      have OK2 : Hid (LiOk (liR L x)) := OK0.out.remove x
      have HL2 : Hid ((liR L x).length ≤ j + 1) := by have := liR_len L x; show _ ≤ _; omega
      clear OK0
      generalize liRE L x = pe at *
      generalize liR L x = L2 at *
      go_wp2_with fail
      go_region_held3 (fun w' => w'.cell? ⟨B, 1, none⟩ = some (.int .i64 x)) (first | exact (by assumption) | go_keep) (first | (go_at_call 11; refine (H5.out _ (T0.out.kept (Fr.refl _ _).drew)).mono ?_; rintro e w6 ⟨rfl, h6⟩; have T7 := hid h6; obtain ⟨c60, c61, _⟩ := cellZ (h6.cells 3 rfl); clear h6) | (go_at_call 12; refine (H6.out _ T7.out).mono ?_; rintro e w7 ⟨rfl, y2, h7⟩; have T8 := hid h7; obtain ⟨c70, c71, _⟩ := cellZ (h7.cells 3 rfl); clear h7))
      clear H5 H6 T0 T7 c0 c1 c60 c61 fz hw0
      obtain ⟨ad2, cap2, rfl, -⟩ := T8.out.row 2 rfl
      have hLL : L2.length ≤ 501 := by have := HL2.out; omega
      have HX1 : Hid (∀ w0, Things w w0 [Lm p L2, Blk q (.cells #[(.slice ad2 L2.length cap2)] 29 (0, 0)), Rw w.heap.size (.slice ad2 L2.length cap2) L2, Blk B (.cells #[.int .i64 2, .int .i64 x] 31 (0, 0))] → Calls Try.prog 14 #[.pointer (some ⟨p, 0, none⟩)] w0 fun e w' => e = .returned (.int .i64 (liF L2)) ∧ Things w w' [Lm p L2, Blk q (.cells #[(.slice ad2 L2.length cap2)] 29 (0, 0)), Rw w.heap.size (.slice ad2 L2.length cap2) L2, Blk B (.cells #[.int .i64 2, .int .i64 x] 31 (0, 0))]) := fun w0 h => l_front h 0 rfl OK2.out
      have HX2 : Hid (∀ w0, Things w w0 [Lm p L2, Blk q (.cells #[(.slice ad2 L2.length cap2)] 29 (0, 0)), Rw w.heap.size (.slice ad2 L2.length cap2) L2, Blk B (.cells #[.int .i64 2, .int .i64 x] 31 (0, 0))] → Calls Try.prog 15 #[.pointer (some ⟨q, 0, none⟩)] w0 fun e w' => e = .returned (.int .i64 (liF L2)) ∧ Things w w' [Lm p L2, Blk q (.cells #[(.slice ad2 L2.length cap2)] 29 (0, 0)), Rw w.heap.size (.slice ad2 L2.length cap2) L2, Blk B (.cells #[.int .i64 2, .int .i64 x] 31 (0, 0))]) := fun w0 h => r_front h 1 2 rfl rfl
      have HX3 : Hid (∀ w0, Things w w0 [Lm p L2, Blk q (.cells #[(.slice ad2 L2.length cap2)] 29 (0, 0)), Rw w.heap.size (.slice ad2 L2.length cap2) L2, Blk B (.cells #[.int .i64 2, .int .i64 x] 31 (0, 0))] → Calls Try.prog 16 #[.pointer (some ⟨p, 0, none⟩), .int .i64 x] w0 fun e w' => e = .returned (.bool (decide (x ∈ L2))) ∧ Things w w' [Lm p L2, Blk q (.cells #[(.slice ad2 L2.length cap2)] 29 (0, 0)), Rw w.heap.size (.slice ad2 L2.length cap2) L2, Blk B (.cells #[.int .i64 2, .int .i64 x] 31 (0, 0))]) := fun w0 h => l_has h 0 rfl OK2.out (by omega) HX0.out
      have HX4 : Hid (∀ w0, Things w w0 [Lm p L2, Blk q (.cells #[(.slice ad2 L2.length cap2)] 29 (0, 0)), Rw w.heap.size (.slice ad2 L2.length cap2) L2, Blk B (.cells #[.int .i64 2, .int .i64 x] 31 (0, 0))] → Calls Try.prog 17 #[.pointer (some ⟨q, 0, none⟩), .int .i64 x] w0 fun e w' => e = .returned (.bool (decide (x ∈ L2))) ∧ Things w w' [Lm p L2, Blk q (.cells #[(.slice ad2 L2.length cap2)] 29 (0, 0)), Rw w.heap.size (.slice ad2 L2.length cap2) L2, Blk B (.cells #[.int .i64 2, .int .i64 x] 31 (0, 0))]) := fun w0 h => r_has h 1 2 rfl rfl (by omega) x
      have HX5 : Hid (∀ w0, Things w w0 [Lm p L2, Blk q (.cells #[(.slice ad2 L2.length cap2)] 29 (0, 0)), Rw w.heap.size (.slice ad2 L2.length cap2) L2, Blk B (.cells #[.int .i64 2, .int .i64 x] 31 (0, 0))] → Calls Try.prog 19 #[.pointer (some ⟨p, 0, none⟩)] w0 fun e w' => ∃ ad cap, e = .returned (.slice ad L2.length cap) ∧ Things w w' ([Lm p L2, Blk q (.cells #[(.slice ad2 L2.length cap2)] 29 (0, 0)), Rw w.heap.size (.slice ad2 L2.length cap2) L2, Blk B (.cells #[.int .i64 2, .int .i64 x] 31 (0, 0))] ++ [Lv ad L2])) := fun w0 h => l_all h 0 rfl OK2.out (by omega)
      have HX6 : Hid (∀ w0 ad5 cap5, Things w w0 ([Lm p L2, Blk q (.cells #[(.slice ad2 L2.length cap2)] 29 (0, 0)), Rw w.heap.size (.slice ad2 L2.length cap2) L2, Blk B (.cells #[.int .i64 2, .int .i64 x] 31 (0, 0))] ++ [Lv ad5 L2]) → Calls Try.prog 18 #[.slice ad5 L2.length cap5, .slice ad2 L2.length cap2] w0 fun e w' => e = .returned (.bool true) ∧ Things w w' [Lm p L2, Blk q (.cells #[(.slice ad2 L2.length cap2)] 29 (0, 0)), Rw w.heap.size (.slice ad2 L2.length cap2) L2, Blk B (.cells #[.int .i64 2, .int .i64 x] 31 (0, 0))]) := fun w0 ad5 cap5 h => (same_yes cap5 cap2 (h.nums 4 rfl) (h.rowNums 2 rfl) (by omega)).mono fun _ _ ⟨he, f⟩ => ⟨he, Things.less (h.kept f)⟩
      have HX7 : Hid (∀ w0, Things w w0 [Lm p L2, Blk q (.cells #[(.slice ad2 L2.length cap2)] 29 (0, 0)), Rw w.heap.size (.slice ad2 L2.length cap2) L2, Blk B (.cells #[.int .i64 2, .int .i64 x] 31 (0, 0))] → Calls Try.prog 20 #[.pointer (some ⟨p, 0, none⟩)] w0 fun e w' => e = .returned (.int .i64 L2.length) ∧ Things w w' [Lm p L2, Blk q (.cells #[(.slice ad2 L2.length cap2)] 29 (0, 0)), Rw w.heap.size (.slice ad2 L2.length cap2) L2, Blk B (.cells #[.int .i64 2, .int .i64 x] 31 (0, 0))]) := fun w0 h => l_len h 0 rfl OK2.out (by omega)
      have HXA : Hid (∀ w0, Things w w0 [Lm p L2, Blk q (.cells #[(.slice ad2 L2.length cap2)] 29 (0, 0)), Rw w.heap.size (.slice ad2 L2.length cap2) L2, Blk B (.cells #[.int .i64 2, .int .i64 x] 31 (0, 0))] → w0.cell? ⟨q, 0, none⟩ = some (.slice ad2 L2.length cap2) ∧ w0.cell? ⟨B, 1, none⟩ = some (.int .i64 x)) := fun w0 h => ⟨(cellO (h.cells 1 rfl)).1, (cellZ (h.cells 3 rfl)).2.1⟩
      have HXB : Hid (∀ w0 R, Things w w0 ([Lm p L2, Blk q (.cells #[(.slice ad2 L2.length cap2)] 29 (0, 0)), Rw w.heap.size (.slice ad2 L2.length cap2) L2, Blk B (.cells #[.int .i64 2, .int .i64 x] 31 (0, 0))] ++ [R]) → w0.cell? ⟨q, 0, none⟩ = some (.slice ad2 L2.length cap2) ∧ w0.cell? ⟨B, 1, none⟩ = some (.int .i64 x)) := fun w0 R h => HXA.out w0 (Things.less h)
      generalize liF L2 = fr at HX1 HX2
      generalize decide (x ∈ L2) = hs at HX3 HX4
      obtain ⟨y0, y1⟩ := HXA.out _ T8.out
      go_wp2_with fail
      refine wp_region_held_drew (S := fun w' => w'.cell? ⟨q, 0, none⟩ = some (.slice ad2 L2.length cap2) ∧ w'.cell? ⟨B, 1, none⟩ = some (.int .i64 x)) (by kernel_rfl) ?_ (fun hHeld => ?_)
      · exact ⟨y0, y1⟩
      refine wpAnyH_take (i := 0) (oi := ⟨some 58, _, _, _, _, _⟩) (v := ?v35) rfl (by kernel_rfl) (by kernel_rfl) (by kernel_rfl) (fun _ _ _ h => h) (Or.inl ⟨by rfl, ?hy35⟩) (by assumption) ?rest35
      case hy35 => (intro w hSw; (try dsimp only at hSw); go_simp; try with_reducible rfl)
      simp only [Act.put, List.setIfInBounds_toArray, List.set_cons_zero, List.set_cons_succ]
      refine wpAnyH_take (i := 1) (oi := ⟨some 59, _, _, _, _, _⟩) (v := ?v36) rfl (by kernel_rfl) (by kernel_rfl) (by kernel_rfl) (fun _ _ _ h => h) (Or.inl ⟨by rfl, ?hy36⟩) (by assumption) ?rest36
      case hy36 => (intro w hSw; (try dsimp only at hSw); go_simp; try with_reducible rfl)
      simp only [Act.put, List.setIfInBounds_toArray, List.set_cons_zero, List.set_cons_succ]
      refine wpAnyH_take (i := 2) (oi := ⟨some 60, _, _, _, _, _⟩) (v := ?v37) rfl (by kernel_rfl) (by kernel_rfl) (by kernel_rfl) (fun _ _ _ h => h) (Or.inl ⟨by rfl, ?hy37⟩) (by assumption) ?rest37
      case hy37 => (intro w hSw; (try dsimp only at hSw); go_simp; try with_reducible rfl)
      simp only [Act.put, List.setIfInBounds_toArray, List.set_cons_zero, List.set_cons_succ]
      refine wpAnyH_take (i := 3) (oi := ⟨some 61, _, _, _, _, _⟩) (v := ?v38) rfl (by kernel_rfl) (by kernel_rfl) (by kernel_rfl) (fun _ _ _ h => h) (Or.inl ⟨by rfl, ?hy38⟩) (by assumption) ?rest38
      case hy38 => (intro w hSw; (try dsimp only at hSw); go_simp; try with_reducible rfl)
      simp only [Act.put, List.setIfInBounds_toArray, List.set_cons_zero, List.set_cons_succ]
      refine wpAnyH_take (i := 4) (oi := ⟨some 62, _, _, _, _, _⟩) (v := ?v39) rfl (by kernel_rfl) (by kernel_rfl) (by kernel_rfl) (fun _ _ _ h => h) (Or.inl ⟨by rfl, ?hy39⟩) (by assumption) ?rest39
      case hy39 => (intro w hSw; (try dsimp only at hSw); go_simp; try with_reducible rfl)
      simp only [Act.put, List.setIfInBounds_toArray, List.set_cons_zero, List.set_cons_succ]
      refine wpAnyH_take (i := 6) (oi := ⟨some 64, _, _, _, _, _⟩) (v := ?v40) rfl (by kernel_rfl) (by kernel_rfl) (by kernel_rfl) (fun _ _ _ h => h) (Or.inl ⟨by rfl, ?hy40⟩) (by assumption) ?rest40
      case hy40 => (intro w hSw; (try dsimp only at hSw); go_simp; try with_reducible rfl)
      simp only [Act.put, List.setIfInBounds_toArray, List.set_cons_zero, List.set_cons_succ]
      refine wpAnyH_ready (rs := [5]) (by kernel_rfl) (by simp) ?_
      refine AllReadyH.cons (o := ⟨some 63, _, _, _, _, _⟩) rfl (fun K hK => ?_) AllReadyH.nil
      go_simp
      go_wp2_with (go_at_call 14; refine (HX1.out _ (T8.out.kept (Fr.refl _ _).drew)).mono ?_; rintro e v1 ⟨rfl, h1⟩; have V1 := hid h1; obtain ⟨y1a, y1b⟩ := HXA.out _ h1; clear h1)
      refine hK.out _ _ ?_ (fun hHeld => ?_)
      · exact ⟨y1a, y1b⟩
      clear hK K
      refine wpAnyH_ready (rs := [7]) (by kernel_rfl) (by simp) ?_
      refine AllReadyH.cons (o := ⟨some 65, _, _, _, _, _⟩) rfl (fun K hK => ?_) AllReadyH.nil
      go_simp
      go_wp2_with (go_at_call 15; refine (HX2.out _ V1.out).mono ?_; rintro e v2 ⟨rfl, h1⟩; have V2 := hid h1; obtain ⟨y2a, y2b⟩ := HXA.out _ h1; clear h1)
      refine hK.out _ _ ?_ (fun hHeld => ?_)
      · exact ⟨y2a, y2b⟩
      clear hK K
      refine wpAnyH_take (i := 8) (oi := ⟨some 66, _, _, _, _, _⟩) (v := ?v41) rfl (by kernel_rfl) (by kernel_rfl) (by kernel_rfl) (fun _ _ _ h => h) (Or.inl ⟨by rfl, ?hy41⟩) (by assumption) ?rest41
      case hy41 => (intro w hSw; (try dsimp only at hSw); go_simp; try with_reducible rfl)
      simp only [Act.put, List.setIfInBounds_toArray, List.set_cons_zero, List.set_cons_succ]
      refine wpAnyH_take (i := 9) (oi := ⟨some 67, _, _, _, _, _⟩) (v := ?v42) rfl (by kernel_rfl) (by kernel_rfl) (by kernel_rfl) (fun _ _ _ h => h) (Or.inl ⟨by rfl, ?hy42⟩) (by assumption) ?rest42
      case hy42 => (intro w hSw; (try dsimp only at hSw); go_simp; try with_reducible rfl)
      simp only [Act.put, List.setIfInBounds_toArray, List.set_cons_zero, List.set_cons_succ]
      refine wpAnyH_take (i := 10) (oi := ⟨some 68, _, _, _, _, _⟩) (v := ?v43) rfl (by kernel_rfl) (by kernel_rfl) (by kernel_rfl) (fun _ _ _ h => h) (Or.inl ⟨by rfl, ?hy43⟩) (by assumption) ?rest43
      case hy43 => (intro w hSw; (try dsimp only at hSw); go_simp; try with_reducible rfl)
      simp only [Act.put, List.setIfInBounds_toArray, List.set_cons_zero, List.set_cons_succ]
      refine wpAnyH_take (i := 11) (oi := ⟨some 69, _, _, _, _, _⟩) (v := ?v44) rfl (by kernel_rfl) (by kernel_rfl) (by kernel_rfl) (fun _ _ _ h => h) (Or.inl ⟨by rfl, ?hy44⟩) (by assumption) ?rest44
      case hy44 => (intro w hSw; (try dsimp only at hSw); go_simp; try with_reducible rfl)
      simp only [Act.put, List.setIfInBounds_toArray, List.set_cons_zero, List.set_cons_succ]
      refine wpAnyH_take (i := 12) (oi := ⟨some 70, _, _, _, _, _⟩) (v := ?v45) rfl (by kernel_rfl) (by kernel_rfl) (by kernel_rfl) (fun _ _ _ h => h) (Or.inl ⟨by rfl, ?hy45⟩) (by assumption) ?rest45
      case hy45 => (intro w hSw; (try dsimp only at hSw); go_simp; try with_reducible rfl)
      simp only [Act.put, List.setIfInBounds_toArray, List.set_cons_zero, List.set_cons_succ]
      refine wpAnyH_take (i := 13) (oi := ⟨some 71, _, _, _, _, _⟩) (v := ?v46) rfl (by kernel_rfl) (by kernel_rfl) (by kernel_rfl) (fun _ _ _ h => h) (Or.inl ⟨by rfl, ?hy46⟩) (by assumption) ?rest46
      case hy46 => (intro w hSw; (try dsimp only at hSw); go_simp; try with_reducible rfl)
      simp only [Act.put, List.setIfInBounds_toArray, List.set_cons_zero, List.set_cons_succ]
      refine wpAnyH_take (i := 15) (oi := ⟨some 73, _, _, _, _, _⟩) (v := ?v47) rfl (by kernel_rfl) (by kernel_rfl) (by kernel_rfl) (fun _ _ _ h => h) (Or.inl ⟨by rfl, ?hy47⟩) (by assumption) ?rest47
      case hy47 => (intro w hSw; (try dsimp only at hSw); go_simp; try with_reducible rfl)
      simp only [Act.put, List.setIfInBounds_toArray, List.set_cons_zero, List.set_cons_succ]
      refine wpAnyH_take (i := 16) (oi := ⟨some 74, _, _, _, _, _⟩) (v := ?v48) rfl (by kernel_rfl) (by kernel_rfl) (by kernel_rfl) (fun _ _ _ h => h) (Or.inl ⟨by rfl, ?hy48⟩) (by assumption) ?rest48
      case hy48 => (intro w hSw; (try dsimp only at hSw); go_simp; try with_reducible rfl)
      simp only [Act.put, List.setIfInBounds_toArray, List.set_cons_zero, List.set_cons_succ]
      refine wpAnyH_take (i := 17) (oi := ⟨some 75, _, _, _, _, _⟩) (v := ?v49) rfl (by kernel_rfl) (by kernel_rfl) (by kernel_rfl) (fun _ _ _ h => h) (Or.inl ⟨by rfl, ?hy49⟩) (by assumption) ?rest49
      case hy49 => (intro w hSw; (try dsimp only at hSw); go_simp; try with_reducible rfl)
      simp only [Act.put, List.setIfInBounds_toArray, List.set_cons_zero, List.set_cons_succ]
      refine wpAnyH_ready (rs := [14]) (by kernel_rfl) (by simp) ?_
      refine AllReadyH.cons (o := ⟨some 72, _, _, _, _, _⟩) rfl (fun K hK => ?_) AllReadyH.nil
      go_simp
      go_wp2_with (go_at_call 16; refine (HX3.out _ V2.out).mono ?_; rintro e v3 ⟨rfl, h1⟩; have V3 := hid h1; obtain ⟨y3a, y3b⟩ := HXA.out _ h1; clear h1)
      refine hK.out _ _ ?_ (fun hHeld => ?_)
      · exact ⟨y3a, y3b⟩
      clear hK K
      refine wpAnyH_ready (rs := [18]) (by kernel_rfl) (by simp) ?_
      refine AllReadyH.cons (o := ⟨some 76, _, _, _, _, _⟩) rfl (fun K hK => ?_) AllReadyH.nil
      go_simp
      go_wp2_with (go_at_call 17; refine (HX4.out _ V3.out).mono ?_; rintro e v4 ⟨rfl, h1⟩; have V4 := hid h1; obtain ⟨y4a, y4b⟩ := HXA.out _ h1; clear h1)
      refine hK.out _ _ ?_ (fun hHeld => ?_)
      · exact ⟨y4a, y4b⟩
      clear hK K
      refine wpAnyH_take (i := 19) (oi := ⟨some 77, _, _, _, _, _⟩) (v := ?v50) rfl (by kernel_rfl) (by kernel_rfl) (by kernel_rfl) (fun _ _ _ h => h) (Or.inl ⟨by rfl, ?hy50⟩) (by assumption) ?rest50
      case hy50 => (intro w hSw; (try dsimp only at hSw); go_simp; try with_reducible rfl)
      simp only [Act.put, List.setIfInBounds_toArray, List.set_cons_zero, List.set_cons_succ]
      refine wpAnyH_take (i := 20) (oi := ⟨some 78, _, _, _, _, _⟩) (v := ?v51) rfl (by kernel_rfl) (by kernel_rfl) (by kernel_rfl) (fun _ _ _ h => h) (Or.inl ⟨by rfl, ?hy51⟩) (by assumption) ?rest51
      case hy51 => (intro w hSw; (try dsimp only at hSw); go_simp; try with_reducible rfl)
      simp only [Act.put, List.setIfInBounds_toArray, List.set_cons_zero, List.set_cons_succ]
      refine wpAnyH_take (i := 21) (oi := ⟨some 79, _, _, _, _, _⟩) (v := ?v52) rfl (by kernel_rfl) (by kernel_rfl) (by kernel_rfl) (fun _ _ _ h => h) (Or.inl ⟨by rfl, ?hy52⟩) (by assumption) ?rest52
      case hy52 => (intro w hSw; (try dsimp only at hSw); go_simp; try with_reducible rfl)
      simp only [Act.put, List.setIfInBounds_toArray, List.set_cons_zero, List.set_cons_succ]
      refine wpAnyH_take (i := 22) (oi := ⟨some 80, _, _, _, _, _⟩) (v := ?v53) rfl (by kernel_rfl) (by kernel_rfl) (by kernel_rfl) (fun _ _ _ h => h) (Or.inl ⟨by rfl, ?hy53⟩) (by assumption) ?rest53
      case hy53 => (intro w hSw; (try dsimp only at hSw); go_simp; try with_reducible rfl)
      simp only [Act.put, List.setIfInBounds_toArray, List.set_cons_zero, List.set_cons_succ]
      refine wpAnyH_take (i := 24) (oi := ⟨some 82, _, _, _, _, _⟩) (v := ?v54) rfl (by kernel_rfl) (by kernel_rfl) (by kernel_rfl) (fun _ _ _ h => h) (Or.inl ⟨by rfl, ?hy54⟩) (by assumption) ?rest54
      case hy54 => (intro w hSw; (try dsimp only at hSw); go_simp; try with_reducible rfl)
      simp only [Act.put, List.setIfInBounds_toArray, List.set_cons_zero, List.set_cons_succ]
      refine wpAnyH_take (i := 25) (oi := ⟨some 83, _, _, _, _, _⟩) (v := ?v55) rfl (by kernel_rfl) (by kernel_rfl) (by kernel_rfl) (fun _ _ _ h => h) (Or.inl ⟨by rfl, ?hy55⟩) (by assumption) ?rest55
      case hy55 => (intro w hSw; (try dsimp only at hSw); go_simp; try with_reducible rfl)
      simp only [Act.put, List.setIfInBounds_toArray, List.set_cons_zero, List.set_cons_succ]
      refine wpAnyH_take (i := 26) (oi := ⟨some 84, _, _, _, _, _⟩) (v := ?v56) rfl (by kernel_rfl) (by kernel_rfl) (by kernel_rfl) (fun _ _ _ h => h) (Or.inl ⟨by rfl, ?hy56⟩) (by assumption) ?rest56
      case hy56 => (intro w hSw; (try dsimp only at hSw); go_simp; try with_reducible rfl)
      simp only [Act.put, List.setIfInBounds_toArray, List.set_cons_zero, List.set_cons_succ]
      refine wpAnyH_take (i := 27) (oi := ⟨some 85, _, _, _, _, _⟩) (v := ?v57) rfl (by kernel_rfl) (by kernel_rfl) (by kernel_rfl) (fun _ _ _ h => h) (Or.inl ⟨by rfl, ?hy57⟩) (by assumption) ?rest57
      case hy57 => (intro w hSw; (try dsimp only at hSw); go_simp; try with_reducible rfl)
      simp only [Act.put, List.setIfInBounds_toArray, List.set_cons_zero, List.set_cons_succ]
      refine wpAnyH_ready (rs := [23]) (by kernel_rfl) (by simp) ?_
      refine AllReadyH.cons (o := ⟨some 81, _, _, _, _, _⟩) rfl (fun K hK => ?_) AllReadyH.nil
      go_simp
      go_wp2_with (go_at_call 19; refine (HX5.out _ V4.out).mono ?_; rintro e v5 ⟨ad5, cap5, rfl, h1⟩; have V5 := hid h1; obtain ⟨y5a, y5b⟩ := HXB.out _ _ h1; clear h1)
      refine hK.out _ _ ?_ (fun hHeld => ?_)
      · exact ⟨y5a, y5b⟩
      clear hK K
      refine wpAnyH_ready (rs := [28]) (by kernel_rfl) (by simp) ?_
      refine AllReadyH.cons (o := ⟨some 86, _, _, _, _, _⟩) rfl (fun K hK => ?_) AllReadyH.nil
      go_simp
      go_wp2_with (go_at_call 18; refine (HX6.out _ _ cap5 V5.out).mono ?_; rintro e v6 ⟨rfl, h1⟩; have V6 := hid h1; obtain ⟨y6a, y6b⟩ := HXA.out _ h1; clear h1)
      refine hK.out _ _ ?_ (fun hHeld => ?_)
      · exact ⟨y6a, y6b⟩
      clear hK K
      refine wpAnyH_take (i := 29) (oi := ⟨some 87, _, _, _, _, _⟩) (v := ?v58) rfl (by kernel_rfl) (by kernel_rfl) (by kernel_rfl) (fun _ _ _ h => h) (Or.inl ⟨by rfl, ?hy58⟩) (by assumption) ?rest58
      case hy58 => (intro w hSw; (try dsimp only at hSw); go_simp; try with_reducible rfl)
      simp only [Act.put, List.setIfInBounds_toArray, List.set_cons_zero, List.set_cons_succ]
      refine wpAnyH_take (i := 30) (oi := ⟨some 88, _, _, _, _, _⟩) (v := ?v59) rfl (by kernel_rfl) (by kernel_rfl) (by kernel_rfl) (fun _ _ _ h => h) (Or.inl ⟨by rfl, ?hy59⟩) (by assumption) ?rest59
      case hy59 => (intro w hSw; (try dsimp only at hSw); go_simp; try with_reducible rfl)
      simp only [Act.put, List.setIfInBounds_toArray, List.set_cons_zero, List.set_cons_succ]
      refine wpAnyH_take (i := 31) (oi := ⟨some 89, _, _, _, _, _⟩) (v := ?v60) rfl (by kernel_rfl) (by kernel_rfl) (by kernel_rfl) (fun _ _ _ h => h) (Or.inl ⟨by rfl, ?hy60⟩) (by assumption) ?rest60
      case hy60 => (intro w hSw; (try dsimp only at hSw); go_simp; try with_reducible rfl)
      simp only [Act.put, List.setIfInBounds_toArray, List.set_cons_zero, List.set_cons_succ]
      refine wpAnyH_take (i := 32) (oi := ⟨some 90, _, _, _, _, _⟩) (v := ?v61) rfl (by kernel_rfl) (by kernel_rfl) (by kernel_rfl) (fun _ _ _ h => h) (Or.inl ⟨by rfl, ?hy61⟩) (by assumption) ?rest61
      case hy61 => (intro w hSw; (try dsimp only at hSw); go_simp; try with_reducible rfl)
      simp only [Act.put, List.setIfInBounds_toArray, List.set_cons_zero, List.set_cons_succ]
      refine wpAnyH_take (i := 34) (oi := ⟨some 92, _, _, _, _, _⟩) (v := ?v62) rfl (by kernel_rfl) (by kernel_rfl) (by kernel_rfl) (fun _ _ _ h => h) (Or.inl ⟨by rfl, ?hy62⟩) (by assumption) ?rest62
      case hy62 => (intro w hSw; (try dsimp only at hSw); go_simp; try with_reducible rfl)
      simp only [Act.put, List.setIfInBounds_toArray, List.set_cons_zero, List.set_cons_succ]
      refine wpAnyH_take (i := 35) (oi := ⟨some 93, _, _, _, _, _⟩) (v := ?v63) rfl (by kernel_rfl) (by kernel_rfl) (by kernel_rfl) (fun _ _ _ h => h) (Or.inl ⟨by rfl, ?hy63⟩) (by assumption) ?rest63
      case hy63 => (intro w hSw; (try dsimp only at hSw); go_simp; try with_reducible rfl)
      simp only [Act.put, List.setIfInBounds_toArray, List.set_cons_zero, List.set_cons_succ]
      refine wpAnyH_take (i := 36) (oi := ⟨some 94, _, _, _, _, _⟩) (v := ?v64) rfl (by kernel_rfl) (by kernel_rfl) (by kernel_rfl) (fun _ _ _ h => h) (Or.inl ⟨by rfl, ?hy64⟩) (by assumption) ?rest64
      case hy64 => (intro w hSw; (try dsimp only at hSw); go_simp; try with_reducible rfl)
      simp only [Act.put, List.setIfInBounds_toArray, List.set_cons_zero, List.set_cons_succ]
      refine wpAnyH_take (i := 37) (oi := ⟨some 95, _, _, _, _, _⟩) (v := ?v65) rfl (by kernel_rfl) (by kernel_rfl) (by kernel_rfl) (fun _ _ _ h => h) (Or.inl ⟨by rfl, ?hy65⟩) (by assumption) ?rest65
      case hy65 => (intro w hSw; (try dsimp only at hSw); go_simp; try with_reducible rfl)
      simp only [Act.put, List.setIfInBounds_toArray, List.set_cons_zero, List.set_cons_succ]
      refine wpAnyH_take (i := 38) (oi := ⟨some 96, _, _, _, _, _⟩) (v := ?v66) rfl (by kernel_rfl) (by kernel_rfl) (by kernel_rfl) (fun _ _ _ h => h) (Or.inl ⟨by rfl, ?hy66⟩) (by assumption) ?rest66
      case hy66 => (intro w hSw; (try dsimp only at hSw); go_simp; try with_reducible rfl)
      simp only [Act.put, List.setIfInBounds_toArray, List.set_cons_zero, List.set_cons_succ]
      refine wpAnyH_ready (rs := [33]) (by kernel_rfl) (by simp) ?_
      refine AllReadyH.cons (o := ⟨some 91, _, _, _, _, _⟩) rfl (fun K hK => ?_) AllReadyH.nil
      go_simp
      go_wp2_with (go_at_call 20; refine (HX7.out _ V6.out).mono ?_; rintro e v7 ⟨rfl, h1⟩; have V7 := hid h1; obtain ⟨y7a, y7b⟩ := HXA.out _ h1; clear h1)
      refine hK.out _ _ ?_ (fun hHeld => ?_)
      · exact ⟨y7a, y7b⟩
      clear hK K
      refine wpAnyH_take (i := 39) (oi := ⟨some 97, _, _, _, _, _⟩) (v := ?v67) rfl (by kernel_rfl) (by kernel_rfl) (by kernel_rfl) (fun _ _ _ h => h) (Or.inl ⟨by rfl, ?hy67⟩) (by assumption) ?rest67
      case hy67 => (intro w hSw; (try dsimp only at hSw); go_simp; try with_reducible rfl)
      simp only [Act.put, List.setIfInBounds_toArray, List.set_cons_zero, List.set_cons_succ]
      refine wpAnyH_take (i := 40) (oi := ⟨some 98, _, _, _, _, _⟩) (v := ?v68) rfl (by kernel_rfl) (by kernel_rfl) (by kernel_rfl) (fun _ _ _ h => h) (Or.inl ⟨by rfl, ?hy68⟩) (by assumption) ?rest68
      case hy68 => (intro w hSw; (try dsimp only at hSw); go_simp; try with_reducible rfl)
      simp only [Act.put, List.setIfInBounds_toArray, List.set_cons_zero, List.set_cons_succ]
      refine wpAnyH_done (by kernel_rfl) ?_ _
      go_wp2
      go_roundw
      case rel => exact ⟨j + 1, p, by omega, rfl, by go_num, L2, _, OK2.out, HL2.out, Things.less (ts := [_, _, _]) V7.out⟩
      case measure => simp [intOf]; omega
    have H5 : Hid (∀ w0, Things w w0 [Lm p L, Blk q (.cells #[y] 29 (0, 0)), Rw w.heap.size y L, Blk B (.cells #[.int .i64 kd, .int .i64 x] 31 (0, 0))] → Calls Try.prog 13 #[.pointer (some ⟨p, 0, none⟩)] w0 fun e w' => ∃ pc, e = .returned (.pointer (some ⟨pc, 0, none⟩)) ∧ Things w w' ([Lm p L, Blk q (.cells #[y] 29 (0, 0)), Rw w.heap.size y L, Blk B (.cells #[.int .i64 kd, .int .i64 x] 31 (0, 0))] ++ [Lm pc L])) := fun w0 h => l_copy h 0 rfl OK0.out (by omega)
    have H6 : Hid (∀ w0 R, Things w w0 ([Lm p L, Blk q (.cells #[y] 29 (0, 0)), Rw w.heap.size y L, Blk B (.cells #[.int .i64 kd, .int .i64 x] 31 (0, 0))] ++ [R]) → Calls Try.prog 14 #[.pointer (some ⟨p, 0, none⟩)] w0 fun e w' => e = .returned (.int .i64 (liF L)) ∧ Things w w' ([Lm p L, Blk q (.cells #[y] 29 (0, 0)), Rw w.heap.size y L, Blk B (.cells #[.int .i64 kd, .int .i64 x] 31 (0, 0))] ++ [R])) := fun w0 R h => l_front h 0 rfl OK0.out
    have H7 : Hid (∀ w0 R, Things w w0 ([Lm p L, Blk q (.cells #[y] 29 (0, 0)), Rw w.heap.size y L, Blk B (.cells #[.int .i64 kd, .int .i64 x] 31 (0, 0))] ++ [R]) → Calls Try.prog 11 #[.pointer (some ⟨p, 0, none⟩), .int .i64 (liF L)] w0 fun e w' => e = .returned (.int .i64 (liRE L (liF L))) ∧ Things w w' ([Lm p (liR L (liF L)), Blk q (.cells #[y] 29 (0, 0)), Rw w.heap.size y L, Blk B (.cells #[.int .i64 kd, .int .i64 x] 31 (0, 0))] ++ [R])) := fun w0 R h => l_remove h 0 rfl OK0.out (by omega) OK0.out.front
    have H8 : Hid (∀ w0 R, Things w w0 ([Lm p (liR L (liF L)), Blk q (.cells #[y] 29 (0, 0)), Rw w.heap.size y L, Blk B (.cells #[.int .i64 kd, .int .i64 x] 31 (0, 0))] ++ [R]) → Calls Try.prog 9 #[.pointer (some ⟨p, 0, none⟩), .int .i64 77] w0 fun e w' => ∃ pe, e = .returned (.int .i64 pe) ∧ ∃ P, Things w w' ([P, Blk q (.cells #[y] 29 (0, 0)), Rw w.heap.size y L, Blk B (.cells #[.int .i64 kd, .int .i64 x] 31 (0, 0))] ++ [R])) := fun w0 R h => (l_push h 0 rfl (OK0.out.remove _) (by have := liR_len L (liF L); omega) (k := 77) (by decide)).mono fun _ _ ⟨he, h⟩ => ⟨_, he, _, h⟩
    have OK2 := OK0
    have HL2 : Hid (L.length ≤ j + 1) := by show _ ≤ _; omega
    clear OK0
    generalize liRE L (liF L) = re at *
    generalize liR L (liF L) = L3 at *
    generalize liF L = fr at *
    go_wp2_with fail
    refine (H5.out _ T0.out).mono ?_
    rintro e w3 ⟨pc, rfl, h3⟩
    have T3 := hid h3
    clear h3 H5 T0 c0 c1 fz hw0
    go_wp2_with fail
    refine (H6.out _ _ T3.out).mono ?_
    rintro e w4 ⟨rfl, h4⟩
    have T4 := hid h4
    clear h4 H6 T3
    go_wp2_with fail
    refine (H7.out _ _ T4.out).mono ?_
    rintro e w5 ⟨rfl, h5⟩
    have T5 := hid h5
    clear h5 H7 T4
    go_wp2_with fail
    refine (H8.out _ _ T5.out).mono ?_
    rintro e w6 ⟨pe, rfl, P6, h6⟩
    have T9 : Hid (Things w w6 [Lm pc L, Blk q (.cells #[y] 29 (0, 0)), Rw w.heap.size y L, Blk B (.cells #[.int .i64 kd, .int .i64 x] 31 (0, 0))]) := Things.takeLast h6 0
    clear h6 H8 T5
    obtain ⟨ad2, cap2, rfl, -⟩ := T9.out.row 2 rfl
    have hLL : L.length ≤ 501 := by have := HL2.out; omega
    have HX1 : Hid (∀ w0, Things w w0 [Lm pc L, Blk q (.cells #[(.slice ad2 L.length cap2)] 29 (0, 0)), Rw w.heap.size (.slice ad2 L.length cap2) L, Blk B (.cells #[.int .i64 kd, .int .i64 x] 31 (0, 0))] → Calls Try.prog 14 #[.pointer (some ⟨pc, 0, none⟩)] w0 fun e w' => e = .returned (.int .i64 (liF L)) ∧ Things w w' [Lm pc L, Blk q (.cells #[(.slice ad2 L.length cap2)] 29 (0, 0)), Rw w.heap.size (.slice ad2 L.length cap2) L, Blk B (.cells #[.int .i64 kd, .int .i64 x] 31 (0, 0))]) := fun w0 h => l_front h 0 rfl OK2.out
    have HX2 : Hid (∀ w0, Things w w0 [Lm pc L, Blk q (.cells #[(.slice ad2 L.length cap2)] 29 (0, 0)), Rw w.heap.size (.slice ad2 L.length cap2) L, Blk B (.cells #[.int .i64 kd, .int .i64 x] 31 (0, 0))] → Calls Try.prog 15 #[.pointer (some ⟨q, 0, none⟩)] w0 fun e w' => e = .returned (.int .i64 (liF L)) ∧ Things w w' [Lm pc L, Blk q (.cells #[(.slice ad2 L.length cap2)] 29 (0, 0)), Rw w.heap.size (.slice ad2 L.length cap2) L, Blk B (.cells #[.int .i64 kd, .int .i64 x] 31 (0, 0))]) := fun w0 h => r_front h 1 2 rfl rfl
    have HX3 : Hid (∀ w0, Things w w0 [Lm pc L, Blk q (.cells #[(.slice ad2 L.length cap2)] 29 (0, 0)), Rw w.heap.size (.slice ad2 L.length cap2) L, Blk B (.cells #[.int .i64 kd, .int .i64 x] 31 (0, 0))] → Calls Try.prog 16 #[.pointer (some ⟨pc, 0, none⟩), .int .i64 x] w0 fun e w' => e = .returned (.bool (decide (x ∈ L))) ∧ Things w w' [Lm pc L, Blk q (.cells #[(.slice ad2 L.length cap2)] 29 (0, 0)), Rw w.heap.size (.slice ad2 L.length cap2) L, Blk B (.cells #[.int .i64 kd, .int .i64 x] 31 (0, 0))]) := fun w0 h => l_has h 0 rfl OK2.out (by omega) HX0.out
    have HX4 : Hid (∀ w0, Things w w0 [Lm pc L, Blk q (.cells #[(.slice ad2 L.length cap2)] 29 (0, 0)), Rw w.heap.size (.slice ad2 L.length cap2) L, Blk B (.cells #[.int .i64 kd, .int .i64 x] 31 (0, 0))] → Calls Try.prog 17 #[.pointer (some ⟨q, 0, none⟩), .int .i64 x] w0 fun e w' => e = .returned (.bool (decide (x ∈ L))) ∧ Things w w' [Lm pc L, Blk q (.cells #[(.slice ad2 L.length cap2)] 29 (0, 0)), Rw w.heap.size (.slice ad2 L.length cap2) L, Blk B (.cells #[.int .i64 kd, .int .i64 x] 31 (0, 0))]) := fun w0 h => r_has h 1 2 rfl rfl (by omega) x
    have HX5 : Hid (∀ w0, Things w w0 [Lm pc L, Blk q (.cells #[(.slice ad2 L.length cap2)] 29 (0, 0)), Rw w.heap.size (.slice ad2 L.length cap2) L, Blk B (.cells #[.int .i64 kd, .int .i64 x] 31 (0, 0))] → Calls Try.prog 19 #[.pointer (some ⟨pc, 0, none⟩)] w0 fun e w' => ∃ ad cap, e = .returned (.slice ad L.length cap) ∧ Things w w' ([Lm pc L, Blk q (.cells #[(.slice ad2 L.length cap2)] 29 (0, 0)), Rw w.heap.size (.slice ad2 L.length cap2) L, Blk B (.cells #[.int .i64 kd, .int .i64 x] 31 (0, 0))] ++ [Lv ad L])) := fun w0 h => l_all h 0 rfl OK2.out (by omega)
    have HX6 : Hid (∀ w0 ad5 cap5, Things w w0 ([Lm pc L, Blk q (.cells #[(.slice ad2 L.length cap2)] 29 (0, 0)), Rw w.heap.size (.slice ad2 L.length cap2) L, Blk B (.cells #[.int .i64 kd, .int .i64 x] 31 (0, 0))] ++ [Lv ad5 L]) → Calls Try.prog 18 #[.slice ad5 L.length cap5, .slice ad2 L.length cap2] w0 fun e w' => e = .returned (.bool true) ∧ Things w w' [Lm pc L, Blk q (.cells #[(.slice ad2 L.length cap2)] 29 (0, 0)), Rw w.heap.size (.slice ad2 L.length cap2) L, Blk B (.cells #[.int .i64 kd, .int .i64 x] 31 (0, 0))]) := fun w0 ad5 cap5 h => (same_yes cap5 cap2 (h.nums 4 rfl) (h.rowNums 2 rfl) (by omega)).mono fun _ _ ⟨he, f⟩ => ⟨he, Things.less (h.kept f)⟩
    have HX7 : Hid (∀ w0, Things w w0 [Lm pc L, Blk q (.cells #[(.slice ad2 L.length cap2)] 29 (0, 0)), Rw w.heap.size (.slice ad2 L.length cap2) L, Blk B (.cells #[.int .i64 kd, .int .i64 x] 31 (0, 0))] → Calls Try.prog 20 #[.pointer (some ⟨pc, 0, none⟩)] w0 fun e w' => e = .returned (.int .i64 L.length) ∧ Things w w' [Lm pc L, Blk q (.cells #[(.slice ad2 L.length cap2)] 29 (0, 0)), Rw w.heap.size (.slice ad2 L.length cap2) L, Blk B (.cells #[.int .i64 kd, .int .i64 x] 31 (0, 0))]) := fun w0 h => l_len h 0 rfl OK2.out (by omega)
    have HXA : Hid (∀ w0, Things w w0 [Lm pc L, Blk q (.cells #[(.slice ad2 L.length cap2)] 29 (0, 0)), Rw w.heap.size (.slice ad2 L.length cap2) L, Blk B (.cells #[.int .i64 kd, .int .i64 x] 31 (0, 0))] → w0.cell? ⟨q, 0, none⟩ = some (.slice ad2 L.length cap2) ∧ w0.cell? ⟨B, 1, none⟩ = some (.int .i64 x)) := fun w0 h => ⟨(cellO (h.cells 1 rfl)).1, (cellZ (h.cells 3 rfl)).2.1⟩
    have HXB : Hid (∀ w0 R, Things w w0 ([Lm pc L, Blk q (.cells #[(.slice ad2 L.length cap2)] 29 (0, 0)), Rw w.heap.size (.slice ad2 L.length cap2) L, Blk B (.cells #[.int .i64 kd, .int .i64 x] 31 (0, 0))] ++ [R]) → w0.cell? ⟨q, 0, none⟩ = some (.slice ad2 L.length cap2) ∧ w0.cell? ⟨B, 1, none⟩ = some (.int .i64 x)) := fun w0 R h => HXA.out w0 (Things.less h)
    generalize liF L = fr at HX1 HX2
    generalize decide (x ∈ L) = hs at HX3 HX4
    obtain ⟨y0, y1⟩ := HXA.out _ T9.out
    go_wp2_with fail
    refine wp_region_held_drew (S := fun w' => w'.cell? ⟨q, 0, none⟩ = some (.slice ad2 L.length cap2) ∧ w'.cell? ⟨B, 1, none⟩ = some (.int .i64 x)) (by kernel_rfl) ?_ (fun hHeld => ?_)
    · exact ⟨y0, y1⟩
    refine wpAnyH_take (i := 0) (oi := ⟨some 58, _, _, _, _, _⟩) (v := ?v69) rfl (by kernel_rfl) (by kernel_rfl) (by kernel_rfl) (fun _ _ _ h => h) (Or.inl ⟨by rfl, ?hy69⟩) (by assumption) ?rest69
    case hy69 => (intro w hSw; (try dsimp only at hSw); go_simp; try with_reducible rfl)
    simp only [Act.put, List.setIfInBounds_toArray, List.set_cons_zero, List.set_cons_succ]
    refine wpAnyH_take (i := 1) (oi := ⟨some 59, _, _, _, _, _⟩) (v := ?v70) rfl (by kernel_rfl) (by kernel_rfl) (by kernel_rfl) (fun _ _ _ h => h) (Or.inl ⟨by rfl, ?hy70⟩) (by assumption) ?rest70
    case hy70 => (intro w hSw; (try dsimp only at hSw); go_simp; try with_reducible rfl)
    simp only [Act.put, List.setIfInBounds_toArray, List.set_cons_zero, List.set_cons_succ]
    refine wpAnyH_take (i := 2) (oi := ⟨some 60, _, _, _, _, _⟩) (v := ?v71) rfl (by kernel_rfl) (by kernel_rfl) (by kernel_rfl) (fun _ _ _ h => h) (Or.inl ⟨by rfl, ?hy71⟩) (by assumption) ?rest71
    case hy71 => (intro w hSw; (try dsimp only at hSw); go_simp; try with_reducible rfl)
    simp only [Act.put, List.setIfInBounds_toArray, List.set_cons_zero, List.set_cons_succ]
    refine wpAnyH_take (i := 3) (oi := ⟨some 61, _, _, _, _, _⟩) (v := ?v72) rfl (by kernel_rfl) (by kernel_rfl) (by kernel_rfl) (fun _ _ _ h => h) (Or.inl ⟨by rfl, ?hy72⟩) (by assumption) ?rest72
    case hy72 => (intro w hSw; (try dsimp only at hSw); go_simp; try with_reducible rfl)
    simp only [Act.put, List.setIfInBounds_toArray, List.set_cons_zero, List.set_cons_succ]
    refine wpAnyH_take (i := 4) (oi := ⟨some 62, _, _, _, _, _⟩) (v := ?v73) rfl (by kernel_rfl) (by kernel_rfl) (by kernel_rfl) (fun _ _ _ h => h) (Or.inl ⟨by rfl, ?hy73⟩) (by assumption) ?rest73
    case hy73 => (intro w hSw; (try dsimp only at hSw); go_simp; try with_reducible rfl)
    simp only [Act.put, List.setIfInBounds_toArray, List.set_cons_zero, List.set_cons_succ]
    refine wpAnyH_take (i := 6) (oi := ⟨some 64, _, _, _, _, _⟩) (v := ?v74) rfl (by kernel_rfl) (by kernel_rfl) (by kernel_rfl) (fun _ _ _ h => h) (Or.inl ⟨by rfl, ?hy74⟩) (by assumption) ?rest74
    case hy74 => (intro w hSw; (try dsimp only at hSw); go_simp; try with_reducible rfl)
    simp only [Act.put, List.setIfInBounds_toArray, List.set_cons_zero, List.set_cons_succ]
    refine wpAnyH_ready (rs := [5]) (by kernel_rfl) (by simp) ?_
    refine AllReadyH.cons (o := ⟨some 63, _, _, _, _, _⟩) rfl (fun K hK => ?_) AllReadyH.nil
    go_simp
    go_wp2_with (go_at_call 14; refine (HX1.out _ (T9.out.kept (Fr.refl _ _).drew)).mono ?_; rintro e v1 ⟨rfl, h1⟩; have V1 := hid h1; obtain ⟨y1a, y1b⟩ := HXA.out _ h1; clear h1)
    refine hK.out _ _ ?_ (fun hHeld => ?_)
    · exact ⟨y1a, y1b⟩
    clear hK K
    refine wpAnyH_ready (rs := [7]) (by kernel_rfl) (by simp) ?_
    refine AllReadyH.cons (o := ⟨some 65, _, _, _, _, _⟩) rfl (fun K hK => ?_) AllReadyH.nil
    go_simp
    go_wp2_with (go_at_call 15; refine (HX2.out _ V1.out).mono ?_; rintro e v2 ⟨rfl, h1⟩; have V2 := hid h1; obtain ⟨y2a, y2b⟩ := HXA.out _ h1; clear h1)
    refine hK.out _ _ ?_ (fun hHeld => ?_)
    · exact ⟨y2a, y2b⟩
    clear hK K
    refine wpAnyH_take (i := 8) (oi := ⟨some 66, _, _, _, _, _⟩) (v := ?v75) rfl (by kernel_rfl) (by kernel_rfl) (by kernel_rfl) (fun _ _ _ h => h) (Or.inl ⟨by rfl, ?hy75⟩) (by assumption) ?rest75
    case hy75 => (intro w hSw; (try dsimp only at hSw); go_simp; try with_reducible rfl)
    simp only [Act.put, List.setIfInBounds_toArray, List.set_cons_zero, List.set_cons_succ]
    refine wpAnyH_take (i := 9) (oi := ⟨some 67, _, _, _, _, _⟩) (v := ?v76) rfl (by kernel_rfl) (by kernel_rfl) (by kernel_rfl) (fun _ _ _ h => h) (Or.inl ⟨by rfl, ?hy76⟩) (by assumption) ?rest76
    case hy76 => (intro w hSw; (try dsimp only at hSw); go_simp; try with_reducible rfl)
    simp only [Act.put, List.setIfInBounds_toArray, List.set_cons_zero, List.set_cons_succ]
    refine wpAnyH_take (i := 10) (oi := ⟨some 68, _, _, _, _, _⟩) (v := ?v77) rfl (by kernel_rfl) (by kernel_rfl) (by kernel_rfl) (fun _ _ _ h => h) (Or.inl ⟨by rfl, ?hy77⟩) (by assumption) ?rest77
    case hy77 => (intro w hSw; (try dsimp only at hSw); go_simp; try with_reducible rfl)
    simp only [Act.put, List.setIfInBounds_toArray, List.set_cons_zero, List.set_cons_succ]
    refine wpAnyH_take (i := 11) (oi := ⟨some 69, _, _, _, _, _⟩) (v := ?v78) rfl (by kernel_rfl) (by kernel_rfl) (by kernel_rfl) (fun _ _ _ h => h) (Or.inl ⟨by rfl, ?hy78⟩) (by assumption) ?rest78
    case hy78 => (intro w hSw; (try dsimp only at hSw); go_simp; try with_reducible rfl)
    simp only [Act.put, List.setIfInBounds_toArray, List.set_cons_zero, List.set_cons_succ]
    refine wpAnyH_take (i := 12) (oi := ⟨some 70, _, _, _, _, _⟩) (v := ?v79) rfl (by kernel_rfl) (by kernel_rfl) (by kernel_rfl) (fun _ _ _ h => h) (Or.inl ⟨by rfl, ?hy79⟩) (by assumption) ?rest79
    case hy79 => (intro w hSw; (try dsimp only at hSw); go_simp; try with_reducible rfl)
    simp only [Act.put, List.setIfInBounds_toArray, List.set_cons_zero, List.set_cons_succ]
    refine wpAnyH_take (i := 13) (oi := ⟨some 71, _, _, _, _, _⟩) (v := ?v80) rfl (by kernel_rfl) (by kernel_rfl) (by kernel_rfl) (fun _ _ _ h => h) (Or.inl ⟨by rfl, ?hy80⟩) (by assumption) ?rest80
    case hy80 => (intro w hSw; (try dsimp only at hSw); go_simp; try with_reducible rfl)
    simp only [Act.put, List.setIfInBounds_toArray, List.set_cons_zero, List.set_cons_succ]
    refine wpAnyH_take (i := 15) (oi := ⟨some 73, _, _, _, _, _⟩) (v := ?v81) rfl (by kernel_rfl) (by kernel_rfl) (by kernel_rfl) (fun _ _ _ h => h) (Or.inl ⟨by rfl, ?hy81⟩) (by assumption) ?rest81
    case hy81 => (intro w hSw; (try dsimp only at hSw); go_simp; try with_reducible rfl)
    simp only [Act.put, List.setIfInBounds_toArray, List.set_cons_zero, List.set_cons_succ]
    refine wpAnyH_take (i := 16) (oi := ⟨some 74, _, _, _, _, _⟩) (v := ?v82) rfl (by kernel_rfl) (by kernel_rfl) (by kernel_rfl) (fun _ _ _ h => h) (Or.inl ⟨by rfl, ?hy82⟩) (by assumption) ?rest82
    case hy82 => (intro w hSw; (try dsimp only at hSw); go_simp; try with_reducible rfl)
    simp only [Act.put, List.setIfInBounds_toArray, List.set_cons_zero, List.set_cons_succ]
    refine wpAnyH_take (i := 17) (oi := ⟨some 75, _, _, _, _, _⟩) (v := ?v83) rfl (by kernel_rfl) (by kernel_rfl) (by kernel_rfl) (fun _ _ _ h => h) (Or.inl ⟨by rfl, ?hy83⟩) (by assumption) ?rest83
    case hy83 => (intro w hSw; (try dsimp only at hSw); go_simp; try with_reducible rfl)
    simp only [Act.put, List.setIfInBounds_toArray, List.set_cons_zero, List.set_cons_succ]
    refine wpAnyH_ready (rs := [14]) (by kernel_rfl) (by simp) ?_
    refine AllReadyH.cons (o := ⟨some 72, _, _, _, _, _⟩) rfl (fun K hK => ?_) AllReadyH.nil
    go_simp
    go_wp2_with (go_at_call 16; refine (HX3.out _ V2.out).mono ?_; rintro e v3 ⟨rfl, h1⟩; have V3 := hid h1; obtain ⟨y3a, y3b⟩ := HXA.out _ h1; clear h1)
    refine hK.out _ _ ?_ (fun hHeld => ?_)
    · exact ⟨y3a, y3b⟩
    clear hK K
    refine wpAnyH_ready (rs := [18]) (by kernel_rfl) (by simp) ?_
    refine AllReadyH.cons (o := ⟨some 76, _, _, _, _, _⟩) rfl (fun K hK => ?_) AllReadyH.nil
    go_simp
    go_wp2_with (go_at_call 17; refine (HX4.out _ V3.out).mono ?_; rintro e v4 ⟨rfl, h1⟩; have V4 := hid h1; obtain ⟨y4a, y4b⟩ := HXA.out _ h1; clear h1)
    refine hK.out _ _ ?_ (fun hHeld => ?_)
    · exact ⟨y4a, y4b⟩
    clear hK K
    refine wpAnyH_take (i := 19) (oi := ⟨some 77, _, _, _, _, _⟩) (v := ?v84) rfl (by kernel_rfl) (by kernel_rfl) (by kernel_rfl) (fun _ _ _ h => h) (Or.inl ⟨by rfl, ?hy84⟩) (by assumption) ?rest84
    case hy84 => (intro w hSw; (try dsimp only at hSw); go_simp; try with_reducible rfl)
    simp only [Act.put, List.setIfInBounds_toArray, List.set_cons_zero, List.set_cons_succ]
    refine wpAnyH_take (i := 20) (oi := ⟨some 78, _, _, _, _, _⟩) (v := ?v85) rfl (by kernel_rfl) (by kernel_rfl) (by kernel_rfl) (fun _ _ _ h => h) (Or.inl ⟨by rfl, ?hy85⟩) (by assumption) ?rest85
    case hy85 => (intro w hSw; (try dsimp only at hSw); go_simp; try with_reducible rfl)
    simp only [Act.put, List.setIfInBounds_toArray, List.set_cons_zero, List.set_cons_succ]
    refine wpAnyH_take (i := 21) (oi := ⟨some 79, _, _, _, _, _⟩) (v := ?v86) rfl (by kernel_rfl) (by kernel_rfl) (by kernel_rfl) (fun _ _ _ h => h) (Or.inl ⟨by rfl, ?hy86⟩) (by assumption) ?rest86
    case hy86 => (intro w hSw; (try dsimp only at hSw); go_simp; try with_reducible rfl)
    simp only [Act.put, List.setIfInBounds_toArray, List.set_cons_zero, List.set_cons_succ]
    refine wpAnyH_take (i := 22) (oi := ⟨some 80, _, _, _, _, _⟩) (v := ?v87) rfl (by kernel_rfl) (by kernel_rfl) (by kernel_rfl) (fun _ _ _ h => h) (Or.inl ⟨by rfl, ?hy87⟩) (by assumption) ?rest87
    case hy87 => (intro w hSw; (try dsimp only at hSw); go_simp; try with_reducible rfl)
    simp only [Act.put, List.setIfInBounds_toArray, List.set_cons_zero, List.set_cons_succ]
    refine wpAnyH_take (i := 24) (oi := ⟨some 82, _, _, _, _, _⟩) (v := ?v88) rfl (by kernel_rfl) (by kernel_rfl) (by kernel_rfl) (fun _ _ _ h => h) (Or.inl ⟨by rfl, ?hy88⟩) (by assumption) ?rest88
    case hy88 => (intro w hSw; (try dsimp only at hSw); go_simp; try with_reducible rfl)
    simp only [Act.put, List.setIfInBounds_toArray, List.set_cons_zero, List.set_cons_succ]
    refine wpAnyH_take (i := 25) (oi := ⟨some 83, _, _, _, _, _⟩) (v := ?v89) rfl (by kernel_rfl) (by kernel_rfl) (by kernel_rfl) (fun _ _ _ h => h) (Or.inl ⟨by rfl, ?hy89⟩) (by assumption) ?rest89
    case hy89 => (intro w hSw; (try dsimp only at hSw); go_simp; try with_reducible rfl)
    simp only [Act.put, List.setIfInBounds_toArray, List.set_cons_zero, List.set_cons_succ]
    refine wpAnyH_take (i := 26) (oi := ⟨some 84, _, _, _, _, _⟩) (v := ?v90) rfl (by kernel_rfl) (by kernel_rfl) (by kernel_rfl) (fun _ _ _ h => h) (Or.inl ⟨by rfl, ?hy90⟩) (by assumption) ?rest90
    case hy90 => (intro w hSw; (try dsimp only at hSw); go_simp; try with_reducible rfl)
    simp only [Act.put, List.setIfInBounds_toArray, List.set_cons_zero, List.set_cons_succ]
    refine wpAnyH_take (i := 27) (oi := ⟨some 85, _, _, _, _, _⟩) (v := ?v91) rfl (by kernel_rfl) (by kernel_rfl) (by kernel_rfl) (fun _ _ _ h => h) (Or.inl ⟨by rfl, ?hy91⟩) (by assumption) ?rest91
    case hy91 => (intro w hSw; (try dsimp only at hSw); go_simp; try with_reducible rfl)
    simp only [Act.put, List.setIfInBounds_toArray, List.set_cons_zero, List.set_cons_succ]
    refine wpAnyH_ready (rs := [23]) (by kernel_rfl) (by simp) ?_
    refine AllReadyH.cons (o := ⟨some 81, _, _, _, _, _⟩) rfl (fun K hK => ?_) AllReadyH.nil
    go_simp
    go_wp2_with (go_at_call 19; refine (HX5.out _ V4.out).mono ?_; rintro e v5 ⟨ad5, cap5, rfl, h1⟩; have V5 := hid h1; obtain ⟨y5a, y5b⟩ := HXB.out _ _ h1; clear h1)
    refine hK.out _ _ ?_ (fun hHeld => ?_)
    · exact ⟨y5a, y5b⟩
    clear hK K
    refine wpAnyH_ready (rs := [28]) (by kernel_rfl) (by simp) ?_
    refine AllReadyH.cons (o := ⟨some 86, _, _, _, _, _⟩) rfl (fun K hK => ?_) AllReadyH.nil
    go_simp
    go_wp2_with (go_at_call 18; refine (HX6.out _ _ cap5 V5.out).mono ?_; rintro e v6 ⟨rfl, h1⟩; have V6 := hid h1; obtain ⟨y6a, y6b⟩ := HXA.out _ h1; clear h1)
    refine hK.out _ _ ?_ (fun hHeld => ?_)
    · exact ⟨y6a, y6b⟩
    clear hK K
    refine wpAnyH_take (i := 29) (oi := ⟨some 87, _, _, _, _, _⟩) (v := ?v92) rfl (by kernel_rfl) (by kernel_rfl) (by kernel_rfl) (fun _ _ _ h => h) (Or.inl ⟨by rfl, ?hy92⟩) (by assumption) ?rest92
    case hy92 => (intro w hSw; (try dsimp only at hSw); go_simp; try with_reducible rfl)
    simp only [Act.put, List.setIfInBounds_toArray, List.set_cons_zero, List.set_cons_succ]
    refine wpAnyH_take (i := 30) (oi := ⟨some 88, _, _, _, _, _⟩) (v := ?v93) rfl (by kernel_rfl) (by kernel_rfl) (by kernel_rfl) (fun _ _ _ h => h) (Or.inl ⟨by rfl, ?hy93⟩) (by assumption) ?rest93
    case hy93 => (intro w hSw; (try dsimp only at hSw); go_simp; try with_reducible rfl)
    simp only [Act.put, List.setIfInBounds_toArray, List.set_cons_zero, List.set_cons_succ]
    refine wpAnyH_take (i := 31) (oi := ⟨some 89, _, _, _, _, _⟩) (v := ?v94) rfl (by kernel_rfl) (by kernel_rfl) (by kernel_rfl) (fun _ _ _ h => h) (Or.inl ⟨by rfl, ?hy94⟩) (by assumption) ?rest94
    case hy94 => (intro w hSw; (try dsimp only at hSw); go_simp; try with_reducible rfl)
    simp only [Act.put, List.setIfInBounds_toArray, List.set_cons_zero, List.set_cons_succ]
    refine wpAnyH_take (i := 32) (oi := ⟨some 90, _, _, _, _, _⟩) (v := ?v95) rfl (by kernel_rfl) (by kernel_rfl) (by kernel_rfl) (fun _ _ _ h => h) (Or.inl ⟨by rfl, ?hy95⟩) (by assumption) ?rest95
    case hy95 => (intro w hSw; (try dsimp only at hSw); go_simp; try with_reducible rfl)
    simp only [Act.put, List.setIfInBounds_toArray, List.set_cons_zero, List.set_cons_succ]
    refine wpAnyH_take (i := 34) (oi := ⟨some 92, _, _, _, _, _⟩) (v := ?v96) rfl (by kernel_rfl) (by kernel_rfl) (by kernel_rfl) (fun _ _ _ h => h) (Or.inl ⟨by rfl, ?hy96⟩) (by assumption) ?rest96
    case hy96 => (intro w hSw; (try dsimp only at hSw); go_simp; try with_reducible rfl)
    simp only [Act.put, List.setIfInBounds_toArray, List.set_cons_zero, List.set_cons_succ]
    refine wpAnyH_take (i := 35) (oi := ⟨some 93, _, _, _, _, _⟩) (v := ?v97) rfl (by kernel_rfl) (by kernel_rfl) (by kernel_rfl) (fun _ _ _ h => h) (Or.inl ⟨by rfl, ?hy97⟩) (by assumption) ?rest97
    case hy97 => (intro w hSw; (try dsimp only at hSw); go_simp; try with_reducible rfl)
    simp only [Act.put, List.setIfInBounds_toArray, List.set_cons_zero, List.set_cons_succ]
    refine wpAnyH_take (i := 36) (oi := ⟨some 94, _, _, _, _, _⟩) (v := ?v98) rfl (by kernel_rfl) (by kernel_rfl) (by kernel_rfl) (fun _ _ _ h => h) (Or.inl ⟨by rfl, ?hy98⟩) (by assumption) ?rest98
    case hy98 => (intro w hSw; (try dsimp only at hSw); go_simp; try with_reducible rfl)
    simp only [Act.put, List.setIfInBounds_toArray, List.set_cons_zero, List.set_cons_succ]
    refine wpAnyH_take (i := 37) (oi := ⟨some 95, _, _, _, _, _⟩) (v := ?v99) rfl (by kernel_rfl) (by kernel_rfl) (by kernel_rfl) (fun _ _ _ h => h) (Or.inl ⟨by rfl, ?hy99⟩) (by assumption) ?rest99
    case hy99 => (intro w hSw; (try dsimp only at hSw); go_simp; try with_reducible rfl)
    simp only [Act.put, List.setIfInBounds_toArray, List.set_cons_zero, List.set_cons_succ]
    refine wpAnyH_take (i := 38) (oi := ⟨some 96, _, _, _, _, _⟩) (v := ?v100) rfl (by kernel_rfl) (by kernel_rfl) (by kernel_rfl) (fun _ _ _ h => h) (Or.inl ⟨by rfl, ?hy100⟩) (by assumption) ?rest100
    case hy100 => (intro w hSw; (try dsimp only at hSw); go_simp; try with_reducible rfl)
    simp only [Act.put, List.setIfInBounds_toArray, List.set_cons_zero, List.set_cons_succ]
    refine wpAnyH_ready (rs := [33]) (by kernel_rfl) (by simp) ?_
    refine AllReadyH.cons (o := ⟨some 91, _, _, _, _, _⟩) rfl (fun K hK => ?_) AllReadyH.nil
    go_simp
    go_wp2_with (go_at_call 20; refine (HX7.out _ V6.out).mono ?_; rintro e v7 ⟨rfl, h1⟩; have V7 := hid h1; obtain ⟨y7a, y7b⟩ := HXA.out _ h1; clear h1)
    refine hK.out _ _ ?_ (fun hHeld => ?_)
    · exact ⟨y7a, y7b⟩
    clear hK K
    refine wpAnyH_take (i := 39) (oi := ⟨some 97, _, _, _, _, _⟩) (v := ?v101) rfl (by kernel_rfl) (by kernel_rfl) (by kernel_rfl) (fun _ _ _ h => h) (Or.inl ⟨by rfl, ?hy101⟩) (by assumption) ?rest101
    case hy101 => (intro w hSw; (try dsimp only at hSw); go_simp; try with_reducible rfl)
    simp only [Act.put, List.setIfInBounds_toArray, List.set_cons_zero, List.set_cons_succ]
    refine wpAnyH_take (i := 40) (oi := ⟨some 98, _, _, _, _, _⟩) (v := ?v102) rfl (by kernel_rfl) (by kernel_rfl) (by kernel_rfl) (fun _ _ _ h => h) (Or.inl ⟨by rfl, ?hy102⟩) (by assumption) ?rest102
    case hy102 => (intro w hSw; (try dsimp only at hSw); go_simp; try with_reducible rfl)
    simp only [Act.put, List.setIfInBounds_toArray, List.set_cons_zero, List.set_cons_succ]
    refine wpAnyH_done (by kernel_rfl) ?_ _
    go_wp2
    go_roundw
    case rel => exact ⟨j + 1, pc, by omega, rfl, by go_num, L, _, OK2.out, HL2.out, Things.less (ts := [_, _, _]) V7.out⟩
    case measure => simp [intOf]; omega
end Go.Proofs.Ytecckdedijhacaa
