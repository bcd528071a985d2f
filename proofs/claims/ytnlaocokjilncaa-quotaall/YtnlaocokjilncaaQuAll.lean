/-
  The whole limit can be reserved, committed and refunded, and not a byte or page more: the walk of the law QuotaAll.
-/
import Derived.Test.YtnlaocokjilncaaQuNil
namespace Go.Proofs.Ytnlaocokjilncaa
open Go.RowKit

set_option maxRecDepth 20000 in
set_option maxHeartbeats 1000000 in
theorem all_bad1 (b p k c d : Int) (w : World) (r1 : ¬ Rt b p) (r2 : Rt c d) : Calls Try.prog 7 #[.int .i64 b, .int .i64 p, .agg #[.int .i64 k, .int .i64 c, .int .i64 d]] w fun e w' => e = .returned (.bool true) ∧ Fr (fun _ => False) w w' := by
  have HO1 := hid fun w => o_no r1 w
  have HO2 := hid fun w => o_yes r2 w
  have HA := hid fun w0 (h : Nw w w0) => awake_any h
  have HQ := hid fun w => q_new_no wrong_raw w
  clear r1 r2
  generalize fb c = y1 at *
  generalize fb d = y2 at *
  have HX := hid (Bx.new w k c d)
  have HN0 := hid (Nw.alloc (Nw.start w) (.cells #[.int .i64 k, .int .i64 c, .int .i64 d] 38))
  go_enter Try.func7, Try.ntmps7
  go_wp2_with fail
  refine (HO1.out _).mono ?_
  rintro e w1 ⟨rfl, f1⟩
  have HN1 := hid ((HN0.out.kept f1).alloc (.cells #[.int .i64 0, .int .i64 0] 26))
  have HX1 := hid ((HX.out.kept f1).alloc (.cells #[.int .i64 0, .int .i64 0] 26))
  clear f1 HN0 HX HO1
  have c1 := HX1.out.c1
  have c2 := HX1.out.c2
  go_wp2_with fail
  refine (HO2.out _).mono ?_
  rintro e w2 ⟨rfl, f2⟩
  have HN2 := hid ((HN1.out.kept f2).alloc (.cells #[.int .i64 c, .int .i64 d] 26))
  clear f2 HN1 HO2 c1 c2 HX1
  go_wp2_with fail
  refine (HQ.out _).mono ?_
  rintro e w3 ⟨rfl, f3⟩
  have HN3 := hid (HN2.out.kept f3)
  clear f3 HN2 HQ
  go_wp2_with fail
  refine (HA.out _ HN3.out).mono ?_
  rintro e w4 ⟨rfl, hn⟩
  have HN4 := hid hn
  clear hn HN3
  go_wp2_with fail
  refine (HA.out _ HN4.out).mono ?_
  rintro e w5 ⟨rfl, hn⟩
  have HN5 := hid hn
  clear hn HN4
  go_wp2
  go_ret
  exact ⟨by simp, HN5.out.fr⟩
set_option maxRecDepth 20000 in
set_option maxHeartbeats 1000000 in
theorem all_bad2 (b p k c d : Int) (w : World) (r1 : ¬ Rt b p) (r2 : ¬ Rt c d) : Calls Try.prog 7 #[.int .i64 b, .int .i64 p, .agg #[.int .i64 k, .int .i64 c, .int .i64 d]] w fun e w' => e = .returned (.bool true) ∧ Fr (fun _ => False) w w' := by
  have HO1 := hid fun w => o_no r1 w
  have HO2 := hid fun w => o_no r2 w
  have HA := hid fun w0 (h : Nw w w0) => awake_any h
  have HQ := hid fun w => q_new_no wrong_raw w
  clear r1 r2
  have HX := hid (Bx.new w k c d)
  have HN0 := hid (Nw.alloc (Nw.start w) (.cells #[.int .i64 k, .int .i64 c, .int .i64 d] 38))
  go_enter Try.func7, Try.ntmps7
  go_wp2_with fail
  refine (HO1.out _).mono ?_
  rintro e w1 ⟨rfl, f1⟩
  have HN1 := hid ((HN0.out.kept f1).alloc (.cells #[.int .i64 0, .int .i64 0] 26))
  have HX1 := hid ((HX.out.kept f1).alloc (.cells #[.int .i64 0, .int .i64 0] 26))
  clear f1 HN0 HX HO1
  have c1 := HX1.out.c1
  have c2 := HX1.out.c2
  go_wp2_with fail
  refine (HO2.out _).mono ?_
  rintro e w2 ⟨rfl, f2⟩
  have HN2 := hid ((HN1.out.kept f2).alloc (.cells #[.int .i64 0, .int .i64 0] 26))
  clear f2 HN1 HO2 c1 c2 HX1
  go_wp2_with fail
  refine (HQ.out _).mono ?_
  rintro e w3 ⟨rfl, f3⟩
  have HN3 := hid (HN2.out.kept f3)
  clear f3 HN2 HQ
  go_wp2_with fail
  refine (HA.out _ HN3.out).mono ?_
  rintro e w4 ⟨rfl, hn⟩
  have HN4 := hid hn
  clear hn HN3
  go_wp2_with fail
  refine (HA.out _ HN4.out).mono ?_
  rintro e w5 ⟨rfl, hn⟩
  have HN5 := hid hn
  clear hn HN4
  go_wp2
  go_ret
  exact ⟨by simp, HN5.out.fr⟩
set_option maxRecDepth 20000 in
set_option maxHeartbeats 1000000 in
theorem all_bad3 (b p k c d : Int) (w : World) (r1 : Rt b p) (r2 : ¬ Rt c d) : Calls Try.prog 7 #[.int .i64 b, .int .i64 p, .agg #[.int .i64 k, .int .i64 c, .int .i64 d]] w fun e w' => e = .returned (.bool true) ∧ Fr (fun _ => False) w w' := by
  have HO1 := hid fun w => o_yes r1 w
  have HO2 := hid fun w => o_no r2 w
  have HA := hid fun w0 (h : Nw w w0) => awake_any h
  have HQ := hid fun w0 (h : Nw w w0) => n_new r1 h
  clear r1 r2
  generalize fb b = x1 at *
  generalize fb p = x2 at *
  have HX := hid (Bx.new w k c d)
  have HN0 := hid (Nw.alloc (Nw.start w) (.cells #[.int .i64 k, .int .i64 c, .int .i64 d] 38))
  go_enter Try.func7, Try.ntmps7
  go_wp2_with fail
  refine (HO1.out _).mono ?_
  rintro e w1 ⟨rfl, f1⟩
  have HN1 := hid ((HN0.out.kept f1).alloc (.cells #[.int .i64 b, .int .i64 p] 26))
  have HX1 := hid ((HX.out.kept f1).alloc (.cells #[.int .i64 b, .int .i64 p] 26))
  clear f1 HN0 HX HO1
  have c1 := HX1.out.c1
  have c2 := HX1.out.c2
  go_wp2_with fail
  refine (HO2.out _).mono ?_
  rintro e w2 ⟨rfl, f2⟩
  have HN2 := hid ((HN1.out.kept f2).alloc (.cells #[.int .i64 0, .int .i64 0] 26))
  clear f2 HN1 HO2 c1 c2 HX1
  go_wp2_with fail
  refine (HQ.out _ HN2.out).mono ?_
  rintro e w3 ⟨B, rfl, hl, hq, f3⟩
  have HN3 := hid hq.nw
  clear hl hq f3 HN2 HQ
  go_wp2_with fail
  refine (HA.out _ HN3.out).mono ?_
  rintro e w4 ⟨rfl, hn⟩
  have HN4 := hid hn
  clear hn HN3
  go_wp2_with fail
  refine (HA.out _ HN4.out).mono ?_
  rintro e w5 ⟨rfl, hn⟩
  have HN5 := hid hn
  clear hn HN4
  go_wp2
  go_ret
  exact ⟨by simp, HN5.out.fr⟩
theorem all_1 (b p : Int) : resE (newQ b p) b p = 0 ∧ resS (newQ b p) b p = ⟨b, p, 0, 0, b, p⟩ ∧ comE ⟨b, p, 0, 0, b, p⟩ b p = 0 ∧ comS ⟨b, p, 0, 0, b, p⟩ b p = ⟨b, p, b, p, 0, 0⟩ ∧ refE ⟨b, p, b, p, 0, 0⟩ b p = 0 ∧ refS ⟨b, p, b, p, 0, 0⟩ b p = ⟨b, p, 0, 0, 0, 0⟩ := by
  simp [resE, resS, comE, comS, refE, refS, newQ, QS.Room, QS.Had, QS.Paid]
theorem all_0 {b p c d : Int} (h : c = 0 ∧ d = 0) : resE ⟨b, p, 0, 0, b, p⟩ c d = 0 ∧ resS ⟨b, p, 0, 0, b, p⟩ c d = ⟨b, p, 0, 0, b, p⟩ := by
  obtain ⟨rfl, rfl⟩ := h
  simp [resE, resS, QS.Room]
theorem all_n {b p c d : Int} (r : Rt c d) (h : ¬ (c = 0 ∧ d = 0)) : resE ⟨b, p, 0, 0, b, p⟩ c d = 3 ∧ resS ⟨b, p, 0, 0, b, p⟩ c d = ⟨b, p, 0, 0, b, p⟩ := by
  have hn : ¬ QS.Room ⟨b, p, 0, 0, b, p⟩ c d := by unfold QS.Room; unfold Rt at r; simp only; omega
  unfold resE resS
  rw [if_neg hn, if_neg hn]
  exact ⟨rfl, rfl⟩
set_option maxRecDepth 20000 in
set_option maxHeartbeats 1000000 in
theorem all_zero (b p k c d : Int) (w : World) (r1 : Rt b p) (r2 : Rt c d) (hz : c = 0 ∧ d = 0) : Calls Try.prog 7 #[.int .i64 b, .int .i64 p, .agg #[.int .i64 k, .int .i64 c, .int .i64 d]] w fun e w' => e = .returned (.bool true) ∧ Fr (fun _ => False) w w' := by
  have HO1 := hid fun w => o_yes r1 w
  have HO2 := hid fun w => o_yes r2 w
  have HA := hid fun w => awake_f w
  have HQ := hid fun w0 (h : Nw w w0) => n_new r1 h
  have i1 := all_1 b p
  have H1 : Hid (∀ w0 B, Qn w w0 B (newQ b p) → Calls Try.prog 12 #[.pointer (some ⟨B, 0, none⟩), .complex .f64 (fb b) (fb p)] w0 fun e w' => e = .returned (.int .i64 0) ∧ Qn w w' B ⟨b, p, 0, 0, b, p⟩ ∧ Fr (fun i => i = B) w0 w') := fun w0 B h => by have := n_res h r1; rwa [i1.1, i1.2.1] at this
  have H2 : Hid (∀ w0 B, Qn w w0 B ⟨b, p, 0, 0, b, p⟩ → Calls Try.prog 12 #[.pointer (some ⟨B, 0, none⟩), .complex .f64 (fb c) (fb d)] w0 fun e w' => e = .returned (.int .i64 0) ∧ Qn w w' B ⟨b, p, 0, 0, b, p⟩ ∧ Fr (fun i => i = B) w0 w') := fun w0 B h => by have := n_res h r2; rwa [(all_0 hz).1, (all_0 hz).2] at this
  have H3 : Hid (∀ w0 B, Qn w w0 B ⟨b, p, 0, 0, b, p⟩ → Calls Try.prog 18 #[.pointer (some ⟨B, 0, none⟩), .complex .f64 (fb b) (fb p)] w0 fun e w' => e = .returned (.int .i64 0) ∧ Qn w w' B ⟨b, p, b, p, 0, 0⟩ ∧ Fr (fun i => i = B) w0 w') := fun w0 B h => by have := n_com h r1; rwa [i1.2.2.1, i1.2.2.2.1] at this
  have H4 : Hid (∀ w0 B, Qn w w0 B ⟨b, p, b, p, 0, 0⟩ → Calls Try.prog 16 #[.pointer (some ⟨B, 0, none⟩)] w0 fun e w' => e = .returned (.complex .f64 (fb b) (fb p)) ∧ Qn w w' B ⟨b, p, b, p, 0, 0⟩ ∧ Fr (fun _ => False) w0 w') := fun w0 B h => n_cha h
  have H5 : Hid (∀ w0 B, Qn w w0 B ⟨b, p, b, p, 0, 0⟩ → Calls Try.prog 17 #[.pointer (some ⟨B, 0, none⟩)] w0 fun e w' => e = .returned (.complex .f64 (fb 0) (fb 0)) ∧ Qn w w' B ⟨b, p, b, p, 0, 0⟩ ∧ Fr (fun _ => False) w0 w') := fun w0 B h => n_rsv h
  have H6 : Hid (∀ w0 B, Qn w w0 B ⟨b, p, b, p, 0, 0⟩ → Calls Try.prog 20 #[.pointer (some ⟨B, 0, none⟩), .complex .f64 (fb b) (fb p)] w0 fun e w' => e = .returned (.int .i64 0) ∧ Qn w w' B ⟨b, p, 0, 0, 0, 0⟩ ∧ Fr (fun i => i = B) w0 w') := fun w0 B h => by have := n_ref h r1; rwa [i1.2.2.2.2.1, i1.2.2.2.2.2] at this
  have H7 : Hid (∀ w0 B, Qn w w0 B ⟨b, p, 0, 0, 0, 0⟩ → Calls Try.prog 16 #[.pointer (some ⟨B, 0, none⟩)] w0 fun e w' => e = .returned (.complex .f64 (fb 0) (fb 0)) ∧ Qn w w' B ⟨b, p, 0, 0, 0, 0⟩ ∧ Fr (fun _ => False) w0 w') := fun w0 B h => n_cha h
  have o0 := order_zero
  have o1 := order_self b (by unfold Rt at r1; omega)
  have o2 := order_self p (by unfold Rt at r1; omega)
  rw [fb_zero] at H5 H7
  clear i1 r1 r2
  generalize fb b = x1 at *
  generalize fb p = x2 at *
  generalize fb c = y1 at *
  generalize fb d = y2 at *
  obtain ⟨rfl, rfl⟩ := hz
  have HX := hid (Bx.new w k 0 0)
  have HN0 := hid (Nw.alloc (Nw.start w) (.cells #[.int .i64 k, .int .i64 0, .int .i64 0] 38))
  go_enter Try.func7, Try.ntmps7
  go_wp2_with fail
  refine (HO1.out _).mono ?_
  rintro e w1 ⟨rfl, f1⟩
  have HN1 := hid ((HN0.out.kept f1).alloc (.cells #[.int .i64 b, .int .i64 p] 26))
  have HX1 := hid ((HX.out.kept f1).alloc (.cells #[.int .i64 b, .int .i64 p] 26))
  clear f1 HN0 HX HO1
  have c1 := HX1.out.c1
  have c2 := HX1.out.c2
  go_wp2_with fail
  refine (HO2.out _).mono ?_
  rintro e w2 ⟨rfl, f2⟩
  have HN2 := hid ((HN1.out.kept f2).alloc (.cells #[.int .i64 0, .int .i64 0] 26))
  have A2 := hid (At.new w2 0 0)
  clear f2 HN1 HO2 c1 c2 HX1
  go_wp2_with fail
  refine (HQ.out _ HN2.out).mono ?_
  rintro e w3 ⟨B, rfl, hl, hq, f3⟩
  have A3 := hid (A2.out.kept f3)
  have HQ3 := hid hq
  have hne : Hid (¬ w2.heap.size = B) := fun e => by have := A2.out.lt; omega
  clear hl hq f3 HN2 HQ A2
  generalize w2.heap.size = X at *
  go_wp2_with fail
  refine (HA.out _).mono ?_
  rintro e w4 ⟨rfl, f4⟩
  have A4 := hid (A3.out.kept f4)
  have HQ4 := hid (HQ3.out.kept f4)
  clear f4 A3 HQ3 HA
  have d0 := A4.out.c0
  have d1 := A4.out.c1
  go_wp2_with fail
  refine (H1.out _ _ HQ4.out).mono ?_
  rintro e w5 ⟨rfl, hq, hf⟩
  have HQ5 := hid hq
  have A5 := hid (A4.out.carry hf hne.out)
  clear d0 d1 A4
  have d0 := A5.out.c0
  have d1 := A5.out.c1
  clear hq hf HQ4
  go_wp2_with fail
  refine (H2.out _ _ HQ5.out).mono ?_
  rintro e w6 ⟨rfl, hq, hf⟩
  have HQ6 := hid hq
  have A6 := hid (A5.out.carry hf hne.out)
  clear d0 d1 A5
  have d0 := A6.out.c0
  have d1 := A6.out.c1
  clear hq hf HQ5
  go_wp2_with fail
  refine (H3.out _ _ HQ6.out).mono ?_
  rintro e w7 ⟨rfl, hq, hf⟩
  have HQ7 := hid hq
  clear hq hf HQ6
  go_wp2_with fail
  refine (H4.out _ _ HQ7.out).mono ?_
  rintro e w8 ⟨rfl, hq, hf⟩
  have HQ8 := hid hq
  clear hq hf HQ7
  go_wp2_with fail
  refine (H5.out _ _ HQ8.out).mono ?_
  rintro e w9 ⟨rfl, hq, hf⟩
  have HQ9 := hid hq
  clear hq hf HQ8
  go_wp2_with fail
  refine (H6.out _ _ HQ9.out).mono ?_
  rintro e w10 ⟨rfl, hq, hf⟩
  have HQ10 := hid hq
  clear hq hf HQ9
  go_wp2_with fail
  refine (H7.out _ _ HQ10.out).mono ?_
  rintro e w11 ⟨rfl, hq, hf⟩
  have HQ11 := hid hq
  clear hq hf HQ10
  go_wp2
  go_ret
  exact ⟨by simp, HQ11.out.nw.fr⟩
set_option maxRecDepth 20000 in
set_option maxHeartbeats 1000000 in
theorem all_more1 (b p k c d : Int) (w : World) (r1 : Rt b p) (r2 : Rt c d) (hz : ¬ (c = 0 ∧ d = 0)) (hy : c ≠ 0) : Calls Try.prog 7 #[.int .i64 b, .int .i64 p, .agg #[.int .i64 k, .int .i64 c, .int .i64 d]] w fun e w' => e = .returned (.bool true) ∧ Fr (fun _ => False) w w' := by
  have HO1 := hid fun w => o_yes r1 w
  have HO2 := hid fun w => o_yes r2 w
  have HA := hid fun w => awake_f w
  have HQ := hid fun w0 (h : Nw w w0) => n_new r1 h
  have i1 := all_1 b p
  have H1 : Hid (∀ w0 B, Qn w w0 B (newQ b p) → Calls Try.prog 12 #[.pointer (some ⟨B, 0, none⟩), .complex .f64 (fb b) (fb p)] w0 fun e w' => e = .returned (.int .i64 0) ∧ Qn w w' B ⟨b, p, 0, 0, b, p⟩ ∧ Fr (fun i => i = B) w0 w') := fun w0 B h => by have := n_res h r1; rwa [i1.1, i1.2.1] at this
  have H2 : Hid (∀ w0 B, Qn w w0 B ⟨b, p, 0, 0, b, p⟩ → Calls Try.prog 12 #[.pointer (some ⟨B, 0, none⟩), .complex .f64 (fb c) (fb d)] w0 fun e w' => e = .returned (.int .i64 3) ∧ Qn w w' B ⟨b, p, 0, 0, b, p⟩ ∧ Fr (fun i => i = B) w0 w') := fun w0 B h => by have := n_res h r2; rwa [(all_n r2 hz).1, (all_n r2 hz).2] at this
  have H3 : Hid (∀ w0 B, Qn w w0 B ⟨b, p, 0, 0, b, p⟩ → Calls Try.prog 18 #[.pointer (some ⟨B, 0, none⟩), .complex .f64 (fb b) (fb p)] w0 fun e w' => e = .returned (.int .i64 0) ∧ Qn w w' B ⟨b, p, b, p, 0, 0⟩ ∧ Fr (fun i => i = B) w0 w') := fun w0 B h => by have := n_com h r1; rwa [i1.2.2.1, i1.2.2.2.1] at this
  have H4 : Hid (∀ w0 B, Qn w w0 B ⟨b, p, b, p, 0, 0⟩ → Calls Try.prog 16 #[.pointer (some ⟨B, 0, none⟩)] w0 fun e w' => e = .returned (.complex .f64 (fb b) (fb p)) ∧ Qn w w' B ⟨b, p, b, p, 0, 0⟩ ∧ Fr (fun _ => False) w0 w') := fun w0 B h => n_cha h
  have H5 : Hid (∀ w0 B, Qn w w0 B ⟨b, p, b, p, 0, 0⟩ → Calls Try.prog 17 #[.pointer (some ⟨B, 0, none⟩)] w0 fun e w' => e = .returned (.complex .f64 (fb 0) (fb 0)) ∧ Qn w w' B ⟨b, p, b, p, 0, 0⟩ ∧ Fr (fun _ => False) w0 w') := fun w0 B h => n_rsv h
  have H6 : Hid (∀ w0 B, Qn w w0 B ⟨b, p, b, p, 0, 0⟩ → Calls Try.prog 20 #[.pointer (some ⟨B, 0, none⟩), .complex .f64 (fb b) (fb p)] w0 fun e w' => e = .returned (.int .i64 0) ∧ Qn w w' B ⟨b, p, 0, 0, 0, 0⟩ ∧ Fr (fun i => i = B) w0 w') := fun w0 B h => by have := n_ref h r1; rwa [i1.2.2.2.2.1, i1.2.2.2.2.2] at this
  have H7 : Hid (∀ w0 B, Qn w w0 B ⟨b, p, 0, 0, 0, 0⟩ → Calls Try.prog 16 #[.pointer (some ⟨B, 0, none⟩)] w0 fun e w' => e = .returned (.complex .f64 (fb 0) (fb 0)) ∧ Qn w w' B ⟨b, p, 0, 0, 0, 0⟩ ∧ Fr (fun _ => False) w0 w') := fun w0 B h => n_cha h
  have o0 := order_zero
  have o1 := order_self b (by unfold Rt at r1; omega)
  have o2 := order_self p (by unfold Rt at r1; omega)
  rw [fb_zero] at H5 H7
  clear i1 r1 r2
  generalize fb b = x1 at *
  generalize fb p = x2 at *
  generalize fb c = y1 at *
  generalize fb d = y2 at *
  have hc : (c == 0) = false := by simpa using hy
  clear hz hy
  have HX := hid (Bx.new w k c d)
  have HN0 := hid (Nw.alloc (Nw.start w) (.cells #[.int .i64 k, .int .i64 c, .int .i64 d] 38))
  go_enter Try.func7, Try.ntmps7
  go_wp2_with fail
  refine (HO1.out _).mono ?_
  rintro e w1 ⟨rfl, f1⟩
  have HN1 := hid ((HN0.out.kept f1).alloc (.cells #[.int .i64 b, .int .i64 p] 26))
  have HX1 := hid ((HX.out.kept f1).alloc (.cells #[.int .i64 b, .int .i64 p] 26))
  clear f1 HN0 HX HO1
  have c1 := HX1.out.c1
  have c2 := HX1.out.c2
  go_wp2_with fail
  refine (HO2.out _).mono ?_
  rintro e w2 ⟨rfl, f2⟩
  have HN2 := hid ((HN1.out.kept f2).alloc (.cells #[.int .i64 c, .int .i64 d] 26))
  have A2 := hid (At.new w2 c d)
  clear f2 HN1 HO2 c1 c2 HX1
  go_wp2_with fail
  refine (HQ.out _ HN2.out).mono ?_
  rintro e w3 ⟨B, rfl, hl, hq, f3⟩
  have A3 := hid (A2.out.kept f3)
  have HQ3 := hid hq
  have hne : Hid (¬ w2.heap.size = B) := fun e => by have := A2.out.lt; omega
  clear hl hq f3 HN2 HQ A2
  generalize w2.heap.size = X at *
  go_wp2_with fail
  refine (HA.out _).mono ?_
  rintro e w4 ⟨rfl, f4⟩
  have A4 := hid (A3.out.kept f4)
  have HQ4 := hid (HQ3.out.kept f4)
  clear f4 A3 HQ3 HA
  have d0 := A4.out.c0
  have d1 := A4.out.c1
  go_wp2_with fail
  refine (H1.out _ _ HQ4.out).mono ?_
  rintro e w5 ⟨rfl, hq, hf⟩
  have HQ5 := hid hq
  have A5 := hid (A4.out.carry hf hne.out)
  clear d0 d1 A4
  have d0 := A5.out.c0
  have d1 := A5.out.c1
  clear hq hf HQ4
  go_wp2_with fail
  refine (H2.out _ _ HQ5.out).mono ?_
  rintro e w6 ⟨rfl, hq, hf⟩
  have HQ6 := hid hq
  have A6 := hid (A5.out.carry hf hne.out)
  clear d0 d1 A5
  have d0 := A6.out.c0
  have d1 := A6.out.c1
  clear hq hf HQ5
  go_wp2_with fail
  refine (H2.out _ _ HQ6.out).mono ?_
  rintro e w7 ⟨rfl, hq, hf⟩
  have HQ7 := hid hq
  have A7 := hid (A6.out.carry hf hne.out)
  clear d0 d1 A6
  have d0 := A7.out.c0
  have d1 := A7.out.c1
  clear hq hf HQ6
  go_wp2_with fail
  refine (H3.out _ _ HQ7.out).mono ?_
  rintro e w8 ⟨rfl, hq, hf⟩
  have HQ8 := hid hq
  clear hq hf HQ7
  go_wp2_with fail
  refine (H4.out _ _ HQ8.out).mono ?_
  rintro e w9 ⟨rfl, hq, hf⟩
  have HQ9 := hid hq
  clear hq hf HQ8
  go_wp2_with fail
  refine (H5.out _ _ HQ9.out).mono ?_
  rintro e w10 ⟨rfl, hq, hf⟩
  have HQ10 := hid hq
  clear hq hf HQ9
  go_wp2_with fail
  refine (H6.out _ _ HQ10.out).mono ?_
  rintro e w11 ⟨rfl, hq, hf⟩
  have HQ11 := hid hq
  clear hq hf HQ10
  go_wp2_with fail
  refine (H7.out _ _ HQ11.out).mono ?_
  rintro e w12 ⟨rfl, hq, hf⟩
  have HQ12 := hid hq
  clear hq hf HQ11
  go_wp2
  go_ret
  exact ⟨by simp, HQ12.out.nw.fr⟩
set_option maxRecDepth 20000 in
set_option maxHeartbeats 1000000 in
theorem all_more2 (b p k c d : Int) (w : World) (r1 : Rt b p) (r2 : Rt c d) (hz : ¬ (c = 0 ∧ d = 0)) (hy : c = 0) : Calls Try.prog 7 #[.int .i64 b, .int .i64 p, .agg #[.int .i64 k, .int .i64 c, .int .i64 d]] w fun e w' => e = .returned (.bool true) ∧ Fr (fun _ => False) w w' := by
  have HO1 := hid fun w => o_yes r1 w
  have HO2 := hid fun w => o_yes r2 w
  have HA := hid fun w => awake_f w
  have HQ := hid fun w0 (h : Nw w w0) => n_new r1 h
  have i1 := all_1 b p
  have H1 : Hid (∀ w0 B, Qn w w0 B (newQ b p) → Calls Try.prog 12 #[.pointer (some ⟨B, 0, none⟩), .complex .f64 (fb b) (fb p)] w0 fun e w' => e = .returned (.int .i64 0) ∧ Qn w w' B ⟨b, p, 0, 0, b, p⟩ ∧ Fr (fun i => i = B) w0 w') := fun w0 B h => by have := n_res h r1; rwa [i1.1, i1.2.1] at this
  have H2 : Hid (∀ w0 B, Qn w w0 B ⟨b, p, 0, 0, b, p⟩ → Calls Try.prog 12 #[.pointer (some ⟨B, 0, none⟩), .complex .f64 (fb c) (fb d)] w0 fun e w' => e = .returned (.int .i64 3) ∧ Qn w w' B ⟨b, p, 0, 0, b, p⟩ ∧ Fr (fun i => i = B) w0 w') := fun w0 B h => by have := n_res h r2; rwa [(all_n r2 hz).1, (all_n r2 hz).2] at this
  have H3 : Hid (∀ w0 B, Qn w w0 B ⟨b, p, 0, 0, b, p⟩ → Calls Try.prog 18 #[.pointer (some ⟨B, 0, none⟩), .complex .f64 (fb b) (fb p)] w0 fun e w' => e = .returned (.int .i64 0) ∧ Qn w w' B ⟨b, p, b, p, 0, 0⟩ ∧ Fr (fun i => i = B) w0 w') := fun w0 B h => by have := n_com h r1; rwa [i1.2.2.1, i1.2.2.2.1] at this
  have H4 : Hid (∀ w0 B, Qn w w0 B ⟨b, p, b, p, 0, 0⟩ → Calls Try.prog 16 #[.pointer (some ⟨B, 0, none⟩)] w0 fun e w' => e = .returned (.complex .f64 (fb b) (fb p)) ∧ Qn w w' B ⟨b, p, b, p, 0, 0⟩ ∧ Fr (fun _ => False) w0 w') := fun w0 B h => n_cha h
  have H5 : Hid (∀ w0 B, Qn w w0 B ⟨b, p, b, p, 0, 0⟩ → Calls Try.prog 17 #[.pointer (some ⟨B, 0, none⟩)] w0 fun e w' => e = .returned (.complex .f64 (fb 0) (fb 0)) ∧ Qn w w' B ⟨b, p, b, p, 0, 0⟩ ∧ Fr (fun _ => False) w0 w') := fun w0 B h => n_rsv h
  have H6 : Hid (∀ w0 B, Qn w w0 B ⟨b, p, b, p, 0, 0⟩ → Calls Try.prog 20 #[.pointer (some ⟨B, 0, none⟩), .complex .f64 (fb b) (fb p)] w0 fun e w' => e = .returned (.int .i64 0) ∧ Qn w w' B ⟨b, p, 0, 0, 0, 0⟩ ∧ Fr (fun i => i = B) w0 w') := fun w0 B h => by have := n_ref h r1; rwa [i1.2.2.2.2.1, i1.2.2.2.2.2] at this
  have H7 : Hid (∀ w0 B, Qn w w0 B ⟨b, p, 0, 0, 0, 0⟩ → Calls Try.prog 16 #[.pointer (some ⟨B, 0, none⟩)] w0 fun e w' => e = .returned (.complex .f64 (fb 0) (fb 0)) ∧ Qn w w' B ⟨b, p, 0, 0, 0, 0⟩ ∧ Fr (fun _ => False) w0 w') := fun w0 B h => n_cha h
  have o0 := order_zero
  have o1 := order_self b (by unfold Rt at r1; omega)
  have o2 := order_self p (by unfold Rt at r1; omega)
  rw [fb_zero] at H5 H7
  clear i1 r1 r2
  generalize fb b = x1 at *
  generalize fb p = x2 at *
  generalize fb c = y1 at *
  generalize fb d = y2 at *
  subst hy
  have hc : (d == 0) = false := by simp; intro e; exact hz ⟨rfl, e⟩
  clear hz
  have HX := hid (Bx.new w k 0 d)
  have HN0 := hid (Nw.alloc (Nw.start w) (.cells #[.int .i64 k, .int .i64 0, .int .i64 d] 38))
  go_enter Try.func7, Try.ntmps7
  go_wp2_with fail
  refine (HO1.out _).mono ?_
  rintro e w1 ⟨rfl, f1⟩
  have HN1 := hid ((HN0.out.kept f1).alloc (.cells #[.int .i64 b, .int .i64 p] 26))
  have HX1 := hid ((HX.out.kept f1).alloc (.cells #[.int .i64 b, .int .i64 p] 26))
  clear f1 HN0 HX HO1
  have c1 := HX1.out.c1
  have c2 := HX1.out.c2
  go_wp2_with fail
  refine (HO2.out _).mono ?_
  rintro e w2 ⟨rfl, f2⟩
  have HN2 := hid ((HN1.out.kept f2).alloc (.cells #[.int .i64 0, .int .i64 d] 26))
  have A2 := hid (At.new w2 0 d)
  clear f2 HN1 HO2 c1 c2 HX1
  go_wp2_with fail
  refine (HQ.out _ HN2.out).mono ?_
  rintro e w3 ⟨B, rfl, hl, hq, f3⟩
  have A3 := hid (A2.out.kept f3)
  have HQ3 := hid hq
  have hne : Hid (¬ w2.heap.size = B) := fun e => by have := A2.out.lt; omega
  clear hl hq f3 HN2 HQ A2
  generalize w2.heap.size = X at *
  go_wp2_with fail
  refine (HA.out _).mono ?_
  rintro e w4 ⟨rfl, f4⟩
  have A4 := hid (A3.out.kept f4)
  have HQ4 := hid (HQ3.out.kept f4)
  clear f4 A3 HQ3 HA
  have d0 := A4.out.c0
  have d1 := A4.out.c1
  go_wp2_with fail
  refine (H1.out _ _ HQ4.out).mono ?_
  rintro e w5 ⟨rfl, hq, hf⟩
  have HQ5 := hid hq
  have A5 := hid (A4.out.carry hf hne.out)
  clear d0 d1 A4
  have d0 := A5.out.c0
  have d1 := A5.out.c1
  clear hq hf HQ4
  go_wp2_with fail
  refine (H2.out _ _ HQ5.out).mono ?_
  rintro e w6 ⟨rfl, hq, hf⟩
  have HQ6 := hid hq
  have A6 := hid (A5.out.carry hf hne.out)
  clear d0 d1 A5
  have d0 := A6.out.c0
  have d1 := A6.out.c1
  clear hq hf HQ5
  go_wp2_with fail
  refine (H2.out _ _ HQ6.out).mono ?_
  rintro e w7 ⟨rfl, hq, hf⟩
  have HQ7 := hid hq
  have A7 := hid (A6.out.carry hf hne.out)
  clear d0 d1 A6
  have d0 := A7.out.c0
  have d1 := A7.out.c1
  clear hq hf HQ6
  go_wp2_with fail
  refine (H3.out _ _ HQ7.out).mono ?_
  rintro e w8 ⟨rfl, hq, hf⟩
  have HQ8 := hid hq
  clear hq hf HQ7
  go_wp2_with fail
  refine (H4.out _ _ HQ8.out).mono ?_
  rintro e w9 ⟨rfl, hq, hf⟩
  have HQ9 := hid hq
  clear hq hf HQ8
  go_wp2_with fail
  refine (H5.out _ _ HQ9.out).mono ?_
  rintro e w10 ⟨rfl, hq, hf⟩
  have HQ10 := hid hq
  clear hq hf HQ9
  go_wp2_with fail
  refine (H6.out _ _ HQ10.out).mono ?_
  rintro e w11 ⟨rfl, hq, hf⟩
  have HQ11 := hid hq
  clear hq hf HQ10
  go_wp2_with fail
  refine (H7.out _ _ HQ11.out).mono ?_
  rintro e w12 ⟨rfl, hq, hf⟩
  have HQ12 := hid hq
  clear hq hf HQ11
  go_wp2
  go_ret
  exact ⟨by simp, HQ12.out.nw.fr⟩
theorem all_walk (b p k c d : Int) (w : World) : Calls Try.prog 7 #[.int .i64 b, .int .i64 p, .agg #[.int .i64 k, .int .i64 c, .int .i64 d]] w fun e w' => e = .returned (.bool true) ∧ Fr (fun _ => False) w w' := by
  by_cases r1 : Rt b p
  · by_cases r2 : Rt c d
    · by_cases hz : c = 0 ∧ d = 0
      · exact all_zero b p k c d w r1 r2 hz
      · by_cases hy : c = 0
        · exact all_more2 b p k c d w r1 r2 hz hy
        · exact all_more1 b p k c d w r1 r2 hz hy
    · exact all_bad3 b p k c d w r1 r2
  · by_cases r2 : Rt c d
    · exact all_bad1 b p k c d w r1 r2
    · exact all_bad2 b p k c d w r1 r2
end Go.Proofs.Ytnlaocokjilncaa
