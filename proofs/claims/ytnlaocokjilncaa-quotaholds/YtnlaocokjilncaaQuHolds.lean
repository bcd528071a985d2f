/-
  Whatever is asked: what is charged and reserved together fits the limit: the walk of the law QuotaHolds.
-/
import Derived.Test.YtnlaocokjilncaaQuStep
namespace Go.Proofs.Ytnlaocokjilncaa
open Go.RowKit

set_option maxRecDepth 20000 in
set_option maxHeartbeats 1000000 in
theorem holds_bad (b p : Int) (ad : Option Addr) (l : List (Int × Int × Int)) (cap : Nat) (w : World) (r1 : ¬ Rt b p) : Calls Try.prog 4 #[.int .i64 b, .int .i64 p, .slice ad l.length cap] w fun e w' => e = .returned (.bool true) ∧ Fr (fun _ => False) w w' := by
  have HO1 := hid fun w => o_no r1 w
  have HQ := hid fun w => q_new_no wrong_raw w
  have HA := hid fun w => awake_f w
  clear r1
  go_enter Try.func4, Try.ntmps4
  go_wp2_with fail
  refine (HO1.out _).mono ?_
  rintro e w1 ⟨rfl, f1⟩
  have HN1 := hid ((Nw.kept (Nw.start w) f1).alloc (.cells #[.int .i64 0, .int .i64 0] 26))
  clear f1 HO1
  go_wp2_with fail
  refine (HQ.out _).mono ?_
  rintro e w2 ⟨rfl, f2⟩
  have HN2 := hid (HN1.out.kept f2)
  clear f2 HN1 HQ
  go_wp2_with fail
  refine (HA.out _).mono ?_
  rintro e w3 ⟨rfl, hn⟩
  have HN3 := hid (HN2.out.kept hn)
  clear hn HN2
  go_wp2_with fail
  refine (HA.out _).mono ?_
  rintro e w4 ⟨rfl, hn⟩
  have HN4 := hid (HN3.out.kept hn)
  clear hn HN3
  go_wp2
  go_ret
  exact ⟨by simp, HN4.out.fr⟩
set_option maxRecDepth 20000 in
set_option maxHeartbeats 1000000 in
theorem holds_long (b p : Int) (ad : Option Addr) (l : List (Int × Int × Int)) (cap : Nat) (w : World) (r1 : Rt b p) (hlen : 1000 < l.length) (hlm : l.length ≤ 9223372036854775807) : Calls Try.prog 4 #[.int .i64 b, .int .i64 p, .slice ad l.length cap] w fun e w' => e = .returned (.bool true) ∧ Fr (fun _ => False) w w' := by
  have HO1 := hid fun w => o_yes r1 w
  have HQ := hid fun w0 (h : Nw w w0) => n_new r1 h
  have HA := hid fun w => awake_f w
  clear r1
  generalize fb b = x1 at *
  generalize fb p = x2 at *
  go_enter Try.func4, Try.ntmps4
  go_wp2_with fail
  refine (HO1.out _).mono ?_
  rintro e w1 ⟨rfl, f1⟩
  have HN1 := hid ((Nw.kept (Nw.start w) f1).alloc (.cells #[.int .i64 b, .int .i64 p] 26))
  clear f1 HO1
  go_wp2_with fail
  refine (HQ.out _ HN1.out).mono ?_
  rintro e w2 ⟨B, rfl, hl, hq, f2⟩
  have HQ2 := hid hq
  have HN2 := hid hq.nw
  clear hl hq f2 HN1 HQ
  clear HQ2
  go_wp2_with fail
  refine (HA.out _).mono ?_
  rintro e w3 ⟨rfl, hn⟩
  have HN3 := hid (HN2.out.kept hn)
  clear hn HN2
  go_wp2_with fail
  refine (HA.out _).mono ?_
  rintro e w4 ⟨rfl, hn⟩
  have HN4 := hid (HN3.out.kept hn)
  clear hn HN3
  go_wp2
  go_ret
  exact ⟨by simp, HN4.out.fr⟩
set_option maxRecDepth 20000 in
set_option maxHeartbeats 4000000 in
theorem holds_loop (b p : Int) (ad : Option Addr) (l : List (Int × Int × Int)) (cap : Nat) (w : World) (r1 : Rt b p) (hl : OpsAt w ad l) (hll : ¬ 1000 < l.length) : Calls Try.prog 4 #[.int .i64 b, .int .i64 p, .slice ad l.length cap] w fun e w' => e = .returned (.bool true) ∧ Fr (fun _ => False) w w' := by
  have HO1 := hid fun w => o_yes r1 w
  have HO := hid fun a b w => o_all a b w
  have HQ := hid fun w0 (h : Nw w w0) => n_new r1 h
  have HA := hid fun w => awake_f w
  have HL := hid hl
  clear r1 hl
  generalize fb b = x1 at *
  generalize fb p = x2 at *
  go_enter Try.func4, Try.ntmps4
  go_wp2_with fail
  refine (HO1.out _).mono ?_
  rintro e w1 ⟨rfl, f1⟩
  have HN1 := hid ((Nw.kept (Nw.start w) f1).alloc (.cells #[.int .i64 b, .int .i64 p] 26))
  clear f1 HO1
  go_wp2_with fail
  refine (HQ.out _ HN1.out).mono ?_
  rintro e w2 ⟨B, rfl, hl, hq, f2⟩
  have HQ2 := hid hq
  have HN2 := hid hq.nw
  clear hl hq f2 HN1 HQ
  clear HN2
  go_wp2_with fail
  refine (HA.out _).mono ?_
  rintro e w3 ⟨rfl, f3⟩
  have HQ3 := hid (HQ2.out.kept f3)
  clear f3 HQ2 HA
  go_wp2
  go_loopw [45] (fun i wr => ∃ (j : Nat) (s : QS), j ≤ l.length ∧ i = .int .i64 j ∧ Hid (Qn w wr B s)) (fun i _ => l.length - (intOf i).toNat)
  case atStart => exact ⟨0, _, by omega, rfl, HQ3⟩
  case round =>
    obtain ⟨j, s, hj, rfl, HQ⟩ := hrel
    clear HQ3
    by_cases hlt : j < l.length
    · obtain ⟨bb, off, rfl, hbb, hc1, hc2, hc3⟩ := HL.out.fr HQ.out.nw.fr j hlt
      generalize hk : l[j] = o at hc1 hc2 hc3
      obtain ⟨kind, a, c⟩ := o
      simp only at hc1 hc2 hc3
      have HX := hid (Bx.new wr kind a c)
      have HQ0 := hid (HQ.out.alloc (.cells #[.int .i64 kind, .int .i64 a, .int .i64 c] 38))
      have hnx : Hid (¬ wr.heap.size = B) := fun e => by have := HQ.out.lt; omega
      have HO2 := hid fun w => HO.out a c w
      have HOK := hid (stepS_ok HQ.out.q.ok kind a c)
      clear hk HL HO HQ
      by_cases hk1 : kind = 1
      · subst hk1
        go_wp2_with fail
        refine (HO2.out _).mono ?_
        rintro e w4 ⟨rfl, f4⟩
        have HQ4 := hid ((HQ0.out.kept f4).alloc (.cells #[.int .i64 (okA a c), .int .i64 (okB a c)] 26))
        have HX4 := hid ((HX.out.kept f4).alloc (.cells #[.int .i64 (okA a c), .int .i64 (okB a c)] 26))
        clear f4 HQ0 HX HO2 hc1 hc2 hc3 hbb
        have q0 := HX4.out.c0
        have HS := hid (x_res HQ4.out a c)
        clear HQ4
        generalize stepS s 1 a c = s' at *
        generalize stepE s 1 a c = e' at *
        generalize xb a c = x at *
        generalize yb a c = y at *
        go_wp2_with fail
        refine HS.out.mono ?_
        rintro e w5 ⟨rfl, hq, f5⟩
        have HQ5 := hid hq
        clear hq f5 HS q0 HX4
        have P1 := hid fun w0 (h : Qn w w0 B s') => n_cha h
        have P2 := hid fun w0 (h : Qn w w0 B s') => n_rsv h
        have P3 := hid fun w => x_plus HOK.out w
        have P4 := hid fun w0 (h : Qn w w0 B s') => n_lim h
        have P5 := hid fun w => x_fits HOK.out w
        generalize fb s'.cb = v1 at *
        generalize fb s'.cp = v2 at *
        generalize fb s'.rb = v3 at *
        generalize fb s'.rp = v4 at *
        generalize fb s'.lb = v5 at *
        generalize fb s'.lp = v6 at *
        generalize fb (s'.cb + s'.rb) = v7 at *
        generalize fb (s'.cp + s'.rp) = v8 at *
        clear HOK
        go_wp2_with fail
        refine (P1.out _ HQ5.out).mono ?_
        rintro e w6 ⟨rfl, hq, _⟩
        have HQ6 := hid hq
        clear hq HQ5 P1
        go_wp2_with fail
        refine (P2.out _ HQ6.out).mono ?_
        rintro e w7 ⟨rfl, hq, _⟩
        have HQ7 := hid hq
        clear hq HQ6 P2
        go_wp2_with fail
        refine (P3.out _).mono ?_
        rintro e w8 ⟨rfl, hf⟩
        have HQ8 := hid (HQ7.out.kept hf)
        clear hf HQ7 P3
        go_wp2_with fail
        refine (P4.out _ HQ8.out).mono ?_
        rintro e w9 ⟨rfl, hq, _⟩
        have HQ9 := hid hq
        clear hq HQ8 P4
        go_wp2_with fail
        refine (P5.out _).mono ?_
        rintro e w10 ⟨rfl, hf⟩
        have HQ10 := hid (HQ9.out.kept hf)
        clear hf HQ9 P5
        go_wp2
        go_roundw
        case rel => exact ⟨j + 1, s', by omega, by go_num, HQ10⟩
        case measure => simp [intOf]; omega
      by_cases hk2 : kind = 2
      · subst hk2
        go_wp2_with fail
        refine (HO2.out _).mono ?_
        rintro e w4 ⟨rfl, f4⟩
        have HQ4 := hid ((HQ0.out.kept f4).alloc (.cells #[.int .i64 (okA a c), .int .i64 (okB a c)] 26))
        have HX4 := hid ((HX.out.kept f4).alloc (.cells #[.int .i64 (okA a c), .int .i64 (okB a c)] 26))
        clear f4 HQ0 HX HO2 hc1 hc2 hc3 hbb
        have q0 := HX4.out.c0
        have HS := hid (x_com HQ4.out a c)
        clear HQ4
        generalize stepS s 2 a c = s' at *
        generalize stepE s 2 a c = e' at *
        generalize xb a c = x at *
        generalize yb a c = y at *
        go_wp2_with fail
        refine HS.out.mono ?_
        rintro e w5 ⟨rfl, hq, f5⟩
        have HQ5 := hid hq
        clear hq f5 HS q0 HX4
        have P1 := hid fun w0 (h : Qn w w0 B s') => n_cha h
        have P2 := hid fun w0 (h : Qn w w0 B s') => n_rsv h
        have P3 := hid fun w => x_plus HOK.out w
        have P4 := hid fun w0 (h : Qn w w0 B s') => n_lim h
        have P5 := hid fun w => x_fits HOK.out w
        generalize fb s'.cb = v1 at *
        generalize fb s'.cp = v2 at *
        generalize fb s'.rb = v3 at *
        generalize fb s'.rp = v4 at *
        generalize fb s'.lb = v5 at *
        generalize fb s'.lp = v6 at *
        generalize fb (s'.cb + s'.rb) = v7 at *
        generalize fb (s'.cp + s'.rp) = v8 at *
        clear HOK
        go_wp2_with fail
        refine (P1.out _ HQ5.out).mono ?_
        rintro e w6 ⟨rfl, hq, _⟩
        have HQ6 := hid hq
        clear hq HQ5 P1
        go_wp2_with fail
        refine (P2.out _ HQ6.out).mono ?_
        rintro e w7 ⟨rfl, hq, _⟩
        have HQ7 := hid hq
        clear hq HQ6 P2
        go_wp2_with fail
        refine (P3.out _).mono ?_
        rintro e w8 ⟨rfl, hf⟩
        have HQ8 := hid (HQ7.out.kept hf)
        clear hf HQ7 P3
        go_wp2_with fail
        refine (P4.out _ HQ8.out).mono ?_
        rintro e w9 ⟨rfl, hq, _⟩
        have HQ9 := hid hq
        clear hq HQ8 P4
        go_wp2_with fail
        refine (P5.out _).mono ?_
        rintro e w10 ⟨rfl, hf⟩
        have HQ10 := hid (HQ9.out.kept hf)
        clear hf HQ9 P5
        go_wp2
        go_roundw
        case rel => exact ⟨j + 1, s', by omega, by go_num, HQ10⟩
        case measure => simp [intOf]; omega
      by_cases hk3 : kind = 3
      · subst hk3
        go_wp2_with fail
        refine (HO2.out _).mono ?_
        rintro e w4 ⟨rfl, f4⟩
        have HQ4 := hid ((HQ0.out.kept f4).alloc (.cells #[.int .i64 (okA a c), .int .i64 (okB a c)] 26))
        have HX4 := hid ((HX.out.kept f4).alloc (.cells #[.int .i64 (okA a c), .int .i64 (okB a c)] 26))
        clear f4 HQ0 HX HO2 hc1 hc2 hc3 hbb
        have q0 := HX4.out.c0
        have HS := hid (x_can HQ4.out a c)
        clear HQ4
        generalize stepS s 3 a c = s' at *
        generalize stepE s 3 a c = e' at *
        generalize xb a c = x at *
        generalize yb a c = y at *
        go_wp2_with fail
        refine HS.out.mono ?_
        rintro e w5 ⟨rfl, hq, f5⟩
        have HQ5 := hid hq
        clear hq f5 HS q0 HX4
        have P1 := hid fun w0 (h : Qn w w0 B s') => n_cha h
        have P2 := hid fun w0 (h : Qn w w0 B s') => n_rsv h
        have P3 := hid fun w => x_plus HOK.out w
        have P4 := hid fun w0 (h : Qn w w0 B s') => n_lim h
        have P5 := hid fun w => x_fits HOK.out w
        generalize fb s'.cb = v1 at *
        generalize fb s'.cp = v2 at *
        generalize fb s'.rb = v3 at *
        generalize fb s'.rp = v4 at *
        generalize fb s'.lb = v5 at *
        generalize fb s'.lp = v6 at *
        generalize fb (s'.cb + s'.rb) = v7 at *
        generalize fb (s'.cp + s'.rp) = v8 at *
        clear HOK
        go_wp2_with fail
        refine (P1.out _ HQ5.out).mono ?_
        rintro e w6 ⟨rfl, hq, _⟩
        have HQ6 := hid hq
        clear hq HQ5 P1
        go_wp2_with fail
        refine (P2.out _ HQ6.out).mono ?_
        rintro e w7 ⟨rfl, hq, _⟩
        have HQ7 := hid hq
        clear hq HQ6 P2
        go_wp2_with fail
        refine (P3.out _).mono ?_
        rintro e w8 ⟨rfl, hf⟩
        have HQ8 := hid (HQ7.out.kept hf)
        clear hf HQ7 P3
        go_wp2_with fail
        refine (P4.out _ HQ8.out).mono ?_
        rintro e w9 ⟨rfl, hq, _⟩
        have HQ9 := hid hq
        clear hq HQ8 P4
        go_wp2_with fail
        refine (P5.out _).mono ?_
        rintro e w10 ⟨rfl, hf⟩
        have HQ10 := hid (HQ9.out.kept hf)
        clear hf HQ9 P5
        go_wp2
        go_roundw
        case rel => exact ⟨j + 1, s', by omega, by go_num, HQ10⟩
        case measure => simp [intOf]; omega
      by_cases hk4 : kind = 4
      · subst hk4
        go_wp2_with fail
        refine (HO2.out _).mono ?_
        rintro e w4 ⟨rfl, f4⟩
        have HQ4 := hid ((HQ0.out.kept f4).alloc (.cells #[.int .i64 (okA a c), .int .i64 (okB a c)] 26))
        have HX4 := hid ((HX.out.kept f4).alloc (.cells #[.int .i64 (okA a c), .int .i64 (okB a c)] 26))
        clear f4 HQ0 HX HO2 hc1 hc2 hc3 hbb
        have q0 := HX4.out.c0
        have HS := hid (x_ref HQ4.out a c)
        clear HQ4
        generalize stepS s 4 a c = s' at *
        generalize stepE s 4 a c = e' at *
        generalize xb a c = x at *
        generalize yb a c = y at *
        go_wp2_with fail
        refine HS.out.mono ?_
        rintro e w5 ⟨rfl, hq, f5⟩
        have HQ5 := hid hq
        clear hq f5 HS q0 HX4
        have P1 := hid fun w0 (h : Qn w w0 B s') => n_cha h
        have P2 := hid fun w0 (h : Qn w w0 B s') => n_rsv h
        have P3 := hid fun w => x_plus HOK.out w
        have P4 := hid fun w0 (h : Qn w w0 B s') => n_lim h
        have P5 := hid fun w => x_fits HOK.out w
        generalize fb s'.cb = v1 at *
        generalize fb s'.cp = v2 at *
        generalize fb s'.rb = v3 at *
        generalize fb s'.rp = v4 at *
        generalize fb s'.lb = v5 at *
        generalize fb s'.lp = v6 at *
        generalize fb (s'.cb + s'.rb) = v7 at *
        generalize fb (s'.cp + s'.rp) = v8 at *
        clear HOK
        go_wp2_with fail
        refine (P1.out _ HQ5.out).mono ?_
        rintro e w6 ⟨rfl, hq, _⟩
        have HQ6 := hid hq
        clear hq HQ5 P1
        go_wp2_with fail
        refine (P2.out _ HQ6.out).mono ?_
        rintro e w7 ⟨rfl, hq, _⟩
        have HQ7 := hid hq
        clear hq HQ6 P2
        go_wp2_with fail
        refine (P3.out _).mono ?_
        rintro e w8 ⟨rfl, hf⟩
        have HQ8 := hid (HQ7.out.kept hf)
        clear hf HQ7 P3
        go_wp2_with fail
        refine (P4.out _ HQ8.out).mono ?_
        rintro e w9 ⟨rfl, hq, _⟩
        have HQ9 := hid hq
        clear hq HQ8 P4
        go_wp2_with fail
        refine (P5.out _).mono ?_
        rintro e w10 ⟨rfl, hf⟩
        have HQ10 := hid (HQ9.out.kept hf)
        clear hf HQ9 P5
        go_wp2
        go_roundw
        case rel => exact ⟨j + 1, s', by omega, by go_num, HQ10⟩
        case measure => simp [intOf]; omega
      by_cases hk5 : kind = 5
      · subst hk5
        go_wp2_with fail
        refine (HO2.out _).mono ?_
        rintro e w4 ⟨rfl, f4⟩
        have HQ4 := hid ((HQ0.out.kept f4).alloc (.cells #[.int .i64 (okA a c), .int .i64 (okB a c)] 26))
        have HX4 := hid ((HX.out.kept f4).alloc (.cells #[.int .i64 (okA a c), .int .i64 (okB a c)] 26))
        clear f4 HQ0 HX HO2 hc1 hc2 hc3 hbb
        have q0 := HX4.out.c0
        have HS := hid (x_rsz HQ4.out a c)
        clear HQ4
        generalize stepS s 5 a c = s' at *
        generalize stepE s 5 a c = e' at *
        generalize xb a c = x at *
        generalize yb a c = y at *
        go_wp2_with fail
        refine HS.out.mono ?_
        rintro e w5 ⟨rfl, hq, f5⟩
        have HQ5 := hid hq
        clear hq f5 HS q0 HX4
        have P1 := hid fun w0 (h : Qn w w0 B s') => n_cha h
        have P2 := hid fun w0 (h : Qn w w0 B s') => n_rsv h
        have P3 := hid fun w => x_plus HOK.out w
        have P4 := hid fun w0 (h : Qn w w0 B s') => n_lim h
        have P5 := hid fun w => x_fits HOK.out w
        generalize fb s'.cb = v1 at *
        generalize fb s'.cp = v2 at *
        generalize fb s'.rb = v3 at *
        generalize fb s'.rp = v4 at *
        generalize fb s'.lb = v5 at *
        generalize fb s'.lp = v6 at *
        generalize fb (s'.cb + s'.rb) = v7 at *
        generalize fb (s'.cp + s'.rp) = v8 at *
        clear HOK
        go_wp2_with fail
        refine (P1.out _ HQ5.out).mono ?_
        rintro e w6 ⟨rfl, hq, _⟩
        have HQ6 := hid hq
        clear hq HQ5 P1
        go_wp2_with fail
        refine (P2.out _ HQ6.out).mono ?_
        rintro e w7 ⟨rfl, hq, _⟩
        have HQ7 := hid hq
        clear hq HQ6 P2
        go_wp2_with fail
        refine (P3.out _).mono ?_
        rintro e w8 ⟨rfl, hf⟩
        have HQ8 := hid (HQ7.out.kept hf)
        clear hf HQ7 P3
        go_wp2_with fail
        refine (P4.out _ HQ8.out).mono ?_
        rintro e w9 ⟨rfl, hq, _⟩
        have HQ9 := hid hq
        clear hq HQ8 P4
        go_wp2_with fail
        refine (P5.out _).mono ?_
        rintro e w10 ⟨rfl, hf⟩
        have HQ10 := hid (HQ9.out.kept hf)
        clear hf HQ9 P5
        go_wp2
        go_roundw
        case rel => exact ⟨j + 1, s', by omega, by go_num, HQ10⟩
        case measure => simp [intOf]; omega
      · have hk0 : kind < 1 ∨ 5 < kind := by omega
        have n1 : (kind == 1) = false := by simpa using hk1
        have n2 : (kind == 2) = false := by simpa using hk2
        have n3 : (kind == 3) = false := by simpa using hk3
        have n4 : (kind == 4) = false := by simpa using hk4
        have n5 : (kind == 5) = false := by simpa using hk5
        clear hk1 hk2 hk3 hk4 hk5
        go_wp2_with fail
        refine (HO2.out _).mono ?_
        rintro e w4 ⟨rfl, f4⟩
        have HQ4 := hid ((HQ0.out.kept f4).alloc (.cells #[.int .i64 (okA a c), .int .i64 (okB a c)] 26))
        have HX4 := hid ((HX.out.kept f4).alloc (.cells #[.int .i64 (okA a c), .int .i64 (okB a c)] 26))
        clear f4 HQ0 HX HO2 hc1 hc2 hc3 hbb
        have q0 := HX4.out.c0
        rw [stepS_none hk0] at HOK
        have HQ5 := HQ4
        clear HQ4 HX4
        generalize xb a c = x at *
        generalize yb a c = y at *
        obtain ⟨s', hs'⟩ : ∃ s', s' = s := ⟨_, rfl⟩
        subst hs'
        have P1 := hid fun w0 (h : Qn w w0 B s') => n_cha h
        have P2 := hid fun w0 (h : Qn w w0 B s') => n_rsv h
        have P3 := hid fun w => x_plus HOK.out w
        have P4 := hid fun w0 (h : Qn w w0 B s') => n_lim h
        have P5 := hid fun w => x_fits HOK.out w
        generalize fb s'.cb = v1 at *
        generalize fb s'.cp = v2 at *
        generalize fb s'.rb = v3 at *
        generalize fb s'.rp = v4 at *
        generalize fb s'.lb = v5 at *
        generalize fb s'.lp = v6 at *
        generalize fb (s'.cb + s'.rb) = v7 at *
        generalize fb (s'.cp + s'.rp) = v8 at *
        clear HOK
        go_wp2_with fail
        refine (P1.out _ HQ5.out).mono ?_
        rintro e w6 ⟨rfl, hq, _⟩
        have HQ6 := hid hq
        clear hq HQ5 P1
        go_wp2_with fail
        refine (P2.out _ HQ6.out).mono ?_
        rintro e w7 ⟨rfl, hq, _⟩
        have HQ7 := hid hq
        clear hq HQ6 P2
        go_wp2_with fail
        refine (P3.out _).mono ?_
        rintro e w8 ⟨rfl, hf⟩
        have HQ8 := hid (HQ7.out.kept hf)
        clear hf HQ7 P3
        go_wp2_with fail
        refine (P4.out _ HQ8.out).mono ?_
        rintro e w9 ⟨rfl, hq, _⟩
        have HQ9 := hid hq
        clear hq HQ8 P4
        go_wp2_with fail
        refine (P5.out _).mono ?_
        rintro e w10 ⟨rfl, hf⟩
        have HQ10 := hid (HQ9.out.kept hf)
        clear hf HQ9 P5
        go_wp2
        go_roundw
        case rel => exact ⟨j + 1, s', by omega, by go_num, HQ10⟩
        case measure => simp [intOf]; omega
    · obtain rfl : j = l.length := by omega
      clear HL
      go_wp2
      go_ret
      exact ⟨by simp, HQ.out.nw.fr⟩
theorem holds_walk (b p : Int) (v : Value) (w : World) (h : ∃ ad cap l, v = .slice ad (List.length l) cap ∧ OpsAt w ad l ∧ l.length ≤ maxLen) : Calls Try.prog 4 #[.int .i64 b, .int .i64 p, v] w fun e w' => e = .returned (.bool true) ∧ Fr (fun _ => False) w w' := by
  obtain ⟨ad, cap, l, rfl, g1, g2⟩ := h
  by_cases r1 : Rt b p
  · by_cases h2 : 1000 < l.length
    · exact holds_long b p ad l cap w r1 h2 g2
    · exact holds_loop b p ad l cap w r1 g1 h2
  · exact holds_bad b p ad l cap w r1
end Go.Proofs.Ytnlaocokjilncaa
