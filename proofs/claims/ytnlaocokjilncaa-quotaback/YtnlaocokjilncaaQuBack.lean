/-
  What is reserved and cancelled, or committed and refunded, leaves a quota as it was; what is refused does, too: the walk of the law QuotaBack.
-/
import Derived.Test.YtnlaocokjilncaaQuDone
namespace Go.Proofs.Ytnlaocokjilncaa
open Go.RowKit

/-- Reserved and cancelled again; reserved, committed and refunded; refused. -/
theorem back_yes {s : QS} {a b : Int} (h : s.Room a b) (k : s.Ok) : ∃ s1 s2, resE s a b = 0 ∧ resS s a b = s1 ∧ canE s1 a b = 0 ∧ canS s1 a b = s ∧ comE s1 a b = 0 ∧ comS s1 a b = s2 ∧ refE s2 a b = 0 ∧ refS s2 a b = s := by
  obtain ⟨lb, lp, cb, cp, rb, rp⟩ := s
  obtain ⟨o1, o2, o3, o4, o5, o6, o7⟩ := k
  simp only at *
  refine ⟨⟨lb, lp, cb, cp, rb + a, rp + b⟩, ⟨lb, lp, cb + a, cp + b, rb, rp⟩, ?_, ?_, ?_, ?_, ?_, ?_, ?_, ?_⟩
  · unfold resE; rw [if_pos h]
  · unfold resS; rw [if_pos h]
  · unfold canE; rw [if_pos (by unfold QS.Had; simp only; omega)]
  · unfold canS; rw [if_pos (by unfold QS.Had; simp only; omega)]; simp only [QS.mk.injEq, true_and]; omega
  · unfold comE; rw [if_pos (by unfold QS.Had; simp only; omega)]
  · unfold comS; rw [if_pos (by unfold QS.Had; simp only; omega)]; simp only [QS.mk.injEq, true_and]; omega
  · unfold refE; rw [if_pos (by unfold QS.Paid; simp only; omega)]
  · unfold refS; rw [if_pos (by unfold QS.Paid; simp only; omega)]; simp only [QS.mk.injEq, true_and, and_true]; omega
theorem back_no {s : QS} {a b : Int} (h : ¬ s.Room a b) : resE s a b = 3 ∧ resS s a b = s := by
  unfold resE resS; rw [if_neg h, if_neg h]; exact ⟨rfl, rfl⟩
set_option maxRecDepth 20000 in
set_option maxHeartbeats 4000000 in
theorem back_bad1 (b p : Int) (ad : Option Addr) (l : List (Int × Int × Int)) (cap : Nat) (k c d : Int) (w : World) (r1 : ¬ Rt b p) : Calls Try.prog 5 #[.int .i64 b, .int .i64 p, .slice ad l.length cap, .agg #[.int .i64 k, .int .i64 c, .int .i64 d]] w fun e w' => e = .returned (.bool true) ∧ Fr (fun _ => False) w w' := by
  have HO1 := hid fun w => o_no r1 w
  have HO2 := hid fun w => o_all c d w
  have HQ := hid fun w => q_new_no wrong_raw w
  have HA := hid fun w => awake_f w
  clear r1
  generalize xb c d = y1 at *
  generalize yb c d = y2 at *
  generalize decide (Rt c d) = ok at *
  have HX := hid (Bx.new w k c d)
  have HN0 := hid (Nw.alloc (Nw.start w) (.cells #[.int .i64 k, .int .i64 c, .int .i64 d] 38))
  go_enter Try.func5, Try.ntmps5
  go_wp2_with fail
  refine (HO1.out _).mono ?_
  rintro e w1 ⟨rfl, f1⟩
  have HN1 := hid ((HN0.out.kept f1).alloc (.cells #[.int .i64 0, .int .i64 0] 26))
  have HX1 := hid ((HX.out.kept f1).alloc (.cells #[.int .i64 0, .int .i64 0] 26))
  clear f1 HO1 HN0 HX
  go_wp2_with fail
  refine (HQ.out _).mono ?_
  rintro e w2 ⟨rfl, f2⟩
  have HX2 := hid (HX1.out.kept f2)
  have HN2 := hid (HN1.out.kept f2)
  clear f2 HN1 HQ HX1
  have c1 := HX2.out.c1
  have c2 := HX2.out.c2
  go_wp2_with fail
  refine (HO2.out _).mono ?_
  rintro e w3 ⟨rfl, f3⟩
  have HN3 := hid ((HN2.out.kept f3).alloc (.cells #[.int .i64 (okA c d), .int .i64 (okB c d)] 26))
  have HX3 := hid ((HX2.out.kept f3).alloc (.cells #[.int .i64 (okA c d), .int .i64 (okB c d)] 26))
  clear f3 HX2 c1 c2 HO2 HN2
  clear HX3
  go_wp2_with fail
  refine (HA.out _).mono ?_
  rintro e w4 ⟨rfl, hn⟩
  have HN4 := hid (HN3.out.kept hn)
  clear hn HN3
  go_wp2_with fail
  refine (HA.out _).mono ?_
  rintro e w5 ⟨rfl, hn⟩
  have HN5 := hid (HN4.out.kept hn)
  clear hn HN4
  go_wp2
  go_ret
  exact ⟨by simp, HN5.out.fr⟩
set_option maxRecDepth 20000 in
set_option maxHeartbeats 4000000 in
theorem back_bad2 (b p : Int) (ad : Option Addr) (l : List (Int × Int × Int)) (cap : Nat) (k c d : Int) (w : World) (r1 : Rt b p) (r2 : ¬ Rt c d) : Calls Try.prog 5 #[.int .i64 b, .int .i64 p, .slice ad l.length cap, .agg #[.int .i64 k, .int .i64 c, .int .i64 d]] w fun e w' => e = .returned (.bool true) ∧ Fr (fun _ => False) w w' := by
  have HO1 := hid fun w => o_yes r1 w
  have HO2 := hid fun w => o_no r2 w
  have HQ := hid fun w0 (h : Nw w w0) => n_new r1 h
  have HA := hid fun w => awake_f w
  clear r1 r2
  generalize fb b = x1 at *
  generalize fb p = x2 at *
  have HX := hid (Bx.new w k c d)
  have HN0 := hid (Nw.alloc (Nw.start w) (.cells #[.int .i64 k, .int .i64 c, .int .i64 d] 38))
  go_enter Try.func5, Try.ntmps5
  go_wp2_with fail
  refine (HO1.out _).mono ?_
  rintro e w1 ⟨rfl, f1⟩
  have HN1 := hid ((HN0.out.kept f1).alloc (.cells #[.int .i64 b, .int .i64 p] 26))
  have HX1 := hid ((HX.out.kept f1).alloc (.cells #[.int .i64 b, .int .i64 p] 26))
  clear f1 HO1 HN0 HX
  go_wp2_with fail
  refine (HQ.out _ HN1.out).mono ?_
  rintro e w2 ⟨B, rfl, hl, hq, f2⟩
  have HX2 := hid (HX1.out.kept f2)
  have HQ2 := hid hq
  have hxb : Hid (¬ w.heap.size = B) := fun e => by have := HX1.out.lt; omega
  clear hl hq f2 HN1 HQ HX1
  have c1 := HX2.out.c1
  have c2 := HX2.out.c2
  go_wp2_with fail
  refine (HO2.out _).mono ?_
  rintro e w3 ⟨rfl, f3⟩
  have HQ3 := hid ((HQ2.out.kept f3).alloc (.cells #[.int .i64 0, .int .i64 0] 26))
  have HN3 := hid HQ3.out.nw
  have HX3 := hid ((HX2.out.kept f3).alloc (.cells #[.int .i64 0, .int .i64 0] 26))
  clear f3 HX2 c1 c2 HO2 HQ2
  clear HX3 HQ3 hxb
  go_wp2_with fail
  refine (HA.out _).mono ?_
  rintro e w4 ⟨rfl, hn⟩
  have HN4 := hid (HN3.out.kept hn)
  clear hn HN3
  go_wp2_with fail
  refine (HA.out _).mono ?_
  rintro e w5 ⟨rfl, hn⟩
  have HN5 := hid (HN4.out.kept hn)
  clear hn HN4
  go_wp2
  go_ret
  exact ⟨by simp, HN5.out.fr⟩
set_option maxRecDepth 20000 in
set_option maxHeartbeats 4000000 in
theorem back_long (b p : Int) (ad : Option Addr) (l : List (Int × Int × Int)) (cap : Nat) (k c d : Int) (w : World) (r1 : Rt b p) (r2 : Rt c d) (hlen : 1000 < l.length) (hlm : l.length ≤ 9223372036854775807) : Calls Try.prog 5 #[.int .i64 b, .int .i64 p, .slice ad l.length cap, .agg #[.int .i64 k, .int .i64 c, .int .i64 d]] w fun e w' => e = .returned (.bool true) ∧ Fr (fun _ => False) w w' := by
  have HO1 := hid fun w => o_yes r1 w
  have HO2 := hid fun w => o_yes r2 w
  have HQ := hid fun w0 (h : Nw w w0) => n_new r1 h
  have HA := hid fun w => awake_f w
  clear r1 r2
  generalize fb b = x1 at *
  generalize fb p = x2 at *
  generalize fb c = y1 at *
  generalize fb d = y2 at *
  have HX := hid (Bx.new w k c d)
  have HN0 := hid (Nw.alloc (Nw.start w) (.cells #[.int .i64 k, .int .i64 c, .int .i64 d] 38))
  go_enter Try.func5, Try.ntmps5
  go_wp2_with fail
  refine (HO1.out _).mono ?_
  rintro e w1 ⟨rfl, f1⟩
  have HN1 := hid ((HN0.out.kept f1).alloc (.cells #[.int .i64 b, .int .i64 p] 26))
  have HX1 := hid ((HX.out.kept f1).alloc (.cells #[.int .i64 b, .int .i64 p] 26))
  clear f1 HO1 HN0 HX
  go_wp2_with fail
  refine (HQ.out _ HN1.out).mono ?_
  rintro e w2 ⟨B, rfl, hl, hq, f2⟩
  have HX2 := hid (HX1.out.kept f2)
  have HQ2 := hid hq
  have hxb : Hid (¬ w.heap.size = B) := fun e => by have := HX1.out.lt; omega
  clear hl hq f2 HN1 HQ HX1
  have c1 := HX2.out.c1
  have c2 := HX2.out.c2
  go_wp2_with fail
  refine (HO2.out _).mono ?_
  rintro e w3 ⟨rfl, f3⟩
  have HQ3 := hid ((HQ2.out.kept f3).alloc (.cells #[.int .i64 c, .int .i64 d] 26))
  have HN3 := hid HQ3.out.nw
  have HX3 := hid ((HX2.out.kept f3).alloc (.cells #[.int .i64 c, .int .i64 d] 26))
  clear f3 HX2 c1 c2 HO2 HQ2
  clear HX3 HQ3 hxb
  go_wp2_with fail
  refine (HA.out _).mono ?_
  rintro e w4 ⟨rfl, hn⟩
  have HN4 := hid (HN3.out.kept hn)
  clear hn HN3
  go_wp2_with fail
  refine (HA.out _).mono ?_
  rintro e w5 ⟨rfl, hn⟩
  have HN5 := hid (HN4.out.kept hn)
  clear hn HN4
  go_wp2
  go_ret
  exact ⟨by simp, HN5.out.fr⟩
set_option maxRecDepth 20000 in
set_option maxHeartbeats 4000000 in
theorem back_loop (b p : Int) (ad : Option Addr) (l : List (Int × Int × Int)) (cap : Nat) (k c d : Int) (w : World) (r1 : Rt b p) (r2 : Rt c d) (hl : OpsAt w ad l) (hll : ¬ 1000 < l.length) : Calls Try.prog 5 #[.int .i64 b, .int .i64 p, .slice ad l.length cap, .agg #[.int .i64 k, .int .i64 c, .int .i64 d]] w fun e w' => e = .returned (.bool true) ∧ Fr (fun _ => False) w w' := by
  have HO1 := hid fun w => o_yes r1 w
  have HO2 := hid fun w => o_yes r2 w
  have HQ := hid fun w0 (h : Nw w w0) => n_new r1 h
  have HA := hid fun w => awake_f w
  have HL := hid hl
  have HR2 := hid r2
  have e1 := hid (rfl : fb c = fb c)
  have e2 := hid (rfl : fb d = fb d)
  clear r1 hl r2
  generalize fb b = x1 at *
  generalize fb p = x2 at *
  generalize hy1 : fb c = y1 at HO2
  generalize hy2 : fb d = y2 at HO2
  have HY1 := hid hy1
  have HY2 := hid hy2
  clear hy1 hy2 e1 e2
  have HX := hid (Bx.new w k c d)
  have HN0 := hid (Nw.alloc (Nw.start w) (.cells #[.int .i64 k, .int .i64 c, .int .i64 d] 38))
  go_enter Try.func5, Try.ntmps5
  go_wp2_with fail
  refine (HO1.out _).mono ?_
  rintro e w1 ⟨rfl, f1⟩
  have HN1 := hid ((HN0.out.kept f1).alloc (.cells #[.int .i64 b, .int .i64 p] 26))
  have HX1 := hid ((HX.out.kept f1).alloc (.cells #[.int .i64 b, .int .i64 p] 26))
  clear f1 HO1 HN0 HX
  go_wp2_with fail
  refine (HQ.out _ HN1.out).mono ?_
  rintro e w2 ⟨B, rfl, hl, hq, f2⟩
  have HX2 := hid (HX1.out.kept f2)
  have HQ2 := hid hq
  have hxb : Hid (¬ w.heap.size = B) := fun e => by have := HX1.out.lt; omega
  clear hl hq f2 HN1 HQ HX1
  have c1 := HX2.out.c1
  have c2 := HX2.out.c2
  go_wp2_with fail
  refine (HO2.out _).mono ?_
  rintro e w3 ⟨rfl, f3⟩
  have HQ3 := hid ((HQ2.out.kept f3).alloc (.cells #[.int .i64 c, .int .i64 d] 26))
  have HN3 := hid HQ3.out.nw
  have HX3 := hid ((HX2.out.kept f3).alloc (.cells #[.int .i64 c, .int .i64 d] 26))
  clear f3 HX2 c1 c2 HO2 HQ2
  clear HN3
  go_wp2_with fail
  refine (HA.out _).mono ?_
  rintro e w4 ⟨rfl, f4⟩
  have HQ4 := hid (HQ3.out.kept f4)
  have HX4 := hid (HX3.out.kept f4)
  clear f4 HQ3 HX3 HA
  go_wp2
  go_loopw [61] (fun i wr => ∃ (j : Nat) (s : QS), j ≤ l.length ∧ i = .int .i64 j ∧ Hid (Qn w wr B s) ∧ Hid (Bx wr w.heap.size k c d)) (fun i _ => l.length - (intOf i).toNat)
  case atStart => exact ⟨0, _, by omega, rfl, HQ4, HX4⟩
  case round =>
    obtain ⟨j, s, hj, rfl, HQ, HX⟩ := hrel
    clear HQ4 HX4
    by_cases hlt : j < l.length
    · obtain ⟨bb, off, rfl, hbb, hc1, hc2, hc3⟩ := HL.out.fr HQ.out.nw.fr j hlt
      generalize hk : l[j] = o at hc1 hc2 hc3
      obtain ⟨kind, a, g⟩ := o
      simp only at hc1 hc2 hc3
      have HB : Hid (Bo w ((wr.alloc (.cells #[.int .i64 kind, .int .i64 a, .int .i64 g] 38)).alloc (.cells #[.int .i64 0, .int .i64 0, .int .i64 0, .int .i64 0, .int .i64 0, .int .i64 0] 36)) B s (wr.heap.size + 1) (newQ 0 0)) := by
        have hs := HQ.out.nw.le
        have hb := HQ.out.lt
        refine ⟨(HQ.out.alloc _).alloc _, ⟨?_, newQ_ok (by decide)⟩, by omega, by omega⟩
        have := heap_alloc_new (wr.alloc (.cells #[.int .i64 kind, .int .i64 a, .int .i64 g] 38)) (.cells #[.int .i64 0, .int .i64 0, .int .i64 0, .int .i64 0, .int .i64 0, .int .i64 0] 36)
        simpa [newQ] using this
      have HD := hid (done_any HB.out kind a g)
      have HX2 := hid ((HX.out.alloc (.cells #[.int .i64 kind, .int .i64 a, .int .i64 g] 38)).alloc (.cells #[.int .i64 0, .int .i64 0, .int .i64 0, .int .i64 0, .int .i64 0, .int .i64 0] 36))
      have hn : Hid (¬ BR B (wr.heap.size + 1) w.heap.size) := fun e => by
        rcases e with e | e
        · exact hxb.out e
        · have := HX.out.lt; omega
      clear hk HL HB HX HQ
      generalize stepS s kind a g = s' at *
      go_wp2_with fail
      refine HD.out.mono ?_
      rintro e w5 ⟨v, rfl, _, hb, f5⟩
      have HQ5 := hid hb.q
      have HX5 := hid (HX2.out.carry f5 hn.out)
      clear hb f5 HD HX2 hc1 hc2 hc3
      go_wp2
      go_roundw
      case rel => exact ⟨j + 1, s', by omega, by go_num, HQ5, HX5⟩
      case measure => simp [intOf]; omega
    · obtain rfl : j = l.length := by omega
      clear HL
      have q0 := HX.out.c0
      have HK := HQ.out.q.ok
      have P1 := hid fun w0 (h : Qn w w0 B s) => n_lim h
      have P2 := hid fun w0 (h : Qn w w0 B s) => n_cha h
      have P3 := hid fun w0 (h : Qn w w0 B s) => n_rsv h
      have o1 := order_self s.lb (by have := HK.lim; unfold Rt at this; omega)
      have o2 := order_self s.lp (by have := HK.lim; unfold Rt at this; omega)
      have o3 := order_self s.cb (by have := HK.char; unfold Rt at this; omega)
      have o4 := order_self s.cp (by have := HK.char; unfold Rt at this; omega)
      have o5 := order_self s.rb (by have := HK.rsv; unfold Rt at this; omega)
      have o6 := order_self s.rp (by have := HK.rsv; unfold Rt at this; omega)
      have HKH := hid HK
      have PR := hid fun w0 (h : Qn w w0 B s) => n_res h HR2.out
      rw [HY1.out, HY2.out] at PR
      clear HK
      generalize fb s.cb = v1 at *
      generalize fb s.cp = v2 at *
      generalize fb s.rb = v3 at *
      generalize fb s.rp = v4 at *
      generalize fb s.lb = v5 at *
      generalize fb s.lp = v6 at *
      go_wp2_with fail
      refine (P1.out _ HQ.out).mono ?_
      rintro e w5 ⟨rfl, hq, f⟩
      have HQ5 := hid hq
      have HX5 := hid (HX.out.kept f)
      clear hq f HQ HX q0
      go_wp2_with fail
      refine (P2.out _ HQ5.out).mono ?_
      rintro e w6 ⟨rfl, hq, f⟩
      have HQ6 := hid hq
      have HX6 := hid (HX5.out.kept f)
      clear hq f HQ5 HX5
      go_wp2_with fail
      refine (P3.out _ HQ6.out).mono ?_
      rintro e w7 ⟨rfl, hq, f⟩
      have HQ7 := hid hq
      have HX7 := hid (HX6.out.kept f)
      clear hq f HQ6 HX6
      by_cases hroom : s.Room c d
      · obtain ⟨s1, s2, g1, g2, g3, g4, g5, g6, g7, g8⟩ := back_yes hroom HKH.out
        have PC := hid fun w0 (h : Qn w w0 B s1) => n_can h HR2.out
        have PM := hid fun w0 (h : Qn w w0 B s1) => n_com h HR2.out
        have PF := hid fun w0 (h : Qn w w0 B s2) => n_ref h HR2.out
        rw [HY1.out, HY2.out] at PC PM PF
        rw [g1, g2] at PR
        rw [g3, g4] at PC
        rw [g5, g6] at PM
        rw [g7, g8] at PF
        clear g1 g2 g3 g4 g5 g6 g7 g8 hroom HKH HR2 HY1 HY2
        go_wp2_with fail
        refine (PR.out _ HQ7.out).mono ?_
        rintro e w8 ⟨rfl, hq, f⟩
        have HQ8 := hid hq
        have HX8 := hid (HX7.out.carry f hxb.out)
        clear hq f HQ7 HX7 PR
        have q0 := HX8.out.c0
        by_cases hm : Int.tmod k 2 = 0
        · go_wp2_with fail
          refine (PC.out _ HQ8.out).mono ?_
          rintro e w9 ⟨rfl, hq, f⟩
          have HQ9 := hid hq
          clear hq f HQ8 HX8 PC PM PF q0 hm
          go_wp2_with fail
          refine (P1.out _ HQ9.out).mono ?_
          rintro e w10 ⟨rfl, hq, _⟩
          have HQ10 := hid hq
          clear hq HQ9
          go_wp2_with fail
          refine (P2.out _ HQ10.out).mono ?_
          rintro e w11 ⟨rfl, hq, _⟩
          have HQ11 := hid hq
          clear hq HQ10
          go_wp2_with fail
          refine (P3.out _ HQ11.out).mono ?_
          rintro e w12 ⟨rfl, hq, _⟩
          have HQ12 := hid hq
          clear hq HQ11
          go_wp2
          go_ret
          exact ⟨by simp, HQ12.out.nw.fr⟩
        · have hm2 : (Int.tmod k 2 == 0) = false := by simpa using hm
          clear hm
          go_wp2_with fail
          refine (PM.out _ HQ8.out).mono ?_
          rintro e w9a ⟨rfl, hq, f⟩
          have HQ9a := hid hq
          clear hq f HQ8 HX8 PC PM q0 hm2
          go_wp2_with fail
          refine (PF.out _ HQ9a.out).mono ?_
          rintro e w9 ⟨rfl, hq, f⟩
          have HQ9 := hid hq
          clear hq f HQ9a PF
          go_wp2_with fail
          refine (P1.out _ HQ9.out).mono ?_
          rintro e w10 ⟨rfl, hq, _⟩
          have HQ10 := hid hq
          clear hq HQ9
          go_wp2_with fail
          refine (P2.out _ HQ10.out).mono ?_
          rintro e w11 ⟨rfl, hq, _⟩
          have HQ11 := hid hq
          clear hq HQ10
          go_wp2_with fail
          refine (P3.out _ HQ11.out).mono ?_
          rintro e w12 ⟨rfl, hq, _⟩
          have HQ12 := hid hq
          clear hq HQ11
          go_wp2
          go_ret
          exact ⟨by simp, HQ12.out.nw.fr⟩
      · obtain ⟨g1, g2⟩ := back_no hroom
        rw [g1, g2] at PR
        clear g1 g2 hroom HKH HR2 HY1 HY2
        go_wp2_with fail
        refine (PR.out _ HQ7.out).mono ?_
        rintro e w9 ⟨rfl, hq, f⟩
        have HQ9 := hid hq
        clear hq f HQ7 HX7 PR
        go_wp2_with fail
        refine (P1.out _ HQ9.out).mono ?_
        rintro e w10 ⟨rfl, hq, _⟩
        have HQ10 := hid hq
        clear hq HQ9
        go_wp2_with fail
        refine (P2.out _ HQ10.out).mono ?_
        rintro e w11 ⟨rfl, hq, _⟩
        have HQ11 := hid hq
        clear hq HQ10
        go_wp2_with fail
        refine (P3.out _ HQ11.out).mono ?_
        rintro e w12 ⟨rfl, hq, _⟩
        have HQ12 := hid hq
        clear hq HQ11
        go_wp2
        go_ret
        exact ⟨by simp, HQ12.out.nw.fr⟩
theorem back_walk (b p : Int) (v : Value) (k c d : Int) (w : World) (h : ∃ ad cap l, v = .slice ad (List.length l) cap ∧ OpsAt w ad l ∧ l.length ≤ maxLen) : Calls Try.prog 5 #[.int .i64 b, .int .i64 p, v, .agg #[.int .i64 k, .int .i64 c, .int .i64 d]] w fun e w' => e = .returned (.bool true) ∧ Fr (fun _ => False) w w' := by
  obtain ⟨ad, cap, l, rfl, g1, g2⟩ := h
  by_cases r1 : Rt b p
  · by_cases r2 : Rt c d
    · by_cases h2 : 1000 < l.length
      · exact back_long b p ad l cap k c d w r1 r2 h2 g2
      · exact back_loop b p ad l cap k c d w r1 r2 g1 h2
    · exact back_bad2 b p ad l cap k c d w r1 r2
  · exact back_bad1 b p ad l cap k c d w r1
end Go.Proofs.Ytnlaocokjilncaa
