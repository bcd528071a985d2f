/-
  A chain that takes another one's blocks has them in their order, and the other one has none: the walk of the law ChainTakes.
-/
import Derived.Test.YtjgkcaibapffhaaChPut
namespace Go.Proofs.Ytjgkcaibapffhaa
open Go.RowKit
open An

set_option maxRecDepth 20000 in
set_option maxHeartbeats 2000000 in
theorem takes_walk (u p : Int) (sv : Value) (w : World) (h : ∃ ad cap l, sv = .slice ad (List.length l) cap ∧ NumsAt w ad l ∧ l.length ≤ maxLen ∧ ∀ i (hi : i < l.length), -9223372036854775808 ≤ l[i] ∧ l[i] ≤ 9223372036854775807) : Calls Try.prog 7 #[.int .i64 u, .int .i64 p, sv] w fun e w' => e = .returned (.bool true) ∧ Fr (fun _ => False) w w' := by
  obtain ⟨ad, cap, l, rfl, hnums, hmax, hbnd⟩ := h
  obtain ⟨mu, mp, U, Pn, M, N, hS, ⟨hmu, hmp⟩, ⟨u1, u2⟩, ⟨p1, p2⟩, ⟨i1, i2⟩, ⟨i3, i4⟩, i5, i6, hM⟩ := sizes u p 0 0 rfl (by omega)
  obtain rfl : N = M := by rw [hS.n, hM]; rfl
  clear hM i6
  have HS := hid hS
  have H0 : Hid (∀ w0, Things w w0 [] → Calls Try.prog 15 #[.int .i64 N] w0 fun e w' => ∃ a, e = .returned (.tuple #[.pointer (some ⟨a, 0, none⟩), .int .i64 0]) ∧ Things w w' [Pc a (List.replicate N 0) [] []]) := fun w0 h => g_arena h N (by have := hS.n1; omega)
  have H1 : Hid (∀ w0 a, Things w w0 [Pc a (List.replicate N 0) [] []] → Calls Try.prog 16 #[.pointer (some ⟨a, 0, none⟩), .int .i64 0, .int .i64 U, .int .i64 Pn] w0 fun e w' => ∃ c, e = .returned (.tuple #[.pointer (some ⟨c, 0, none⟩), .int .i64 0]) ∧ Things w w' [Pc a (List.replicate N 0) [] [(c, ⟨0, U, Pn, 0⟩)]]) := fun w0 a h => g_new h 0 rfl (hS.ok (x := 0) (by omega))
  have H2 : Hid (∀ w0 a c, Things w w0 [Pc a (List.replicate N 0) [] [(c, ⟨0, U, Pn, 0⟩)]] → Calls Try.prog 16 #[.pointer (some ⟨a, 0, none⟩), .int .i64 0, .int .i64 U, .int .i64 Pn] w0 fun e w' => ∃ d, e = .returned (.tuple #[.pointer (some ⟨d, 0, none⟩), .int .i64 0]) ∧ Things w w' [Pc a (List.replicate N 0) [] [(c, ⟨0, U, Pn, 0⟩), (d, ⟨0, U, Pn, 0⟩)]]) := fun w0 a c h => g_new h 0 rfl (hS.ok (x := 0) (by omega))
  have HT : Hid (Things w w []) := Things.start (Nw.start w)
  have HA : Hid (∀ w0 ts, Things w w0 ts → Calls Try.prog 9 #[] w0 fun e w' => e = .returned (.bool true) ∧ Things w w' ts) := fun w0 ts h => awake_t h
  clear hS
  go_enter Try.func7, Try.ntmps7
  go_wp2_with fail
  refine (H0.out _ HT.out).mono ?_
  rintro e w1 ⟨a, rfl, h1⟩
  have T1 := hid h1
  clear h1 H0 HT
  go_wp2_with fail
  refine (H1.out _ _ T1.out).mono ?_
  rintro e w2 ⟨c, rfl, h1⟩
  have T2 := hid h1
  clear h1 H1 T1
  go_wp2_with fail
  refine (H2.out _ _ _ T2.out).mono ?_
  rintro e w3 ⟨d, rfl, h1⟩
  have T3 := hid h1
  clear h1 H2 T2
  go_wp2_with fail
  refine (HA.out _ _ T3.out).mono ?_
  rintro e w4 ⟨rfl, h1⟩
  have T4 := hid h1
  clear h1 T3
  by_cases hl : 200 < l.length
  · have hl' : 200 < (l.length : Int) := by omega
    go_wp2_with fail
    refine (HA.out _ _ T4.out).mono ?_
    rintro e w5 ⟨rfl, h1⟩
    have T5 := hid h1
    clear h1 T4
    go_wp2
    go_ret
    exact ⟨by simp, T5.out.nw.fr⟩
  · have hl' : (l.length : Int) ≤ 200 := by omega
    have HN := hid hnums
    have HB := hid hbnd
    have T5 := hid (T4.out.set)
    have HI0 : Hid (PutI ⟨0, U, Pn, 0⟩ 0 U Pn N (List.replicate N 0) [] 0 [] []) := PutI.start HS.out (by omega)
    clear hnums hbnd hl T4 HA
    have hmm := @run_makeMap Try.prog
    have H3 : Hid (∀ w0 bs ss k x n seen, ss.length ≤ 1000 → Things w w0 [Pc a bs ss [(c, k), (d, ⟨0, U, Pn, 0⟩)], Mp w4.heap.size n seen] → Calls Try.prog 17 #[.pointer (some ⟨c, 0, none⟩), .int .i64 x] w0 fun e w' => e = .returned (.int .i64 (puE k x)) ∧ Things w w' [Pc a (puB k bs x) (puT k ss x) [(c, puS k x), (d, ⟨0, U, Pn, 0⟩)], Mp w4.heap.size n seen]) := fun w0 bs ss k x n seen hs h => g_push h 0 rfl (by omega) 0 rfl x
    go_wp2
    clear hmm
    go_loopw [73] (fun i wr => ∃ (j : Nat) (bs : List UInt8) (ss : List Sp) (k : Ck) (n : Nat) (seen : List Int) (put : List Nat), j ≤ l.length ∧ n ≤ j ∧ i = .int .i64 j ∧ Hid (PutI k 0 U Pn N bs ss j seen put) ∧ Hid (Things w wr [Pc a bs ss [(c, k), (d, ⟨0, U, Pn, 0⟩)], Mp w4.heap.size n seen])) (fun i _ => l.length - (intOf i).toNat)
    case atStart => exact ⟨0, _, _, _, 0, [], [], by omega, by omega, rfl, HI0, T5⟩
    case round =>
      obtain ⟨j, bs, ss, k, n, seen, put, hj, hn, rfl, HI, HT⟩ := hrel
      clear HI0 T5
      by_cases hlt : j < l.length
      · obtain ⟨bb, off, rfl, hbb, hc1⟩ := HN.out.fr HT.out.nw.fr j hlt
        have hwf := wf_small (HB.out j hlt).1 (HB.out j hlt).2
        generalize l[j] = x at hc1 hwf
        have hlk := HT.out.look 1 rfl hwf
        by_cases hx : x ∈ seen
        · rw [decide_eq_true hx] at hlk
          obtain ⟨w6, hrun, h6⟩ := HT.out.store 1 rfl (by simp only [maxLen]; omega) hwf
          have T6 : Hid (Things w w6 [Pc a bs ss [(c, k), (d, ⟨0, U, Pn, 0⟩)], Mp w4.heap.size (n + 1) (x :: seen)]) := h6
          have HP := hid (HI.out.skip x)
          clear hx h6 HT HI H3 hwf HN HB
          go_wp2
          go_roundw
          case rel => exact ⟨j + 1, _, _, _, n + 1, _, _, by omega, by omega, by go_num, HP, T6⟩
          case measure => simp [intOf]; omega
        · rw [decide_eq_false hx] at hlk
          obtain ⟨put', hp'⟩ := HI.out.push hx
          have HP := hid hp'
          have hss : ss.length ≤ 1000 := by have := HI.out.s; omega
          have HW := hid hwf
          clear hx hp' hwf HN HB
          go_wp2_with fail
          refine (H3.out _ _ _ _ _ _ _ hss HT.out).mono ?_
          rintro e w5 ⟨rfl, h5⟩
          obtain ⟨w6, hrun, h6⟩ := h5.store 1 rfl (by simp only [maxLen]; omega) HW.out
          have T6 : Hid (Things w w6 [Pc a (puB k bs x) (puT k ss x) [(c, puS k x), (d, ⟨0, U, Pn, 0⟩)], Mp w4.heap.size (n + 1) (x :: seen)]) := h6
          clear h5 h6 HT HI H3 hlk HW hss
          go_wp2
          go_roundw
          case rel => exact ⟨j + 1, _, _, _, n + 1, _, _, by omega, by omega, by go_num, HP, T6⟩
          case measure => simp [intOf]; omega
      · obtain rfl : j = l.length := by omega
        clear H3 HN HB
        have hk := HI.out.eq
        have hss : ss.length ≤ 1000 := by have := HI.out.s; omega
        have hok := HI.out.ch.ok
        obtain ⟨ha1, ha2⟩ := HI.out.ch.all
        have hpl : put.length ≤ 64 := by have := HI.out.ch.len; have := hok.p1; omega
        have H4 : Hid (∀ w0, Things w w0 [Pc a bs ss [(c, k), (d, ⟨0, U, Pn, 0⟩)], Mp w4.heap.size n seen] → Calls Try.prog 18 #[.pointer (some ⟨c, 0, none⟩)] w0 fun e w' => ∃ ad cap, e = .returned (.tuple #[.slice ad (nI put).length cap, .int .i64 0]) ∧ ∃ ss1, ss1.length ≤ 2000 ∧ Things w w' [Pc a bs ss1 [(c, k), (d, ⟨0, U, Pn, 0⟩)], Mp w4.heap.size n seen, Lv ad (nI put)]) := fun w0 h => (g_all h 0 rfl (by omega) 0 rfl).mono fun e w' ⟨ad, cap, he, h⟩ => by
          rw [ha1] at he h
          rw [ha2] at he
          exact ⟨ad, cap, he, _, by have := alT_len (bs := bs) (ss := ss) hok; omega, h⟩
        have H5 : Hid (∀ w0 ss1 ad, Things w w0 [Pc a bs ss1 [(c, k), (d, ⟨0, U, Pn, 0⟩)], Mp w4.heap.size n seen, Lv ad (nI put)] → Calls Try.prog 21 #[.pointer (some ⟨d, 0, none⟩), .pointer (some ⟨c, 0, none⟩)] w0 fun e w' => e = .returned (.int .i64 0) ∧ Things w w' [Pc a bs ss1 [(c, k.to 0), (d, k)], Mp w4.heap.size n seen, Lv ad (nI put)]) := fun w0 ss1 ad h => (g_take h 0 rfl (i := 1) (j := 0) (by omega) rfl rfl HI.out.p).mono fun e w' ⟨he, h⟩ => by
          refine ⟨he, ?_⟩
          have e1 : taS ⟨0, U, Pn, 0⟩ k = k := by rw [hk]; rfl
          have e2 : taD ⟨0, U, Pn, 0⟩ k = k.to 0 := rfl
          rw [e1, e2] at h
          exact h
        have H6 : Hid (∀ w0 ss1 ad, Things w w0 [Pc a bs ss1 [(c, k.to 0), (d, k)], Mp w4.heap.size n seen, Lv ad (nI put)] → Calls Try.prog 11 #[.pointer (some ⟨c, 0, none⟩)] w0 fun e w' => e = .returned (.bool true) ∧ Things w w' [Pc a bs ss1 [(c, k.to 0), (d, k)], Mp w4.heap.size n seen, Lv ad (nI put)]) := fun w0 ss1 ad h => g_empty h 0 rfl 0 rfl
        have H7 : Hid (∀ w0 ss1 ad, ss1.length ≤ 2000 → Things w w0 [Pc a bs ss1 [(c, k.to 0), (d, k)], Mp w4.heap.size n seen, Lv ad (nI put)] → Calls Try.prog 18 #[.pointer (some ⟨d, 0, none⟩)] w0 fun e w' => ∃ ad2 cap, e = .returned (.tuple #[.slice ad2 (nI put).length cap, .int .i64 0]) ∧ ∃ ss1, ss1.length ≤ 3000 ∧ Things w w' [Pc a bs ss1 [(c, k.to 0), (d, k)], Mp w4.heap.size n seen, Lv ad (nI put), Lv ad2 (nI put)]) := fun w0 ss1 ad hs h => (g_all h 0 rfl (by omega) 1 rfl).mono fun e w' ⟨ad2, cap, he, h⟩ => by
          rw [ha1] at he h
          rw [ha2] at he
          exact ⟨ad2, cap, he, _, by have := alT_len (bs := bs) (ss := ss1) hok; omega, h⟩
        have hz : alL (k.to 0) bs = [] ∧ alE (k.to 0) bs = 0 := by
          unfold alL alE
          rw [show (k.to 0).hd = 0 from rfl, al_zero]
          exact ⟨rfl, rfl⟩
        have H8 : Hid (∀ w0 ss1 ad ad2, ss1.length ≤ 3000 → Things w w0 [Pc a bs ss1 [(c, k.to 0), (d, k)], Mp w4.heap.size n seen, Lv ad (nI put), Lv ad2 (nI put)] → Calls Try.prog 18 #[.pointer (some ⟨c, 0, none⟩)] w0 fun e w' => ∃ ad3 cap, e = .returned (.tuple #[.slice ad3 0 cap, .int .i64 0]) ∧ ∃ ss1, Things w w' [Pc a bs ss1 [(c, k.to 0), (d, k)], Mp w4.heap.size n seen, Lv ad (nI put), Lv ad2 (nI put)]) := fun w0 ss1 ad ad2 hs h => (g_all h 0 rfl (by omega) 0 rfl).mono fun e w' ⟨ad3, cap, he, h⟩ => by
          rw [hz.1] at he h
          rw [hz.2] at he
          exact ⟨ad3, cap, he, _, Things.less (ts := [Pc a bs (alT (k.to 0) bs ss1) [(c, k.to 0), (d, k)], Mp w4.heap.size n seen, Lv ad (nI put), Lv ad2 (nI put)]) h⟩
        have H9 : Hid (∀ w0 ss1 ad ad2, Things w w0 [Pc a bs ss1 [(c, k.to 0), (d, k)], Mp w4.heap.size n seen, Lv ad (nI put), Lv ad2 (nI put)] → Calls Try.prog 21 #[.pointer (some ⟨c, 0, none⟩), .pointer (some ⟨d, 0, none⟩)] w0 fun e w' => e = .returned (.int .i64 0) ∧ ∃ k1, Things w w' [Pc a bs ss1 [(c, k1), (d, k.to 0)], Mp w4.heap.size n seen, Lv ad (nI put), Lv ad2 (nI put)]) := fun w0 ss1 ad ad2 h => (g_take h 0 rfl (i := 0) (j := 1) (by omega) rfl rfl rfl).mono fun e w' ⟨he, h⟩ => ⟨he, _, h⟩
        have HSM : Hid (∀ w0 ss1 k1 ad ad2 c1 c2, Things w w0 [Pc a bs ss1 [(c, k1), (d, k.to 0)], Mp w4.heap.size n seen, Lv ad (nI put), Lv ad2 (nI put)] → Calls Try.prog 24 #[.slice ad (nI put).length c1, .slice ad2 (nI put).length c2] w0 fun e w' => e = .returned (.bool true) ∧ Things w w' [Pc a bs ss1 [(c, k1), (d, k.to 0)], Mp w4.heap.size n seen, Lv ad (nI put), Lv ad2 (nI put)]) := fun w0 ss1 k1 ad ad2 c1 c2 h => by
          obtain ⟨_, g1, _⟩ := h.get 2 rfl
          obtain ⟨_, g2, _⟩ := h.get 3 rfl
          exact (same_yes c1 c2 g1.1 g2.1 (by rw [nI_length]; omega)).mono fun e w' ⟨he, f⟩ => ⟨he, h.kept f⟩
        have HEM : Hid (∀ w0 ss1 k1 ad ad2, Things w w0 [Pc a bs ss1 [(c, k1), (d, k.to 0)], Mp w4.heap.size n seen, Lv ad (nI put), Lv ad2 (nI put)] → Calls Try.prog 11 #[.pointer (some ⟨d, 0, none⟩)] w0 fun e w' => e = .returned (.bool true) ∧ Nw w w') := fun w0 ss1 k1 ad ad2 h => (g_empty h 0 rfl 1 rfl).mono fun e w' ⟨he, h⟩ => ⟨he, h.nw⟩
        clear hk hok ha1 ha2 hz HI hss
        generalize (nI put).length = pl at *
        go_wp2_with fail
        refine (H4.out _ HT.out).mono ?_
        rintro e w5 ⟨ad5, cap5, rfl, ss5, hs5, h5⟩
        have T5 := hid h5
        clear h5 HT H4
        go_wp2_with fail
        refine (H5.out _ _ _ T5.out).mono ?_
        rintro e w6 ⟨rfl, h6⟩
        have T6 := hid h6
        clear h6 T5 H5
        go_wp2_with fail
        refine (H6.out _ _ _ T6.out).mono ?_
        rintro e w7 ⟨rfl, h7⟩
        have T7 := hid h7
        clear h7 T6 H6
        go_wp2_with fail
        refine (H7.out _ _ _ hs5 T7.out).mono ?_
        rintro e w8 ⟨ad8, cap8, rfl, ss8, hs8, h8⟩
        have T8 := hid h8
        clear h8 T7 H7
        go_wp2_with fail
        refine (H8.out _ _ _ _ hs8 T8.out).mono ?_
        rintro e w9 ⟨ad9, cap9, rfl, ss9, h9⟩
        have T9 := hid h9
        clear h9 T8 H8
        go_wp2_with fail
        refine (H9.out _ _ _ _ T9.out).mono ?_
        rintro e wa ⟨rfl, k1, ha⟩
        have TA := hid ha
        clear ha T9 H9
        go_wp2_with fail
        refine (HSM.out _ _ _ _ _ _ _ TA.out).mono ?_
        rintro e wb ⟨rfl, hb⟩
        have TB := hid hb
        clear hb TA HSM
        by_cases h0 : pl = 0
        · subst h0
          go_wp2
          go_ret
          exact ⟨by simp, TB.out.nw.fr⟩
        · have h0' : ((pl : Int) == 0) = false := by simp; omega
          go_wp2_with fail
          refine (HEM.out _ _ _ _ _ TB.out).mono ?_
          rintro e wc ⟨rfl, hc⟩
          have TC := hid hc
          clear hc TB HEM
          go_wp2
          go_ret
          exact ⟨by simp, TC.out.fr⟩
end Go.Proofs.Ytjgkcaibapffhaa
