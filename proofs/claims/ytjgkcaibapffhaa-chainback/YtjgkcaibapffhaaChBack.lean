/-
  What was pushed is popped in the other order, and all bytes are 0 again: the walk of the law ChainBack.
-/
import Derived.Test.YtjgkcaibapffhaaChPut
import Derived.Test.YtjgkcaibapffhaaAnMake
namespace Go.Proofs.Ytjgkcaibapffhaa
open Go.RowKit
open An

set_option maxRecDepth 20000 in
set_option maxHeartbeats 2000000 in
theorem back_walk (u p : Int) (sv : Value) (w : World) (h : ∃ ad cap l, sv = .slice ad (List.length l) cap ∧ NumsAt w ad l ∧ l.length ≤ maxLen ∧ ∀ i (hi : i < l.length), -9223372036854775808 ≤ l[i] ∧ l[i] ≤ 9223372036854775807) : Calls Try.prog 4 #[.int .i64 u, .int .i64 p, sv] w fun e w' => e = .returned (.bool true) ∧ Fr (fun _ => False) w w' := by
  obtain ⟨ad, cap, l, rfl, hnums, hmax, hbnd⟩ := h
  obtain ⟨mu, mp, U, Pn, M, N, hS, ⟨hmu, hmp⟩, ⟨u1, u2⟩, ⟨p1, p2⟩, ⟨i1, i2⟩, ⟨i3, i4⟩, i5, i6, hM⟩ := sizes u p 16 16 rfl (by omega)
  clear hM
  have HS := hid hS
  have H0 : Hid (∀ w0, Things w w0 [] → Calls Try.prog 15 #[.int .i64 N] w0 fun e w' => ∃ a, e = .returned (.tuple #[.pointer (some ⟨a, 0, none⟩), .int .i64 0]) ∧ Things w w' [Pc a (List.replicate N 0) [] []]) := fun w0 h => g_arena h N (by have := hS.n1; omega)
  have H1 : Hid (∀ w0 a, Things w w0 [Pc a (List.replicate N 0) [] []] → Calls Try.prog 16 #[.pointer (some ⟨a, 0, none⟩), .int .i64 16, .int .i64 U, .int .i64 Pn] w0 fun e w' => ∃ c, e = .returned (.tuple #[.pointer (some ⟨c, 0, none⟩), .int .i64 0]) ∧ Things w w' [Pc a (List.replicate N 0) [] [(c, ⟨16, U, Pn, 0⟩)]]) := fun w0 a h => g_new h 0 rfl (hS.ok (x := 16) (by omega))
  have HT : Hid (Things w w []) := Things.start (Nw.start w)
  have HA : Hid (∀ w0 ts, Things w w0 ts → Calls Try.prog 9 #[] w0 fun e w' => e = .returned (.bool true) ∧ Things w w' ts) := fun w0 ts h => awake_t h
  clear hS
  go_enter Try.func4, Try.ntmps4
  go_wp2_with fail
  refine (H0.out _ HT.out).mono ?_
  rintro e w1 ⟨a, rfl, h1⟩
  have T1 := hid h1
  clear h1 H0 HT
  go_wp2_with fail
  refine (H1.out _ _ T1.out).mono ?_
  rintro e w2 ⟨c, rfl, h1⟩
  have T2 := hid h1
  clear h1 H1 T1
  go_wp2_with fail
  refine (HA.out _ _ T2.out).mono ?_
  rintro e w4 ⟨rfl, h1⟩
  have T4 := hid h1
  clear h1 T2
  by_cases hl : 200 < l.length
  · have hl' : 200 < (l.length : Int) := by omega
    go_wp2_with fail
    refine (HA.out _ _ T4.out).mono ?_
    rintro e w5 ⟨rfl, h1⟩
    have T5 := hid h1
    clear h1 T4
    go_wp2
    go_ret
    exact ⟨by simp, T5.out.nw.fr⟩
  · have hl' : (l.length : Int) ≤ 200 := by omega
    have HN := hid hnums
    have HB := hid hbnd
    have T5 : Hid (Things w (w4.alloc (.map #[] 0)) [Pc a (List.replicate N 0) [] [(c, ⟨16, U, Pn, 0⟩)], Mp w4.heap.size 0 [], Rw w.heap.size (.slice none 0 0) []]) := T4.out.set.more (Rw.good _ _ _) (Rw.empty _ _) (Fr.refl _ _) fun _ e => e.elim
    have HI0 : Hid (PutI ⟨16, U, Pn, 0⟩ 16 U Pn N (List.replicate N 0) [] 0 [] []) := PutI.start HS.out (by omega)
    clear hnums hbnd hl T4 HA
    have hmm := @run_makeMap Try.prog
    have H3 : Hid (∀ w0 bs ss k x n seen y r, ss.length ≤ 1000 → Things w w0 [Pc a bs ss [(c, k)], Mp w4.heap.size n seen, Rw w.heap.size y r] → Calls Try.prog 17 #[.pointer (some ⟨c, 0, none⟩), .int .i64 x] w0 fun e w' => e = .returned (.int .i64 (puE k x)) ∧ Things w w' [Pc a (puB k bs x) (puT k ss x) [(c, puS k x)], Mp w4.heap.size n seen, Rw w.heap.size y r]) := fun w0 bs ss k x n seen y r hs h => g_push h 0 rfl (by omega) 0 rfl x
    go_wp2
    clear hmm
    go_loopw [12, 68] (fun y i wr => ∃ (j : Nat) (bs : List UInt8) (ss : List Sp) (k : Ck) (n : Nat) (seen : List Int) (put : List Nat), j ≤ l.length ∧ n ≤ j ∧ put.length ≤ j ∧ i = .int .i64 j ∧ Hid (PutI k 16 U Pn N bs ss j seen put) ∧ Hid (Things w wr [Pc a bs ss [(c, k)], Mp w4.heap.size n seen, Rw w.heap.size y (nI put.reverse)])) (fun _ i _ => l.length - (intOf i).toNat)
    case atStart => exact ⟨0, _, _, _, 0, [], [], by omega, by omega, by simp, rfl, HI0, T5⟩
    case round =>
      obtain ⟨j, bs, ss, k, n, seen, put, hj, hn, hpj, rfl, HI, HT⟩ := hrel
      clear HI0 T5
      by_cases hlt : j < l.length
      · obtain ⟨bb, off, rfl, hbb, hc1⟩ := HN.out.fr HT.out.nw.fr j hlt
        have hwf := wf_small (HB.out j hlt).1 (HB.out j hlt).2
        generalize l[j] = x at hc1 hwf
        have hlk := HT.out.look 1 rfl hwf
        by_cases hx : x ∈ seen
        · rw [decide_eq_true hx] at hlk
          obtain ⟨w6, hrun, h6⟩ := HT.out.store 1 rfl (by simp only [maxLen]; omega) hwf
          have T6 : Hid (Things w w6 [Pc a bs ss [(c, k)], Mp w4.heap.size (n + 1) (x :: seen), Rw w.heap.size u12 (nI put.reverse)]) := h6
          have HP := hid (HI.out.skip x)
          clear hx h6 HT HI H3 hwf HN HB
          go_wp2
          go_roundw
          case rel => exact ⟨j + 1, _, _, _, n + 1, _, _, by omega, by omega, by omega, by go_num, HP, T6⟩
          case measure => simp [intOf]; omega
        · rw [decide_eq_false hx] at hlk
          have hss : ss.length ≤ 1000 := by have := HI.out.s; omega
          have HW := hid hwf
          by_cases hz : k.Has x
          · obtain ⟨x, rfl⟩ := Int.eq_ofNat_of_zero_le hz.1
            have HP := hid (HI.out.yes (z := x) (by omega) hx)
            have HE : Hid (puE k (x : Int) = 0) := if_pos hz
            have hrl : (nI put.reverse).length < 100000 := by rw [nI_length, List.length_reverse]; omega
            clear hx hwf HN HB hz
            go_wp2_with fail
            refine (H3.out _ _ _ _ _ _ _ _ _ hss HT.out).mono ?_
            rintro e w5 ⟨rfl, h5⟩
            rw [HE.out]
            have T5 := hid h5
            have hrow := (h5.push 2 rfl).1
            have hbs : w.heap.size ≤ w5.heap.size := h5.nw.le
            have HR := hid hrow
            clear h5 HT HI H3 hlk hss HE hrow
            go_wp2_with (at_builtin; refine push1s rfl (.tmp 82) (.tmp 84) rfl w.heap.size _ _ (x : Int) rfl (HR.out.alloc _) w5.heap.size rfl (by simp) hrl (by simp; omega) ?_)
            intro g cap6 w6 hown hg hw6
            have T6 : Hid (Things w w6 [Pc a (puB k bs x) (puT k ss x) [(c, puS k x)], Mp w4.heap.size n seen, Rw w.heap.size (.slice (some ⟨g, 0, none⟩) ((nI put.reverse).length + 1) cap6) (nI (x :: put).reverse)]) := by
              have h6 := (T5.out.push 2 rfl).2 ((Fr.refl _ _).alloc _) hown rfl hg (hw6.imp id fun e => by omega)
              show Things _ _ _
              rw [List.reverse_cons, nI_snoc]
              exact h6
            obtain ⟨w7, hrun, h7⟩ := T6.out.store 1 rfl (by simp only [maxLen]; omega) HW.out
            have T7 : Hid (Things w w7 [Pc a (puB k bs x) (puT k ss x) [(c, puS k x)], Mp w4.heap.size (n + 1) (x :: seen), Rw w.heap.size (.slice (some ⟨g, 0, none⟩) ((nI put.reverse).length + 1) cap6) (nI (x :: put).reverse)]) := h7
            clear hown hg hw6 T5 T6 h7 HW HR hrl hbs
            go_wp2
            go_roundw
            case rel => exact ⟨j + 1, _, _, _, n + 1, _, x :: put, by omega, by omega, by simp; omega, by go_num, HP, T7⟩
            case measure => simp [intOf]; omega
          · have HP := hid (HI.out.no hz)
            have HE : Hid (puE k x = 12) := if_neg hz
            clear hx hwf HN HB hz
            go_wp2_with fail
            refine (H3.out _ _ _ _ _ _ _ _ _ hss HT.out).mono ?_
            rintro e w5 ⟨rfl, h5⟩
            rw [HE.out]
            obtain ⟨w6, hrun, h6⟩ := h5.store 1 rfl (by simp only [maxLen]; omega) HW.out
            have T6 : Hid (Things w w6 [Pc a (puB k bs x) (puT k ss x) [(c, puS k x)], Mp w4.heap.size (n + 1) (x :: seen), Rw w.heap.size u12 (nI put.reverse)]) := h6
            clear h5 h6 HT HI H3 hlk HW hss HE
            go_wp2
            go_roundw
            case rel => exact ⟨j + 1, _, _, _, n + 1, _, _, by omega, by omega, by omega, by go_num, HP, T6⟩
            case measure => simp [intOf]; omega
      · obtain rfl : j = l.length := by omega
        clear H3 HN HB
        have hss : ss.length ≤ 1000 := by have := HI.out.s; omega
        have hok := HI.out.ch.ok
        obtain ⟨ha1, ha2⟩ := HI.out.ch.all
        obtain ⟨yad, ycap, rfl, _⟩ := HT.out.row 2 rfl
        have H4 : Hid (∀ w0, Things w w0 [Pc a bs ss [(c, k)], Mp w4.heap.size n seen, Rw w.heap.size (.slice yad (nI put.reverse).length ycap) (nI put.reverse)] → Calls Try.prog 18 #[.pointer (some ⟨c, 0, none⟩)] w0 fun e w' => ∃ ad cap, e = .returned (.tuple #[.slice ad put.length cap, .int .i64 0]) ∧ ∃ ss1, ss1.length ≤ 2000 ∧ Things w w' [Pc a bs ss1 [(c, k)], Mp w4.heap.size n seen, Rw w.heap.size (.slice yad (nI put.reverse).length ycap) (nI put.reverse), Lv ad (nI put)]) := fun w0 h => (g_all h 0 rfl (by omega) 0 rfl).mono fun e w' ⟨ad, cap, he, h⟩ => by
          rw [ha1] at he h
          rw [ha2, nI_length] at he
          exact ⟨ad, cap, he, _, by have := alT_len (bs := bs) (ss := ss) hok; omega, h⟩
        have HCH := hid HI.out.ch
        have HNB := hid HI.out.n
        have hrv : (nI put.reverse).length = put.length := by rw [nI_length, List.length_reverse]
        clear hok ha1 ha2 HI hss
        rw [hrv] at H4
        rw [hrv] at HT
        rw [hrv]
        clear hrv
        go_wp2_with fail
        refine (H4.out _ HT.out).mono ?_
        rintro e w5 ⟨aad, acap, rfl, ss5, hs5, h5⟩
        have T5 := hid h5
        clear h5 HT H4
        have hpl : put.length ≤ 200 := by omega
        have H5 : Hid (∀ w0 bs ss k x L, ss.length ≤ 9000 → Ch k bs (x :: L) → Things w w0 [Pc a bs ss [(c, k)], Mp w4.heap.size n seen, Rw w.heap.size (.slice yad put.length ycap) (nI put.reverse), Lv aad (nI put)] → Calls Try.prog 19 #[.pointer (some ⟨c, 0, none⟩)] w0 fun e w' => e = .returned (.tuple #[.int .i64 x, .int .i64 0]) ∧ Things w w' [Pc a (poB k bs) (poT k bs ss) [(c, poS k bs)], Mp w4.heap.size n seen, Rw w.heap.size (.slice yad put.length ycap) (nI put.reverse), Lv aad (nI put)]) := fun w0 bs ss k x L hs hc h => (g_pop h 0 rfl (by omega) 0 rfl).mono fun e w' ⟨he, h⟩ => ⟨by rw [he, hc.pop.1, hc.pop.2.1], h⟩
        have HS5 : Hid (ss5.length ≤ 2000) := hs5
        clear hs5 hj hn hpj
        go_wp2
        go_loopw [17] (fun i wr => ∃ (q : Nat) (bs : List UInt8) (ss : List Sp) (k : Ck) (z : Int), q ≤ put.length ∧ i = .int .i64 z ∧ z = (put.length : Int) - q - 1 ∧ Hid (Ch k bs (put.drop q)) ∧ Hid (bs.length = N ∧ ss.length ≤ 2000 + 2 * q) ∧ Hid (Things w wr [Pc a bs ss [(c, k)], Mp w4.heap.size n seen, Rw w.heap.size (.slice yad put.length ycap) (nI put.reverse), Lv aad (nI put)])) (fun i _ => (intOf i + 1).toNat)
        case atStart => exact ⟨0, bs, ss5, k, _, by omega, rfl, by go_num, HCH, ⟨HNB.out, by have := HS5.out; omega⟩, T5⟩
        case round =>
          obtain ⟨q, bs, ss, k, z, hq, rfl, hz, HC, HL, HT⟩ := hrel
          by_cases hlt : q < put.length
          · obtain ⟨m, hm⟩ : ∃ m : Nat, m + q + 1 = put.length := ⟨put.length - q - 1, by omega⟩
            obtain rfl : z = (m : Int) := by omega
            have hdrop := List.drop_eq_getElem_cons hlt
            obtain ⟨b1, o1, rfl, _, k1⟩ := HT.out.nums 3 rfl q (by rw [nI_length]; exact hlt)
            obtain ⟨b2, o2, rfl, _, k2⟩ := HT.out.rowNums 2 rfl m (by rw [nI_length, List.length_reverse]; omega)
            have e1 : (nI put)[q]'(by rw [nI_length]; exact hlt) = ((put[q] : Nat) : Int) := nI_get _
            have e2 : (nI put.reverse)[m]'(by rw [nI_length, List.length_reverse]; omega) = ((put[q] : Nat) : Int) := by
              rw [nI_get, List.getElem_reverse]
              congr 2
              omega
            rw [e1] at k1
            have HK2 : Hid (∀ w', NumsAt w' (some ⟨b2, o2, none⟩) (nI put.reverse) → w'.cell? ⟨b2, o2 + m, none⟩ = some (.int .i64 ((put[q] : Nat) : Int))) := fun w' h => by
              obtain ⟨b', o', e, _, h3⟩ := h m (by rw [nI_length, List.length_reverse]; omega)
              simp only [Option.some.injEq, Addr.mk.injEq, and_true] at e
              rw [e.1, e.2, ← e2]
              exact h3
            rw [e2] at k2
            rw [hdrop] at HC
            clear e1 e2 hdrop hz
            have hx2 : (put.length : Int) - 1 = ((m + q : Nat) : Int) := by omega
            have w1 : IntKind.i64.wrap ((put.length : Int) - 1) = ((m + q : Nat) : Int) := by rw [wrapI _ (by omega) (by omega)]; omega
            have w2 : IntKind.i64.wrap (((m + q : Nat) : Int) - (m : Int)) = (q : Int) := by rw [wrapI _ (by omega) (by omega)]; omega
            have w3 : IntKind.i64.wrap ((m : Int) - 1) = (m : Int) - 1 := wrapI _ (by omega) (by omega)
            have hql : (q : Int) < put.length := by omega
            have hml : (m : Int) < put.length := by omega
            have hss : ss.length ≤ 9000 := by have := HL.out.2; omega
            have HCP := hid HC.out.pop.2.2
            have HLN : Hid ((poB k bs).length = N ∧ (poT k bs ss).length ≤ 2000 + 2 * (q + 1)) := ⟨(poB_len HC.out.ok).trans HL.out.1, by have := HL.out.2; have := poT_len (k := k) (bs := bs) (ss := ss); omega⟩
            have HMM := hid hm
            clear hm hx2
            generalize m + q = pq at w1 w2
            generalize hput : put[q] = x at *
            clear hput
            generalize hpl2 : put.length = pl at *
            have HPL := hid hpl2
            clear hpl2
            have HT2 := hid fun nq => HT.out.kept ((Fr.refl (fun _ => False) wr).drewN nq)
            go_wp2
            go_quiet (fail)
            go_wp2_with fail
            refine (H5.out _ _ _ _ _ _ hss HC.out (HT2.out _)).mono ?_
            rintro e w6 ⟨rfl, h6⟩
            have T6 := hid h6
            have d2 := HK2.out _ (h6.rowNums 2 rfl)
            clear h6 HT HT2 HC H5 k1 k2 HK2
            go_wp2
            go_roundw
            case rel => exact ⟨q + 1, _, _, _, (m : Int) - 1, by have := HPL.out; have := HMM.out; omega, by go_num, by have := HMM.out; have := HPL.out; omega, HCP, HLN, T6⟩
            case measure => simp [intOf]
          · obtain rfl : q = put.length := by omega
            obtain rfl : z = -1 := by omega
            rw [List.drop_length] at HC
            obtain ⟨g1, g2, g3⟩ := HC.out.none
            have hN := HL.out.1
            have hNle : N ≤ 40000 := HS.out.n1
            have hss : ss.length ≤ 9000 := by have := HL.out.2; omega
            have eB : poB k bs = bs := if_neg fun h => h.1 g2
            have eS : poS k bs = k := if_neg fun h => h.1 g2
            have eV : poV k bs = 0 := if_neg fun h => h.1 g2
            have H6 : Hid (∀ w0 ts, Things w w0 (Pc a bs ss [(c, k)] :: ts) → Calls Try.prog 20 #[.pointer (some ⟨a, 0, none⟩)] w0 fun e w' => e = .returned (.int .i64 N) ∧ Things w w' (Pc a bs ss [(c, k)] :: ts)) := fun w0 ts h => (g_size h 0 rfl).mono fun e w' ⟨he, h⟩ => ⟨by rw [he, hN], h⟩
            have H7 : Hid (∀ w0 ts, Things w w0 (Pc a bs ss [(c, k)] :: ts) → Calls Try.prog 13 #[.pointer (some ⟨a, 0, none⟩), .int .i64 0, .int .i64 N] w0 fun e w' => e = .returned (.tuple #[.string ⟨(zs N).toArray⟩, .int .i64 0]) ∧ ∃ ss1, ss1.length ≤ 9001 ∧ Things w w' (Pc a bs ss1 [(c, k)] :: ts)) := fun w0 ts h => (g_read h 0 rfl 0 N (by omega) (by omega)).mono fun e w' ⟨he, h⟩ => ⟨by rw [he, g3, hN, List.drop_zero, List.take_of_length_le (by simp)]; rfl, _, Nat.le_trans (noted_le _ _ _ _) (by omega), h⟩
            have H8 : Hid (∀ w0 ts ss1, ss1.length ≤ 9001 → Things w w0 (Pc a bs ss1 [(c, k)] :: ts) → Calls Try.prog 19 #[.pointer (some ⟨c, 0, none⟩)] w0 fun e w' => e = .returned (.tuple #[.int .i64 0, .int .i64 13]) ∧ ∃ ss1, Things w w' (Pc a bs ss1 [(c, k)] :: ts)) := fun w0 ts ss1 hs h => (g_pop h 0 rfl (by omega) 0 rfl).mono fun e w' ⟨he, h⟩ => by
              rw [eB, eS] at h
              exact ⟨by rw [he, g1, eV], _, h⟩
            have H9 : Hid (∀ w0 ts ss1, Things w w0 (Pc a bs ss1 [(c, k)] :: ts) → Calls Try.prog 11 #[.pointer (some ⟨c, 0, none⟩)] w0 fun e w' => e = .returned (.bool true) ∧ Things w w' (Pc a bs ss1 [(c, k)] :: ts)) := fun w0 ts ss1 h => (g_empty h 0 rfl 0 rfl).mono fun e w' ⟨he, h⟩ => ⟨by rw [he, decide_eq_true g2], h⟩
            have HZ : Hid (∀ w0 ts ss1, Things w w0 (Pc a bs ss1 [(c, k)] :: ts) → Calls Try.prog 20 #[.pointer (some ⟨a, 0, none⟩)] w0 fun e w' => e = .returned (.int .i64 N) ∧ Things w w' (Pc a bs ss1 [(c, k)] :: ts)) := fun w0 ts ss1 h => (g_size h 0 rfl).mono fun e w' ⟨he, h⟩ => ⟨by rw [he, hN], h⟩
            clear g1 g2 g3 hN hss eB eS eV HC HL H5 hz
            go_wp2_with fail
            refine (H6.out _ _ HT.out).mono ?_
            rintro e w6 ⟨rfl, h6⟩
            have T6 := hid h6
            clear h6 HT H6
            go_wp2_with fail
            refine (H7.out _ _ T6.out).mono ?_
            rintro e w7 ⟨rfl, ss7, hs7, h7⟩
            have T7 := hid h7
            clear h7 T6 H7
            go_wp2_with fail
            refine (H8.out _ _ _ hs7 T7.out).mono ?_
            rintro e w8 ⟨rfl, ss8, h8⟩
            have T8 := hid h8
            clear h8 T7 H8 hs7
            go_wp2_with fail
            refine (H9.out _ _ _ T8.out).mono ?_
            rintro e w9 ⟨rfl, h9⟩
            have T9 := hid h9
            clear h9 T8 H9
            go_wp2_with fail
            refine (HZ.out _ _ _ T9.out).mono ?_
            rintro e wa ⟨rfl, ha⟩
            have TA := hid ha
            clear ha T9 HZ
            have hmk := run_make_bytes wa N (by omega)
            have hcv := run_made_text wa N
            go_wp2
            go_ret
            exact ⟨by simp, TA.out.nw.fr.alloc _⟩
end Go.Proofs.Ytjgkcaibapffhaa
