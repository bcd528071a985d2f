/-
  As long as what blocks cost together stays within a quota, a heap never holds more pages than the quota takes: the law's walk.
-/
import Derived.Test.YtihaifnenjngpaaGreatDoorDmBase
import Derived.Test.YtihaifnenjngpaaGreatDoorDmRef
namespace Go.Proofs.YtihaifnenjngpaaGreatDoor
open Go.RowKit
open An

theorem smL_pos {f : Hd → Int} : ∀ (L : List Hd), (∀ x ∈ L, 0 ≤ f x) → 0 ≤ smL f L
  | [], _ => Int.le_refl _
  | x :: r, h => by
    have h1 := h x (by simp)
    have h2 := smL_pos r fun y hy => h y (List.mem_cons_of_mem _ hy)
    simp only [smL]; omega
theorem coF_pos (x : Hd) : 0 ≤ coF x := by
  unfold coF
  split
  · exact Int.mul_nonneg (by omega) (by omega)
  · have : ∀ c : Nat, 0 ≤ unitI c := fun c => by
      by_cases h : c ≤ 23
      · have := unitI_range c (by omega) (by omega); omega
      · unfold unitI
        split <;> omega
    exact this _
set_option maxRecDepth 20000 in
set_option maxHeartbeats 4000000 in
theorem few_walk {W : World} (gr : G17 W) {c : C17} {sad : Option Addr} {cap : Nat} {l : List O17} {quota : Int} (hc : CfgH W c) (ho : OpsH W sad l) (hmax : l.length ≤ maxLen) (hq : I64 quota) : Calls Tryz.prog 8 #[c.val, .slice sad l.length cap, .int .i64 quota] W fun e w' => e = .returned (.bool true) ∧ Nw W w' := by
  have GR := hid gr
  have HO := hid ho
  have HCF := hid hc
  have HA : Hid (∀ w, Nw W w → Calls Tryz.prog 9 #[] w fun e w' => e = .returned (.bool true) ∧ Fr (fun _ => False) w w') := fun w h => (awake_any (Nw.start w) (gr.fr h.fr)).mono fun e w' ⟨h1, h2⟩ => ⟨h1, h2.fr⟩
  have hmax' := hmax
  unfold maxLen at hmax'
  obtain ⟨P, K, adA, cA, A, adB, cB, B⟩ := c
  have T0 : Hid (Things W (W.alloc (.cells #[.int .i64 P, .int .i64 K, .slice adA A.length cA, .slice adB B.length cB] 26)) [Blk W.heap.size (.cells #[.int .i64 P, .int .i64 K, .slice adA A.length cA, .slice adB B.length cB] 26 (0, 0))]) := (Things.start (Nw.start W)).blk _
  by_cases ok : Cq.Cfg P K
  case neg =>
    have HM := hid (made_no T0.out (c := ⟨P, K, adA, cA, A, adB, cB, B⟩) ok)
    clear gr hc ho ok hmax
    unfold C17.val at HM ⊢
    simp only at HM ⊢
    go_enter Tryz.func8, Tryz.ntmps8
    go_wp2_with fail
    refine HM.out.mono ?_
    rintro e w1 ⟨rfl, h1⟩
    have N1 := hid h1.nw
    clear h1 HM
    go_wp2_with fail
    refine (HA.out _ N1.out).mono ?_
    rintro e w2 ⟨rfl, h2⟩
    have N2 := hid (N1.out.kept h2)
    clear h2
    go_wp2_with fail
    refine (HA.out _ N2.out).mono ?_
    rintro e w3 ⟨rfl, h3⟩
    go_wp2
    go_ret
    exact ⟨by simp, N2.out.kept h3⟩
  obtain ⟨n, rfl⟩ : ∃ n : Nat, P = (n : Int) := ⟨P.toNat, by have := ok.2.2.1; omega⟩
  obtain ⟨k, rfl⟩ : ∃ k : Nat, K = (k : Int) := ⟨K.toNat, by have := ok.1; omega⟩
  have HM := hid (made1 T0.out gr hc ok)
  have HLG : Hid (∀ w, Nw W w → Calls Tryz.prog 10 #[C17.val ⟨n, k, adA, cA, A, adB, cB, B⟩, .slice sad l.length cap] w fun e w' => LongR ⟨n, k, adA, cA, A, adB, cB, B⟩ l e ∧ Fr (fun _ => False) w w') := fun w h => long_any (ho.fr h.fr) (hc.fr h.fr) hmax
  have HMY := hid fun (w : World) => e_may quota w
  have HT2 := hid (two_new ok hc.la hc.lb)
  clear gr hc ho hmax
  unfold C17.val at HM HLG ⊢
  simp only at HM HLG ⊢
  go_enter Tryz.func8, Tryz.ntmps8
  go_wp2_with fail
  refine HM.out.mono ?_
  rintro e w1 ⟨p, a, m, h, t, h', t', x, y, r, r', rfl, h1⟩
  have T1 : Hid (Things W w1 [Blk W.heap.size (.cells #[.int .i64 n, .int .i64 k, .slice adA A.length cA, .slice adB B.length cB] 26 (0, 0)), Anyt, Blk p (.cells (pairC a m h h' x y r r') 45 (0, 0)), S2 a m k (mN n) h t (hN A) h' t' (hN B), D2 x y k (mN n) r (hN A) r' (hN B)]) := h1
  clear h1 HM T0
  go_wp2_with fail
  refine (HA.out _ T1.out.nw).mono ?_
  rintro e w2 ⟨rfl, h2⟩
  have T2 := hid (T1.out.kept h2)
  have b0 : w2.cell? ⟨W.heap.size, 0, none⟩ = some (.int .i64 n) := box_cell (T2.out.cells 0 rfl) 0 rfl
  have b1 : w2.cell? ⟨W.heap.size, 1, none⟩ = some (.int .i64 k) := box_cell (T2.out.cells 0 rfl) 1 rfl
  have b2 : w2.cell? ⟨W.heap.size, 2, none⟩ = some (.slice adA A.length cA) := box_cell (T2.out.cells 0 rfl) 2 rfl
  have b3 : w2.cell? ⟨W.heap.size, 3, none⟩ = some (.slice adB B.length cB) := box_cell (T2.out.cells 0 rfl) 3 rfl
  clear h2 T1
  go_wp2_with fail
  refine (HLG.out _ T2.out.nw).mono ?_
  rintro e w3 ⟨⟨b, rfl, hsh⟩, h3⟩
  have T3 := hid (T2.out.kept h3)
  clear h3 T2 HLG b0 b1 b2 b3
  cases b with
  | true =>
    go_wp2_with fail
    refine (HA.out _ T3.out.nw).mono ?_
    rintro e w4 ⟨rfl, h4⟩
    go_wp2
    go_ret
    exact ⟨by simp, T3.out.nw.kept h4⟩
  | false =>
    have HSH := hid (hsh rfl)
    clear hsh
    go_wp2_with fail
    refine (HMY.out _).mono ?_
    rintro e w4 ⟨rfl, hw⟩
    obtain rfl := hw.symm
    by_cases hmay : May quota
    case neg =>
      rw [decide_eq_false hmay]
      clear hmay
      go_wp2_with fail
      refine (HA.out _ T3.out.nw).mono ?_
      rintro e w5 ⟨rfl, h5⟩
      go_wp2
      go_ret
      exact ⟨by simp, T3.out.nw.kept h5⟩
    rw [decide_eq_true hmay]
    have hb2 : w3.cell? ⟨p, 2, none⟩ = some (.pointer (some ⟨h, 0, none⟩)) := box_cell (T3.out.cells 2 rfl) 2 rfl
    clear HA HMY
    go_wp2
    have HPG : Hid (∀ w, Nw W w → Calls Tryz.prog 44 #[.int .i64 quota] w fun e w' => e = .returned (.int .i64 (takesI quota)) ∧ Fr (fun _ => False) w w') := fun w hw => (e_pages quota (K.start (GR.out.fr hw.fr).1)).mono fun e w' ⟨h1, h2⟩ => ⟨h1, h2.fr⟩
    have HCH : Hid (∀ w N, Nw W w → Calls Tryz.prog 29 #[.int .i64 N] w fun e w' => e = .returned (.int .i64 (chargeI N)) ∧ Fr (fun _ => False) w w') := fun w N hw => (r_charge N (K.start (GR.out.fr hw.fr).1)).mono fun e w' ⟨h1, h2⟩ => ⟨h1, h2.fr⟩
    have HF0 : Hid (Two k 0 (mN n) (hN A) (hN B) ∧ Few quota (hN A) 0) := ⟨HT2.out, ⟨hmay, rfl, rfl, by have := hmay.1; omega, fun c hc => byI_nonneg c quota⟩⟩
    have hlen : l.length ≤ 250 := HSH.out.len
    have q1 := hmay.1
    have q2 := hmay.2
    clear hmay HT2 hb2 HSH HCF hmax'
    go_loopw [9, 45] (fun cst i wr => ∃ (j : Nat) (ct : Int) (M : Ms) (H : Hp), j ≤ l.length ∧ i = .int .i64 j ∧ cst = .int .i64 ct ∧ Hid (Two k (20 * j) M H (hN B) ∧ Few quota H ct ∧ 0 ≤ ct ∧ ct ≤ 65536) ∧ Hid (Things W wr [Blk W.heap.size (.cells #[.int .i64 n, .int .i64 k, .slice adA A.length cA, .slice adB B.length cB] 26 (0, 0)), Anyt, Blk p (.cells (pairC a m h h' x y r r') 45 (0, 0)), S2 a m k (M) h t (H) h' t' (hN B), D2 x y k (mN n) r (hN A) r' (hN B)])) (fun _ i _ => l.length - (intOf i).toNat)
    case atStart => exact ⟨0, 0, _, _, by omega, rfl, rfl, ⟨HF0.out.1, HF0.out.2, by omega, by omega⟩, T3⟩
    case round =>
      obtain ⟨j, ct, M, H, hj, rfl, rfl, HI, T⟩ := hrel
      clear HF0 T3
      obtain ⟨ct0, ct1⟩ := HI.out.2.2
      have TW := hid HI.out.1
      have FW := hid HI.out.2.1
      clear HI
      by_cases hlt : j < l.length
      case neg =>
        obtain rfl : l.length = j := by omega
        go_wp2
        go_ret
        exact ⟨by simp, T.out.nw⟩
      obtain ⟨bb, off, rfl, hbb, hc1, hc2, hc3, hc4, i1, i2, hnw, hwl⟩ := HO.out.fr T.out.nw.fr j hlt
      generalize l[j] = o at hc1 hc2 hc3 hc4 i1 i2 hnw hwl
      obtain ⟨kd, N, two, oad, ocap, oW⟩ := o
      simp only at hc1 hc2 hc3 hc4 i1 i2 hnw hwl
      have TB : Hid (Things W (wr.alloc (.cells #[.int .i64 kd, .int .i64 N, .bool two, .slice oad oW.length ocap] 34)) [Blk W.heap.size (.cells #[.int .i64 n, .int .i64 k, .slice adA A.length cA, .slice adB B.length cB] 26 (0, 0)), Anyt, Blk p (.cells (pairC a m h h' x y r r') 45 (0, 0)), S2 a m k (M) h t (H) h' t' (hN B), D2 x y k (mN n) r (hN A) r' (hN B), Blk wr.heap.size (.cells #[.int .i64 kd, .int .i64 N, .bool two, .slice oad oW.length ocap] 34 (0, 0))]) := T.out.blk _
      clear hnw hwl HO T
      by_cases hk : kd = 1
      · subst hk
        go_wp2_with fail
        refine (HCH.out _ N TB.out.nw).mono ?_
        rintro e v1 ⟨rfl, g1⟩
        have T1 := hid (TB.out.kept g1)
        have b1 : v1.cell? ⟨wr.heap.size, 1, none⟩ = some (.int .i64 N) := box_cell (T1.out.cells 5 rfl) 1 rfl
        clear g1 TB
        have HCI : Hid (chargeI N = if ofI N < 0 then 0 else unitI (ofI N)) := rfl
        have hcr : 0 ≤ chargeI N ∧ chargeI N ≤ 8192 := by
          unfold chargeI
          by_cases e : ofI N < 0
          · rw [if_pos e]; omega
          · rw [if_neg e]
            have hr : ¬ (N < 1 ∨ 8192 < N) := fun e2 => e (by rw [(ofI_none N).2 e2]; decide)
            have h2 := ofI_range N (by omega) (by omega)
            have := unitI_range _ h2.1 h2.2
            omega
        generalize chargeI N = cn at *
        have r1 : IntKind.i64.wrap (ct + cn) = ct + cn := by rw [IntKind.wrap_i64]; omega
        by_cases hg : 0 < cn ∧ ct + cn ≤ quota
        · obtain ⟨hg1, hg2⟩ := hg
          have hof : ¬ ofI N < 0 := fun e => by have := HCI.out; rw [if_pos e] at this; omega
          have hcu : cn = unitI (ofI N) := by have := HCI.out; rw [if_neg hof] at this; exact this
          have W1 := hid (hM_ways (fun _ => id) TW.out.ok TW.out.ms N : MWay (fun q => Cq.inW k H.W q = true) k M H N (hM k M H N))
          have HW := hid (hM_had TW.out.ok TW.out.ms W1.out)
          have TM := hid (TW.out.malloc N)
          have FM : Hid ((hM k M H N).2.2.2 = 0 → Few quota (hM k M H N).2.1 (ct + cn)) := fun e => by rw [hcu]; exact FW.out.malloc TW.out.ok W1.out e (by rw [← hcu]; exact hg2)
          have HMA := hid fun (w : World) (q : Things W w [Blk W.heap.size (.cells #[.int .i64 n, .int .i64 k, .slice adA A.length cA, .slice adB B.length cB] 26 (0, 0)), Anyt, Blk p (.cells (pairC a m h h' x y r r') 45 (0, 0)), S2 a m k (M) h t (H) h' t' (hN B), D2 x y k (mN n) r (hN A) r' (hN B), Blk wr.heap.size (.cells #[.int .i64 1, .int .i64 N, .bool two, .slice oad oW.length ocap] 34 (0, 0))]) => t_malloc q GR.out 3 rfl TW.out (by omega) i2
          clear HCI hof hcu W1
          go_wp2_with fail
          refine (HMA.out _ T1.out).mono ?_
          rintro e v2 ⟨rfl, g2⟩
          have T2 : Hid (Things W v2 [Blk W.heap.size (.cells #[.int .i64 n, .int .i64 k, .slice adA A.length cA, .slice adB B.length cB] 26 (0, 0)), Anyt, Blk p (.cells (pairC a m h h' x y r r') 45 (0, 0)), S2 a m k ((hM k M H N).1) h t ((hM k M H N).2.1) h' t' (hN B), D2 x y k (mN n) r (hN A) r' (hN B), Blk wr.heap.size (.cells #[.int .i64 1, .int .i64 N, .bool two, .slice oad oW.length ocap] 34 (0, 0))]) := g2
          clear g2 T1 HMA
          by_cases he : (hM k M H N).2.2.2 = 0
          · have FN := hid (FM.out he)
            rw [he]
            clear HW FM he
            go_wp2_with fail
            refine (t_pages T2.out 3 rfl TM.out (by omega)).mono ?_
            rintro e u1 ⟨rfl, g1⟩
            have TE := hid g1
            clear g1 T2
            go_wp2_with fail
            refine (HPG.out _ TE.out.nw).mono ?_
            rintro e u2 ⟨rfl, g2⟩
            have TE2 : Hid (Things W u2 [Blk W.heap.size (.cells #[.int .i64 n, .int .i64 k, .slice adA A.length cA, .slice adB B.length cB] 26 (0, 0)), Anyt, Blk p (.cells (pairC a m h h' x y r r') 45 (0, 0)), S2 a m k ((hM k M H N).1) h t ((hM k M H N).2.1) h' t' (hN B), D2 x y k (mN n) r (hN A) r' (hN B)]) := Things.less (ts := [Blk W.heap.size (.cells #[.int .i64 n, .int .i64 k, .slice adA A.length cA, .slice adB B.length cB] 26 (0, 0)), Anyt, Blk p (.cells (pairC a m h h' x y r r') 45 (0, 0)), S2 a m k ((hM k M H N).1) h t ((hM k M H N).2.1) h' t' (hN B), D2 x y k (mN n) r (hN A) r' (hN B)]) (TE.out.kept g2)
            have hle : (((hM k M H N).2.1).T.length : Int) ≤ takesI quota := FN.out.pages TM.out.ok
            clear g2 TE
            generalize takesI quota = tq at *
            generalize ((hM k M H N).2.1).T.length = tl at *
            go_wp2
            go_roundw
            case rel => exact ⟨j + 1, ct + cn, (hM k M H N).1, (hM k M H N).2.1, by omega, by go_num, by simp, ⟨TM.out.less (by omega), FN.out, by omega, by omega⟩, TE2⟩
            case measure => simp [intOf]; omega
          · have hs : (hM k M H N).1 = M ∧ (hM k M H N).2.1 = H := by
              rcases HW.out with e | e
              · exact ⟨e.2.1, e.2.2.1⟩
              · exact (he e.1).elim
            rw [hs.1, hs.2] at T2
            clear HW FM TM hs
            generalize (hM k M H N).2.2.2 = ev at *
            generalize (hM k M H N).2.2.1 = av at *
            go_wp2_with fail
            refine (t_pages T2.out 3 rfl TW.out (by omega)).mono ?_
            rintro e u1 ⟨rfl, g1⟩
            have TE := hid g1
            clear g1 T2
            go_wp2_with fail
            refine (HPG.out _ TE.out.nw).mono ?_
            rintro e u2 ⟨rfl, g2⟩
            have TE2 : Hid (Things W u2 [Blk W.heap.size (.cells #[.int .i64 n, .int .i64 k, .slice adA A.length cA, .slice adB B.length cB] 26 (0, 0)), Anyt, Blk p (.cells (pairC a m h h' x y r r') 45 (0, 0)), S2 a m k (M) h t (H) h' t' (hN B), D2 x y k (mN n) r (hN A) r' (hN B)]) := Things.less (ts := [Blk W.heap.size (.cells #[.int .i64 n, .int .i64 k, .slice adA A.length cA, .slice adB B.length cB] 26 (0, 0)), Anyt, Blk p (.cells (pairC a m h h' x y r r') 45 (0, 0)), S2 a m k (M) h t (H) h' t' (hN B), D2 x y k (mN n) r (hN A) r' (hN B)]) (TE.out.kept g2)
            have hle : ((H).T.length : Int) ≤ takesI quota := FW.out.pages TW.out.ok
            clear g2 TE
            generalize takesI quota = tq at *
            generalize (H).T.length = tl at *
            go_wp2
            go_roundw
            case rel => exact ⟨j + 1, ct, M, H, by omega, by go_num, by simp, ⟨TW.out.less (by omega), FW.out, ct0, ct1⟩, TE2⟩
            case measure => simp [intOf]; omega
        · clear HCI
          have hg' : ¬ 0 < cn ∨ ¬ ct + cn ≤ quota := by omega
          by_cases hg1 : 0 < cn
          · have hg2 : ¬ ct + cn ≤ quota := by omega
            clear hg hg'
            go_wp2_with fail
            refine (t_pages T1.out 3 rfl TW.out (by omega)).mono ?_
            rintro e u1 ⟨rfl, g1⟩
            have TE := hid g1
            clear g1 T1
            go_wp2_with fail
            refine (HPG.out _ TE.out.nw).mono ?_
            rintro e u2 ⟨rfl, g2⟩
            have TE2 : Hid (Things W u2 [Blk W.heap.size (.cells #[.int .i64 n, .int .i64 k, .slice adA A.length cA, .slice adB B.length cB] 26 (0, 0)), Anyt, Blk p (.cells (pairC a m h h' x y r r') 45 (0, 0)), S2 a m k (M) h t (H) h' t' (hN B), D2 x y k (mN n) r (hN A) r' (hN B)]) := Things.less (ts := [Blk W.heap.size (.cells #[.int .i64 n, .int .i64 k, .slice adA A.length cA, .slice adB B.length cB] 26 (0, 0)), Anyt, Blk p (.cells (pairC a m h h' x y r r') 45 (0, 0)), S2 a m k (M) h t (H) h' t' (hN B), D2 x y k (mN n) r (hN A) r' (hN B)]) (TE.out.kept g2)
            have hle : ((H).T.length : Int) ≤ takesI quota := FW.out.pages TW.out.ok
            clear g2 TE
            generalize takesI quota = tq at *
            generalize (H).T.length = tl at *
            go_wp2
            go_roundw
            case rel => exact ⟨j + 1, ct, M, H, by omega, by go_num, by simp, ⟨TW.out.less (by omega), FW.out, ct0, ct1⟩, TE2⟩
            case measure => simp [intOf]; omega
          · clear hg hg'
            go_wp2_with fail
            refine (t_pages T1.out 3 rfl TW.out (by omega)).mono ?_
            rintro e u1 ⟨rfl, g1⟩
            have TE := hid g1
            clear g1 T1
            go_wp2_with fail
            refine (HPG.out _ TE.out.nw).mono ?_
            rintro e u2 ⟨rfl, g2⟩
            have TE2 : Hid (Things W u2 [Blk W.heap.size (.cells #[.int .i64 n, .int .i64 k, .slice adA A.length cA, .slice adB B.length cB] 26 (0, 0)), Anyt, Blk p (.cells (pairC a m h h' x y r r') 45 (0, 0)), S2 a m k (M) h t (H) h' t' (hN B), D2 x y k (mN n) r (hN A) r' (hN B)]) := Things.less (ts := [Blk W.heap.size (.cells #[.int .i64 n, .int .i64 k, .slice adA A.length cA, .slice adB B.length cB] 26 (0, 0)), Anyt, Blk p (.cells (pairC a m h h' x y r r') 45 (0, 0)), S2 a m k (M) h t (H) h' t' (hN B), D2 x y k (mN n) r (hN A) r' (hN B)]) (TE.out.kept g2)
            have hle : ((H).T.length : Int) ≤ takesI quota := FW.out.pages TW.out.ok
            clear g2 TE
            generalize takesI quota = tq at *
            generalize (H).T.length = tl at *
            go_wp2
            go_roundw
            case rel => exact ⟨j + 1, ct, M, H, by omega, by go_num, by simp, ⟨TW.out.less (by omega), FW.out, ct0, ct1⟩, TE2⟩
            case measure => simp [intOf]; omega
      · have hkd : (kd == 1) = false := by simp [hk]
        have HBL := hid fun (w : World) (q : Things W w [Blk W.heap.size (.cells #[.int .i64 n, .int .i64 k, .slice adA A.length cA, .slice adB B.length cB] 26 (0, 0)), Anyt, Blk p (.cells (pairC a m h h' x y r r') 45 (0, 0)), S2 a m k (M) h t (H) h' t' (hN B), D2 x y k (mN n) r (hN A) r' (hN B), Blk wr.heap.size (.cells #[.int .i64 kd, .int .i64 N, .bool two, .slice oad oW.length ocap] 34 (0, 0))]) => t_blocks q GR.out 3 rfl TW.out (by omega)
        go_wp2_with fail
        refine (HBL.out _ TB.out).mono ?_
        rintro e v1 ⟨lad, lcap, rfl, g1⟩
        have T1 : Hid (Things W v1 [Blk W.heap.size (.cells #[.int .i64 n, .int .i64 k, .slice adA A.length cA, .slice adB B.length cB] 26 (0, 0)), Anyt, Blk p (.cells (pairC a m h h' x y r r') 45 (0, 0)), S2 a m k (M) h t (H) h' t' (hN B), D2 x y k (mN n) r (hN A) r' (hN B), Blk wr.heap.size (.cells #[.int .i64 kd, .int .i64 N, .bool two, .slice oad oW.length ocap] 34 (0, 0)), Lv lad (hBl H.L)]) := g1
        clear g1 TB HBL hkd hk
        have HMB := hid fun (z : Int) (hz : z ∈ hBl H.L) => (mem_hBl TW.out.ok.nd TW.out.ok.at_).1 hz
        have hbl := hBl_len H.L
        have b1 : v1.cell? ⟨wr.heap.size, 1, none⟩ = some (.int .i64 N) := box_cell (T1.out.cells 5 rfl) 1 rfl
        cases hB : hBl H.L with
        | nil =>
          have T1' : Hid (Things W v1 [Blk W.heap.size (.cells #[.int .i64 n, .int .i64 k, .slice adA A.length cA, .slice adB B.length cB] 26 (0, 0)), Anyt, Blk p (.cells (pairC a m h h' x y r r') 45 (0, 0)), S2 a m k (M) h t (H) h' t' (hN B), D2 x y k (mN n) r (hN A) r' (hN B), Blk wr.heap.size (.cells #[.int .i64 kd, .int .i64 N, .bool two, .slice oad oW.length ocap] 34 (0, 0))]) := Things.less (ts := [Blk W.heap.size (.cells #[.int .i64 n, .int .i64 k, .slice adA A.length cA, .slice adB B.length cB] 26 (0, 0)), Anyt, Blk p (.cells (pairC a m h h' x y r r') 45 (0, 0)), S2 a m k (M) h t (H) h' t' (hN B), D2 x y k (mN n) r (hN A) r' (hN B), Blk wr.heap.size (.cells #[.int .i64 kd, .int .i64 N, .bool two, .slice oad oW.length ocap] 34 (0, 0))]) T1.out
          clear T1 HMB hbl
          go_wp2_with fail
          refine (t_pages T1'.out 3 rfl TW.out (by omega)).mono ?_
          rintro e u1 ⟨rfl, g1⟩
          have TE := hid g1
          clear g1 T1'
          go_wp2_with fail
          refine (HPG.out _ TE.out.nw).mono ?_
          rintro e u2 ⟨rfl, g2⟩
          have TE2 : Hid (Things W u2 [Blk W.heap.size (.cells #[.int .i64 n, .int .i64 k, .slice adA A.length cA, .slice adB B.length cB] 26 (0, 0)), Anyt, Blk p (.cells (pairC a m h h' x y r r') 45 (0, 0)), S2 a m k (M) h t (H) h' t' (hN B), D2 x y k (mN n) r (hN A) r' (hN B)]) := Things.less (ts := [Blk W.heap.size (.cells #[.int .i64 n, .int .i64 k, .slice adA A.length cA, .slice adB B.length cB] 26 (0, 0)), Anyt, Blk p (.cells (pairC a m h h' x y r r') 45 (0, 0)), S2 a m k (M) h t (H) h' t' (hN B), D2 x y k (mN n) r (hN A) r' (hN B)]) (TE.out.kept g2)
          have hle : ((H).T.length : Int) ≤ takesI quota := FW.out.pages TW.out.ok
          clear g2 TE
          generalize takesI quota = tq at *
          generalize (H).T.length = tl at *
          go_wp2
          go_roundw
          case rel => exact ⟨j + 1, ct, M, H, by omega, by go_num, by simp, ⟨TW.out.less (by omega), FW.out, ct0, ct1⟩, TE2⟩
          case measure => simp [intOf]; omega
        | cons z0 zr =>
          rw [← hB]
          have h0 : 0 < (hBl H.L).length := by rw [hB]; simp
          obtain ⟨ix, hix, hixl⟩ := modu N (hBl H.L).length _ rfl h0 hbl
          obtain ⟨lb0, loff, rfl, hlb, hlc⟩ := (T1.out.nums 6 rfl) ix hixl
          obtain ⟨cc, ss, jj, hhad, hat⟩ := HMB.out (hBl H.L)[ix] (List.getElem_mem hixl)
          rw [hat] at hlc
          obtain ⟨hpt, hcc, hss⟩ := hhad.there TW.out.ok
          have hF0 := findR_of hpt
          have hi64 : I64 (adI cc ss jj) := by have := hpt.inside; have := unitI_range cc (by omega) (by omega); exact ⟨by omega, by omega⟩
          have HHU : Hid (hUs H cc ss jj 0 = (unitI cc, 0)) := had_us TW.out.ok hhad
          have hfr : hFr M H cc ss jj 0 = hF M H cc ss jj := by unfold hFr; rw [if_pos rfl, Int.toNat_natCast, Int.toNat_natCast]
          have HUS := hid fun (w : World) (q : Things W w [Blk W.heap.size (.cells #[.int .i64 n, .int .i64 k, .slice adA A.length cA, .slice adB B.length cB] 26 (0, 0)), Anyt, Blk p (.cells (pairC a m h h' x y r r') 45 (0, 0)), S2 a m k (M) h t (H) h' t' (hN B), D2 x y k (mN n) r (hN A) r' (hN B), Blk wr.heap.size (.cells #[.int .i64 kd, .int .i64 N, .bool two, .slice oad oW.length ocap] 34 (0, 0))]) => t_usable q GR.out 3 rfl TW.out (by omega) hF0 hi64
          have HFR := hid fun (w : World) (q : Things W w [Blk W.heap.size (.cells #[.int .i64 n, .int .i64 k, .slice adA A.length cA, .slice adB B.length cB] 26 (0, 0)), Anyt, Blk p (.cells (pairC a m h h' x y r r') 45 (0, 0)), S2 a m k (M) h t (H) h' t' (hN B), D2 x y k (mN n) r (hN A) r' (hN B), Blk wr.heap.size (.cells #[.int .i64 kd, .int .i64 N, .bool two, .slice oad oW.length ocap] 34 (0, 0))]) => t_free q GR.out 3 rfl TW.out (by omega) hF0 hi64
          have TF := hid (TW.out.free cc ss jj 0)
          have FF := hid (FW.out.free TW.out.ok TW.out.ms hhad)
          have hz : (hF M H cc ss jj).2.2 = 0 := (hF_had TW.out.ok hhad).1
          rw [hfr] at TF HFR
          rw [HHU.out] at HUS
          rw [hz] at HFR
          have hun := unitI_range cc (by omega) (by omega)
          have T1' : Hid (Things W v1 [Blk W.heap.size (.cells #[.int .i64 n, .int .i64 k, .slice adA A.length cA, .slice adB B.length cB] 26 (0, 0)), Anyt, Blk p (.cells (pairC a m h h' x y r r') 45 (0, 0)), S2 a m k (M) h t (H) h' t' (hN B), D2 x y k (mN n) r (hN A) r' (hN B), Blk wr.heap.size (.cells #[.int .i64 kd, .int .i64 N, .bool two, .slice oad oW.length ocap] 34 (0, 0))]) := Things.less (ts := [Blk W.heap.size (.cells #[.int .i64 n, .int .i64 k, .slice adA A.length cA, .slice adB B.length cB] 26 (0, 0)), Anyt, Blk p (.cells (pairC a m h h' x y r r') 45 (0, 0)), S2 a m k (M) h t (H) h' t' (hN B), D2 x y k (mN n) r (hN A) r' (hN B), Blk wr.heap.size (.cells #[.int .i64 kd, .int .i64 N, .bool two, .slice oad oW.length ocap] 34 (0, 0))]) T1.out
          have HCT : Hid (0 ≤ ct - unitI cc) := by show _; have := FF.out.cost; rw [this]; exact smL_pos _ fun z hz => coF_pos z
          have hct := HCT.out
          clear HCT T1 HMB hat hpt hF0 hi64 HHU hfr hz hhad hB
          have h0i : (0 : Int) < ((hBl H.L).length : Int) := by omega
          generalize unitI cc = uc at *
          generalize adI cc ss jj = za at *
          generalize (hBl H.L).length = bl at *
          have r2 : IntKind.i64.wrap (ct - uc) = ct - uc := by rw [IntKind.wrap_i64]; omega
          go_wp2_with fail
          refine (HUS.out _ T1'.out).mono ?_
          rintro e v2 ⟨rfl, g2⟩
          have T2 := hid g2
          clear g2 T1' HUS
          go_wp2_with fail
          refine (HFR.out _ T2.out).mono ?_
          rintro e v3 ⟨rfl, g3⟩
          have T4 : Hid (Things W v3 [Blk W.heap.size (.cells #[.int .i64 n, .int .i64 k, .slice adA A.length cA, .slice adB B.length cB] 26 (0, 0)), Anyt, Blk p (.cells (pairC a m h h' x y r r') 45 (0, 0)), S2 a m k ((hF M H cc ss jj).1) h t ((hF M H cc ss jj).2.1) h' t' (hN B), D2 x y k (mN n) r (hN A) r' (hN B), Blk wr.heap.size (.cells #[.int .i64 kd, .int .i64 N, .bool two, .slice oad oW.length ocap] 34 (0, 0))]) := g3
          clear g3 T2 HFR
          go_wp2_with fail
          refine (t_pages T4.out 3 rfl TF.out (by omega)).mono ?_
          rintro e u1 ⟨rfl, g1⟩
          have TE := hid g1
          clear g1 T4
          go_wp2_with fail
          refine (HPG.out _ TE.out.nw).mono ?_
          rintro e u2 ⟨rfl, g2⟩
          have TE2 : Hid (Things W u2 [Blk W.heap.size (.cells #[.int .i64 n, .int .i64 k, .slice adA A.length cA, .slice adB B.length cB] 26 (0, 0)), Anyt, Blk p (.cells (pairC a m h h' x y r r') 45 (0, 0)), S2 a m k ((hF M H cc ss jj).1) h t ((hF M H cc ss jj).2.1) h' t' (hN B), D2 x y k (mN n) r (hN A) r' (hN B)]) := Things.less (ts := [Blk W.heap.size (.cells #[.int .i64 n, .int .i64 k, .slice adA A.length cA, .slice adB B.length cB] 26 (0, 0)), Anyt, Blk p (.cells (pairC a m h h' x y r r') 45 (0, 0)), S2 a m k ((hF M H cc ss jj).1) h t ((hF M H cc ss jj).2.1) h' t' (hN B), D2 x y k (mN n) r (hN A) r' (hN B)]) (TE.out.kept g2)
          have hle : (((hF M H cc ss jj).2.1).T.length : Int) ≤ takesI quota := FF.out.pages TF.out.ok
          clear g2 TE
          generalize takesI quota = tq at *
          generalize ((hF M H cc ss jj).2.1).T.length = tl at *
          go_wp2
          go_roundw
          case rel => exact ⟨j + 1, ct - uc, (hF M H cc ss jj).1, (hF M H cc ss jj).2.1, by omega, by go_num, by simp, ⟨TF.out.less (by omega), FF.out, by omega, by omega⟩, TE2⟩
          case measure => simp [intOf]; omega
end Go.Proofs.YtihaifnenjngpaaGreatDoor
