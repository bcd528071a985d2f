/-
  Blocks that are had have no byte in common, are 0 when they are had, and stay as their owner wrote them: the law's walk.
-/
import Derived.Test.YtejbdbjccjkfdaaGreatDoorHpLaws
import Derived.Test.YtejbdbjccjkfdaaGreatDoorHpStr
import Derived.Test.YtejbdbjccjkfdaaGreatDoorHpWithin
import Derived.Deep.RegionHeld3
import Derived.Deep.DeepCutAuto
import Derived.Deep.CutBlock
import Derived.Test.YtejbdbjccjkfdaaGreatDoorViIn
namespace Go.Proofs.YtejbdbjccjkfdaaGreatDoor
open Go.RowKit
open An

theorem run_row_text {w : World} {B u : Nat} {d : List UInt8} (h : w.heap[B]? = some (.cells (bc d).toArray 5 (0, 0))) (hd : d.length = u) : (convert 54 9 (.slice (some ⟨B, 0, none⟩) u u)).run Tryz.prog w = .ok (.string ⟨d.toArray⟩) w := by
  rw [run_bytes_string 54 5 9 Tryz.underlying54 Tryz.underlying5 Tryz.underlying9 h 0 u u (by omega), List.drop_zero, List.take_of_length_le (by omega)]
theorem set_byte17 {W w : World} {ts : List (World → (Nat → Prop) → Prop)} (h : Things W w ts) (j : Nat) {B : Nat} {d : List UInt8} {T : TypeId} (hj : ts[j]? = some (Blk B (.cells (bc d).toArray T (0, 0)))) (m z : Nat) (_hz : z < 1000000) : Things W (w.setCell ⟨B, m, none⟩ (.int .u8 ((z : Int) % 256))) (ts.set j (Blk B (.cells (bc (d.set m (UInt8.ofNat (z % 256)))).toArray T (0, 0)))) := by
  have e : ((z : Int) % 256) = (((UInt8.ofNat (z % 256)).toNat : Nat) : Int) := by simp
  rw [e, ← bc_set]
  exact h.setAt j hj m _
set_option maxRecDepth 20000 in
set_option maxHeartbeats 4000000 in
theorem apart_walk {W : World} (gr : G17 W) {c : C17} {sad : Option Addr} {cap : Nat} {l : List O17} (hc : CfgH W c) (ho : OpsH W sad l) (hmax : l.length ≤ maxLen) : Calls Tryz.prog 3 #[c.val, .slice sad l.length cap] W fun e w' => e = .returned (.bool true) ∧ Nw W w' := by
  have GR := hid gr
  have HO := hid ho
  have HCF := hid hc
  have HA : Hid (∀ w, Nw W w → Calls Tryz.prog 6 #[] w fun e w' => e = .returned (.bool true) ∧ Fr (fun _ => False) w w') := fun w h => (awake_any (Nw.start w) (gr.fr h.fr)).mono fun e w' ⟨h1, h2⟩ => ⟨h1, h2.fr⟩
  have hmax' := hmax
  unfold maxLen at hmax'
  obtain ⟨P, K, adA, cA, A, adB, cB, B⟩ := c
  have T0 : Hid (Things W (W.alloc (.cells #[.int .i64 P, .int .i64 K, .slice adA A.length cA, .slice adB B.length cB] 26)) [Blk W.heap.size (.cells #[.int .i64 P, .int .i64 K, .slice adA A.length cA, .slice adB B.length cB] 26 (0, 0))]) := (Things.start (Nw.start W)).blk _
  by_cases ok : Cq.Cfg P K
  case neg =>
    have HM := hid (made_no T0.out (c := ⟨P, K, adA, cA, A, adB, cB, B⟩) ok)
    clear gr hc ho ok hmax
    unfold C17.val at HM ⊢
    simp only at HM ⊢
    go_enter Tryz.func3, Tryz.ntmps3
    go_wp2_with fail
    refine HM.out.mono ?_
    rintro e w1 ⟨rfl, h1⟩
    have N1 := hid h1.nw
    clear h1 HM
    go_wp2_with fail
    refine (HA.out _ N1.out).mono ?_
    rintro e w2 ⟨rfl, h2⟩
    have N2 := hid (N1.out.kept h2)
    clear h2
    go_wp2_with fail
    refine (HA.out _ N2.out).mono ?_
    rintro e w3 ⟨rfl, h3⟩
    go_wp2
    go_ret
    exact ⟨by simp, N2.out.kept h3⟩
  obtain ⟨n, rfl⟩ : ∃ n : Nat, P = (n : Int) := ⟨P.toNat, by have := ok.2.2.1; omega⟩
  obtain ⟨k, rfl⟩ : ∃ k : Nat, K = (k : Int) := ⟨K.toNat, by have := ok.1; omega⟩
  have hmm := @run_makeMap Tryz.prog
  have HM := hid (made1 T0.out gr hc ok)
  have HLG : Hid (∀ w, Nw W w → Calls Tryz.prog 7 #[C17.val ⟨n, k, adA, cA, A, adB, cB, B⟩, .slice sad l.length cap] w fun e w' => LongR ⟨n, k, adA, cA, A, adB, cB, B⟩ l e ∧ Fr (fun _ => False) w w') := fun w h => long_any (ho.fr h.fr) (hc.fr h.fr) hmax
  have HT2 := hid (two_new ok hc.la hc.lb)
  clear gr hc ho hmax
  unfold C17.val at HM HLG ⊢
  simp only at HM HLG ⊢
  go_enter Tryz.func3, Tryz.ntmps3
  go_wp2_with fail
  refine HM.out.mono ?_
  rintro e w1 ⟨p, a, m, h, t, h', t', x, y, r, r', rfl, h1⟩
  have T1 : Hid (Things W w1 [Blk W.heap.size (.cells #[.int .i64 n, .int .i64 k, .slice adA A.length cA, .slice adB B.length cB] 26 (0, 0)), Anyt, Blk p (.cells (pairC a m h h' x y r r') 41 (0, 0)), S2 a m k (mN n) h t (hN A) h' t' (hN B), D2 x y k (mN n) r (hN A) r' (hN B)]) := h1
  clear h1 HM T0
  go_wp2_with fail
  refine (HA.out _ T1.out.nw).mono ?_
  rintro e w2 ⟨rfl, h2⟩
  have T2 := hid (T1.out.kept h2)
  have b0 : w2.cell? ⟨W.heap.size, 0, none⟩ = some (.int .i64 n) := box_cell (T2.out.cells 0 rfl) 0 rfl
  have b1 : w2.cell? ⟨W.heap.size, 1, none⟩ = some (.int .i64 k) := box_cell (T2.out.cells 0 rfl) 1 rfl
  have b2 : w2.cell? ⟨W.heap.size, 2, none⟩ = some (.slice adA A.length cA) := box_cell (T2.out.cells 0 rfl) 2 rfl
  have b3 : w2.cell? ⟨W.heap.size, 3, none⟩ = some (.slice adB B.length cB) := box_cell (T2.out.cells 0 rfl) 3 rfl
  clear h2 T1
  go_wp2_with fail
  refine (HLG.out _ T2.out.nw).mono ?_
  rintro e w3 ⟨⟨b, rfl, hsh⟩, h3⟩
  have T3 := hid (T2.out.kept h3)
  clear h3 T2 HLG b0 b1 b2 b3
  cases b with
  | true =>
    go_wp2_with fail
    refine (HA.out _ T3.out.nw).mono ?_
    rintro e w4 ⟨rfl, h4⟩
    go_wp2
    go_ret
    exact ⟨by simp, T3.out.nw.kept h4⟩
  | false =>
    have HSH := hid (hsh rfl)
    clear hsh HA
    have pb2 : w3.cell? ⟨p, 2, none⟩ = some (.pointer (some ⟨h, 0, none⟩)) := box_cell (T3.out.cells 2 rfl) 2 rfl
    have T4 : Hid (Things W (w3.alloc (.map #[] 0)) ([Blk W.heap.size (.cells #[.int .i64 n, .int .i64 k, .slice adA A.length cA, .slice adB B.length cB] 26 (0, 0)), Anyt, Blk p (.cells (pairC a m h h' x y r r') 41 (0, 0)), S2 a m k (mN n) h t (hN A) h' t' (hN B), D2 x y k (mN n) r (hN A) r' (hN B)] ++ [Mst w3.heap.size 0 (fun _ => none) 0])) := T3.out.map
    have AP0 : Hid (Apa k (roomB 0 0) (mN n) (hN A) (hN B) (fun _ => none) 0 ∧ (0 : Nat) ≤ 0 ∧ (0 : Nat) ≤ 0 ∧ (mN n).has.length = n) := ⟨Apa.new (HT2.out.less (by omega)) rfl, by omega, by omega, by simp [mN]⟩
    have hlen : l.length ≤ 250 := HSH.out.len
    have hn512 : n ≤ 512 := by have := HSH.out.P; simp only at this; omega
    have HWN : Hid (∀ i (hi : i < l.length), l[i].W.length ≤ 1500) := HSH.out.ops
    clear HT2 HSH HCF hmax' T3
    go_wp2
    generalize w3.heap.size = Bm at *
    clear pb2
    go_loopw [50] (fun i wr => ∃ (j mm aa : Nat) (M : Ms) (H : Hp) (f : Int → Option (List UInt8)) (cnt nn : Nat), j ≤ l.length ∧ mm + aa ≤ j ∧ i = .int .i64 j ∧ Hid (Apa k (roomB mm aa) M H (hN B) f cnt ∧ cnt ≤ mm ∧ nn ≤ mm ∧ M.has.length = n) ∧ Hid (Things W wr [Blk W.heap.size (.cells #[.int .i64 n, .int .i64 k, .slice adA A.length cA, .slice adB B.length cB] 26 (0, 0)), Anyt, Blk p (.cells (pairC a m h h' x y r r') 41 (0, 0)), S2 a m k (M) h t (H) h' t' (hN B), D2 x y k (mN n) r (hN A) r' (hN B), Mst Bm nn f cnt])) (fun i _ => l.length - (intOf i).toNat)
    case atStart => exact ⟨0, 0, 0, _, _, _, _, _, by omega, by omega, rfl, AP0, T4⟩
    case round =>
      clear T4 AP0
      obtain ⟨j, mm, aa, M, H, f, cnt, nn, hj, hma, rfl, AP, T⟩ := hrel
      by_cases hlt : j < l.length
      case neg =>
        obtain rfl : l.length = j := by omega
        go_wp2
        go_ret
        exact ⟨by simp, T.out.nw⟩
      obtain ⟨bb, off, rfl, hbb, hc1, hc2, hc3, hc4, i1, i2, hnw, hwl⟩ := HO.out.fr T.out.nw.fr j hlt
      have hW15 := HWN.out j hlt
      have hroom := room_le (m := mm) (a := aa) (by omega)
      generalize l[j] = o at hc1 hc2 hc3 hc4 i1 i2 hnw hwl hW15
      obtain ⟨kd, N, two, oad, ocap, oW⟩ := o
      simp only at hc1 hc2 hc3 hc4 i1 i2 hnw hwl hW15
      have HNW := hid hnw
      have TB : Hid (Things W (wr.alloc (.cells #[.int .i64 kd, .int .i64 N, .bool two, .slice oad oW.length ocap] 44)) [Blk W.heap.size (.cells #[.int .i64 n, .int .i64 k, .slice adA A.length cA, .slice adB B.length cB] 26 (0, 0)), Anyt, Blk p (.cells (pairC a m h h' x y r r') 41 (0, 0)), S2 a m k (M) h t (H) h' t' (hN B), D2 x y k (mN n) r (hN A) r' (hN B), Mst Bm nn f cnt, Blk wr.heap.size (.cells #[.int .i64 kd, .int .i64 N, .bool two, .slice oad oW.length ocap] 44 (0, 0))]) := T.out.blk _
      clear hnw HO HWN T
      go_upto_block 2 with fail
      generalize wr.heap.size = Bo at *
      go_cut [10] (fun _ wx => ∃ (mm aa : Nat) (M : Ms) (H : Hp) (f : Int → Option (List UInt8)) (cnt nn bb : Nat), mm + aa ≤ j + 1 ∧ Hid (Apa k bb M H (hN B) f cnt ∧ cnt ≤ mm ∧ nn ≤ mm ∧ bb + 18 * mm ≤ roomB mm aa ∧ M.has.length = n) ∧ Hid (Things W wx [Blk W.heap.size (.cells #[.int .i64 n, .int .i64 k, .slice adA A.length cA, .slice adB B.length cB] 26 (0, 0)), Anyt, Blk p (.cells (pairC a m h h' x y r r') 41 (0, 0)), S2 a m k (M) h t (H) h' t' (hN B), D2 x y k (mN n) r (hN A) r' (hN B), Mst Bm nn f cnt, Blk Bo (.cells #[.int .i64 kd, .int .i64 N, .bool two, .slice oad oW.length ocap] 44 (0, 0))]))
      case first =>
        by_cases hk5 : kd = 5
        case pos =>
          as_aux_lemma =>
            subst hk5
            have hsz : (wr.alloc (.cells #[.int .i64 5, .int .i64 N, .bool two, .slice oad oW.length ocap] 44)).heap.size = wr.heap.size + 1 := World.size_alloc _ _
            have HD5 : Hid (∃ ad5 cap5 v5, (Builtin.append_ #[24, 24] 24 #[.slice (some ⟨wr.heap.size + 1, 0, none⟩) 0 0, .slice oad oW.length ocap]).run Tryz.prog ((wr.alloc (.cells #[.int .i64 5, .int .i64 N, .bool two, .slice oad oW.length ocap] 44)).alloc (.cells #[] 3)) = .ok (.slice ad5 oW.length cap5) v5 ∧ Things W v5 [Blk W.heap.size (.cells #[.int .i64 n, .int .i64 k, .slice adA A.length cA, .slice adB B.length cB] 26 (0, 0)), Anyt, Blk p (.cells (pairC a m h h' x y r r') 41 (0, 0)), S2 a m k (M) h t (H) h' t' (hN B), D2 x y k (mN n) r (hN A) r' (hN B), Mst Bm nn f cnt, Blk Bo (.cells #[.int .i64 5, .int .i64 N, .bool two, .slice oad oW.length ocap] 44 (0, 0)), Lv ad5 oW]) := by
              obtain ⟨ad5, cap5, v5, hru5, hnu5, hfr5, hnew5⟩ := run_dup (w := wr.alloc (.cells #[.int .i64 5, .int .i64 N, .bool two, .slice oad oW.length ocap] 44)) (ad := oad) (l := oW) 24 ocap (HNW.out.fr ((Fr.refl _ _).alloc _)) hwl
              rw [hsz] at hru5
              exact ⟨ad5, cap5, v5, hru5, TB.out.more (Lv.good _ _) (Lv.new hnu5) hfr5 fun j ⟨⟨off, e⟩, h0⟩ => ⟨hnew5 j off e, (Lv.new hnu5).2.2 j ⟨⟨off, e⟩, h0⟩⟩⟩
            obtain ⟨ad5, cap5, v5, hru5, tf5⟩ := HD5.out
            have TF5 := hid tf5
            have HM5 : Hid (Calls Tryz.prog 17 #[.pointer (some ⟨h, 0, none⟩), .slice ad5 oW.length cap5] v5 fun e w' => e = .returned (.int .i64 (hMo k M H oW).2.2) ∧ Things W w' [Blk W.heap.size (.cells #[.int .i64 n, .int .i64 k, .slice adA A.length cA, .slice adB B.length cB] 26 (0, 0)), Anyt, Blk p (.cells (pairC a m h h' x y r r') 41 (0, 0)), S2 a m k ((hMo k M H oW).1) h t ((hMo k M H oW).2.1) h' t' (hN B), D2 x y k (mN n) r (hN A) r' (hN B), Mst Bm nn f cnt, Blk Bo (.cells #[.int .i64 5, .int .i64 N, .bool two, .slice oad oW.length ocap] 44 (0, 0)), Non]) := t_move TF5.out GR.out 3 7 rfl rfl (by decide) AP.out.1.tw (by omega) (by omega) cap5
            have pa5 : ((wr.alloc (.cells #[.int .i64 5, .int .i64 N, .bool two, .slice oad oW.length ocap] 44)).alloc (.cells #[] 3)).cell? ⟨Bo, 3, none⟩ = some (.slice oad oW.length ocap) := box_cell (Things.cells (TB.out.kept ((Fr.refl _ _).alloc _)) 6 rfl) 3 rfl
            have AM : Hid (Apa k (roomB mm aa + 3 * n) (hMo k M H oW).1 (hMo k M H oW).2.1 (hN B) f cnt ∧ (hMo k M H oW).1.has.length = n) := by
              have h1 := AP.out.1.move (W := oW) (by omega)
              have h2 := mv_len AP.out.1.tw oW
              rw [AP.out.2.2.2] at h1 h2
              exact ⟨h1, h2⟩
            have hcm := AP.out.2.1
            have hnm := AP.out.2.2.1
            have hra := room_a mm aa
            clear tf5 HD5 TB HNW hsz AP hwl hW15
            generalize oW.length = ol at *
            go_wp2_with (first | (at_builtin; refine wpList_app17 rfl (.tmp 215) (.tmp 217) 24 24 rfl rfl rfl hru5 ?_) | fail)
            refine HM5.out.mono ?_
            rintro e v6 ⟨rfl, g6⟩
            have T6 := hid g6
            clear g6
            go_wp2_with fail
            go_meet
            exact ⟨mm, aa + 1, _, _, f, cnt, nn, roomB mm aa + 3 * n, by omega, ⟨AM.out.1, hcm, hnm, by omega, AM.out.2⟩, Things.less (ts := [Blk W.heap.size (.cells #[.int .i64 n, .int .i64 k, .slice adA A.length cA, .slice adB B.length cB] 26 (0, 0)), Anyt, Blk p (.cells (pairC a m h h' x y r r') 41 (0, 0)), S2 a m k ((hMo k M H oW).1) h t ((hMo k M H oW).2.1) h' t' (hN B), D2 x y k (mN n) r (hN A) r' (hN B), Mst Bm nn f cnt, Blk Bo (.cells #[.int .i64 5, .int .i64 N, .bool two, .slice oad ol ocap] 44 (0, 0))]) T6.out⟩
        case neg =>
          by_cases hk1 : kd = 1 ∨ kd = 4
          case pos =>
            have hk2 : kd = 1 ∨ (¬ kd = 1 ∧ kd = 4) := by omega
            clear hk1
            rcases hk2 with rfl | ⟨hk0, rfl⟩
            · as_aux_lemma =>
                have HW := hid (hM_had AP.out.1.tw.ok AP.out.1.tw.ms (hM_ways (fun _ => id) AP.out.1.tw.ok AP.out.1.tw.ms N : MWay (fun q => Cq.inW k H.W q = true) k M H N (hM k M H N)))
                have HMA := hid fun (w : World) (q : Things W w [Blk W.heap.size (.cells #[.int .i64 n, .int .i64 k, .slice adA A.length cA, .slice adB B.length cB] 26 (0, 0)), Anyt, Blk p (.cells (pairC a m h h' x y r r') 41 (0, 0)), S2 a m k (M) h t (H) h' t' (hN B), D2 x y k (mN n) r (hN A) r' (hN B), Mst Bm nn f cnt, Blk Bo (.cells #[.int .i64 1, .int .i64 N, .bool two, .slice oad oW.length ocap] 44 (0, 0))]) => t_malloc q GR.out 3 rfl AP.out.1.tw (by omega) i2
                have bN : (wr.alloc (.cells #[.int .i64 1, .int .i64 N, .bool two, .slice oad oW.length ocap] 44)).cell? ⟨Bo, 1, none⟩ = some (.int .i64 N) := box_cell (TB.out.cells 6 rfl) 1 rfl
                go_wp2_with fail
                refine (HMA.out _ TB.out).mono ?_
                rintro e v2 ⟨rfl, g2⟩
                have T2 : Hid (Things W v2 [Blk W.heap.size (.cells #[.int .i64 n, .int .i64 k, .slice adA A.length cA, .slice adB B.length cB] 26 (0, 0)), Anyt, Blk p (.cells (pairC a m h h' x y r r') 41 (0, 0)), S2 a m k ((hM k M H N).1) h t ((hM k M H N).2.1) h' t' (hN B), D2 x y k (mN n) r (hN A) r' (hN B), Mst Bm nn f cnt, Blk Bo (.cells #[.int .i64 1, .int .i64 N, .bool two, .slice oad oW.length ocap] 44 (0, 0))]) := g2
                clear g2 TB HMA HNW hwl hW15 hc2 hc3 hc4 bN
                have TM := hid (AP.out.1.tw.malloc N)
                have ML := hid ((ml_len AP.out.1.tw N).trans AP.out.2.2.2)
                have HZ := hid fun (M1 : Ms) (H1 : Hp) (a1 E : Int) (c s j : Nat) (hr : hM k M H N = (M1, H1, a1, E)) (g : Gave (fun q => Cq.inW k H.W q = true) M H N M1 H1 a1 c s j) => AP.out.1.zero hr g
                have HFH := hid fun (M1 : Ms) (H1 : Hp) (a1 E : Int) (c s j : Nat) (hr : hM k M H N = (M1, H1, a1, E)) (g : Gave (fun q => Cq.inW k H.W q = true) M H N M1 H1 a1 c s j) => AP.out.1.fresh hr g
                have HAL := hid fun (M1 : Ms) (H1 : Hp) (a1 E : Int) (c s j : Nat) (hr : hM k M H N = (M1, H1, a1, E)) (g : Gave (fun q => Cq.inW k H.W q = true) M H N M1 H1 a1 c s j) (ds : List UInt8) (hd : ds.length = (unitI c).toNat) (ss' : List Sp) (hs : ss'.length ≤ roomB mm aa + 60) => AP.out.1.malloc hr g hd (b' := roomB mm aa + 60) (ss' := ss') hs (by omega)
                have hra := room_a mm aa
                have hrm := room_m mm aa
                have hcm := AP.out.2.1
                have hnm := AP.out.2.2.1
                generalize hM k M H N = rr at *
                obtain ⟨MM, HH, av, ev⟩ := rr
                simp only at *
                by_cases he : ev = 0
                case neg =>
                  obtain ⟨-, e2, e3, -⟩ := HW.out.resolve_right fun e => he e.1
                  subst e2
                  subst e3
                  clear HW HZ HFH HAL TM ML
                  go_wp2_with fail
                  go_meet
                  exact ⟨mm, aa + 1, _, _, f, cnt, nn, roomB mm aa, by omega, ⟨AP.out.1, hcm, hnm, by omega, AP.out.2.2.2⟩, T2⟩
                case pos =>
                  subst he
                  obtain ⟨-, cc, ss, jj, hg⟩ := HW.out.resolve_left fun e => e.1 rfl
                  obtain ⟨hz, hve, hhad, hpt⟩ := HZ.out _ _ _ _ _ _ _ rfl hg
                  have HFR := hid (HFH.out _ _ _ _ _ _ _ rfl hg)
                  have HAP := hid (HAL.out _ _ _ _ _ _ _ rfl hg)
                  have hat := hg.at_
                  obtain ⟨q1, q2, q3, q4, q5⟩ := had_ask hg.kd hpt
                  have hkd := hg.kd
                  have hF0 := findR_of hpt
                  have hcc := hpt.kind
                  have hun := unitI_range cc hcc.1 hcc.2
                  have hi64 : I64 (adI cc ss jj) := by have := hpt.inside; exact ⟨by omega, by omega⟩
                  have HHU : hUs HH cc ss jj 0 = (unitI cc, 0) := had_us TM.out.ok hhad
                  have hpos : 131072 ≤ adI cc ss jj ∧ adI cc ss jj ≤ 3276800 := by have := hpt.inside; omega
                  rw [← hat] at hF0 hi64 q3 q5 hpos
                  have HUS := hid fun (w : World) (q : Things W w [Blk W.heap.size (.cells #[.int .i64 n, .int .i64 k, .slice adA A.length cA, .slice adB B.length cB] 26 (0, 0)), Anyt, Blk p (.cells (pairC a m h h' x y r r') 41 (0, 0)), S2 a m k (MM) h t (HH) h' t' (hN B), D2 x y k (mN n) r (hN A) r' (hN B), Mst Bm nn f cnt, Blk Bo (.cells #[.int .i64 1, .int .i64 N, .bool two, .slice oad oW.length ocap] 44 (0, 0))]) => t_usable q GR.out 3 rfl TM.out (by omega) hF0 hi64
                  rw [HHU] at HUS
                  obtain ⟨u, hu⟩ : ∃ u : Nat, unitI cc = (u : Int) := ⟨(unitI cc).toNat, by omega⟩
                  rw [hu] at HUS hun q1 q2 q5 hz hve HFR HAP
                  rw [Int.toNat_natCast] at hz HAP
                  have HTA := hid fun (w : World) (g : Things W w [Blk W.heap.size (.cells #[.int .i64 n, .int .i64 k, .slice adA A.length cA, .slice adB B.length cB] 26 (0, 0)), Anyt, Blk p (.cells (pairC a m h h' x y r r') 41 (0, 0)), S2 a m k (MM) h t (HH) h' t' (hN B), D2 x y k (mN n) r (hN A) r' (hN B), Mst Bm nn f cnt, Blk Bo (.cells #[.int .i64 1, .int .i64 N, .bool two, .slice oad oW.length ocap] 44 (0, 0))]) => t_table g 3 rfl
                  have HTB := hid fun (w : World) (ts : List (World → (Nat → Prop) → Prop)) (ss2 : List Sp) (g : Things W w ts) (hj : ts[3]? = some (S2 a m k (⟨MM.has, MM.bs, ss2⟩) h t (HH) h' t' (hN B))) => t_table g 3 hj
                  have HRD : Hid (∀ (w : World), Things W w [Blk W.heap.size (.cells #[.int .i64 n, .int .i64 k, .slice adA A.length cA, .slice adB B.length cB] 26 (0, 0)), Anyt, Blk p (.cells (pairC a m h h' x y r r') 41 (0, 0)), S2 a m k (MM) h t (HH) h' t' (hN B), D2 x y k (mN n) r (hN A) r' (hN B), Mst Bm nn f cnt, Blk Bo (.cells #[.int .i64 1, .int .i64 N, .bool two, .slice oad oW.length ocap] 44 (0, 0))] → Calls Tryz.prog 10 #[.pointer (some ⟨a, 0, none⟩), .pointer (some ⟨t, 0, none⟩), .int .i64 av, .int .i64 (u : Int)] w fun e w' => ∃ (ss2 : List Sp), e = .returned (.tuple #[.string ⟨(zs u).toArray⟩, .int .i64 0]) ∧ ss2.length ≤ roomB mm aa + 30 ∧ Things W w' [Blk W.heap.size (.cells #[.int .i64 n, .int .i64 k, .slice adA A.length cA, .slice adB B.length cB] 26 (0, 0)), Anyt, Blk p (.cells (pairC a m h h' x y r r') 41 (0, 0)), S2 a m k (⟨MM.has, MM.bs, ss2⟩) h t (HH) h' t' (hN B), D2 x y k (mN n) r (hN A) r' (hN B), Mst Bm nn f cnt, Blk Bo (.cells #[.int .i64 1, .int .i64 N, .bool two, .slice oad oW.length ocap] 44 (0, 0))]) := fun w g => by
                    refine (t_read g 3 rfl TM.out (by omega) hi64 ⟨by omega, by omega⟩ (by omega)).mono ?_
                    rintro e w' ⟨rfl, g2⟩
                    refine ⟨_, by rw [hz, hve]; rfl, ?_, g2⟩
                    have h1 := (read_few TM.out.ok.tp.tb MM.bs.length MM.ss av (n := (u : Int)) (by omega)).1
                    have h2 := TM.out.ss
                    omega
                  have HWR : Hid (∀ (w : World) (ss2 : List Sp) (d : List UInt8), ss2.length ≤ roomB mm aa + 30 → d.length = u → Things W w [Blk W.heap.size (.cells #[.int .i64 n, .int .i64 k, .slice adA A.length cA, .slice adB B.length cB] 26 (0, 0)), Anyt, Blk p (.cells (pairC a m h h' x y r r') 41 (0, 0)), S2 a m k (⟨MM.has, MM.bs, ss2⟩) h t (HH) h' t' (hN B), D2 x y k (mN n) r (hN A) r' (hN B), Mst Bm (nn + 1) (fun y => if y = av then some d else f y) (cnt + 1), Blk Bo (.cells #[.int .i64 1, .int .i64 N, .bool two, .slice oad oW.length ocap] 44 (0, 0))] → Calls Tryz.prog 16 #[.pointer (some ⟨a, 0, none⟩), .pointer (some ⟨t, 0, none⟩), .int .i64 av, .string ⟨d.toArray⟩] w fun e w' => ∃ (E : Int) (ss3 : List Sp), e = .returned (.int .i64 E) ∧ ss3.length ≤ roomB mm aa + 60 ∧ Things W w' [Blk W.heap.size (.cells #[.int .i64 n, .int .i64 k, .slice adA A.length cA, .slice adB B.length cB] 26 (0, 0)), Anyt, Blk p (.cells (pairC a m h h' x y r r') 41 (0, 0)), S2 a m k (⟨MM.has, vwB HH.T MM.bs av d, ss3⟩) h t (HH) h' t' (hN B), D2 x y k (mN n) r (hN A) r' (hN B), Mst Bm (nn + 1) (fun y => if y = av then some d else f y) (cnt + 1), Blk Bo (.cells #[.int .i64 1, .int .i64 N, .bool two, .slice oad oW.length ocap] 44 (0, 0))]) := fun w ss2 d h2 hd g => by
                    have hsz : (⟨d.toArray⟩ : ByteArray).size = u := by simp [ByteArray.size, hd]
                    have tw : Two k (roomB mm aa + 30) ⟨MM.has, MM.bs, ss2⟩ HH (hN B) := TM.out.notes' h2
                    refine (t_write g 3 rfl tw (by omega) hi64 ⟨d.toArray⟩ (by rw [hsz]; omega)).mono ?_
                    rintro e w' ⟨rfl, g2⟩
                    rw [hsz] at g2
                    refine ⟨_, _, rfl, ?_, g2⟩
                    exact Nat.le_trans (read_few TM.out.ok.tp.tb MM.bs.length ss2 av (n := (u : Int)) (by omega)).2 (by omega)
                  have HCH : Hid (∀ (w : World) (ts : List (World → (Nat → Prop) → Prop)), Things W w ts → Calls Tryz.prog 12 #[.int .i64 N] w fun e w' => e = .returned (.int .i64 (u : Int)) ∧ Things W w' ts) := fun w ts g => (r_charge N (K.start (GR.out.fr g.nw.fr).1)).mono fun e w' ⟨he, hk⟩ => ⟨by rw [he, q1], g.kept hk.fr⟩
                  have HOF : Hid (∀ (w : World) (ts : List (World → (Nat → Prop) → Prop)), Things W w ts → Calls Tryz.prog 14 #[.int .i64 N] w fun e w' => e = .returned (.int .i64 (cc : Int)) ∧ Things W w' ts) := fun w ts g => (k_of N (K.start (GR.out.fr g.nw.fr).1)).mono fun e w' ⟨he, hk⟩ => ⟨by rw [he, hkd], g.kept hk.fr⟩
                  have HAG : Hid (∀ (w : World) (ts : List (World → (Nat → Prop) → Prop)), Things W w ts → Calls Tryz.prog 13 #[.int .i64 (cc : Int)] w fun e w' => e = .returned (.int .i64 (alignI cc)) ∧ Things W w' ts) := fun w ts g => (r_align cc (K.start (GR.out.fr g.nw.fr).1)).mono fun e w' ⟨he, hk⟩ => ⟨he, g.kept hk.fr⟩
                  have HWI : Hid (∀ (w : World) (ts : List (World → (Nat → Prop) → Prop)), Things W w ts → Calls Tryz.prog 15 #[.int .i64 av, .int .i64 (u : Int)] w fun e w' => e = .returned (.bool true) ∧ Things W w' ts) := fun w ts g => (wt_any av u (K.start (GR.out.fr g.nw.fr).1)).mono fun e w' ⟨he, hk⟩ => ⟨by rw [he, decide_eq_true q5], g.kept hk.fr⟩
                  clear HW HZ HFH HAL hg hz hve hhad hpt hF0 hcc HHU hat hkd q1 q5 hu
                  generalize alignI cc = al at *
                  go_wp2_with fail
                  refine (HUS.out _ T2.out).mono ?_
                  rintro e v3 ⟨rfl, g3⟩
                  have T3 := hid g3
                  clear g3 T2 HUS
                  have TD : Hid (Things W v3.drew [Blk W.heap.size (.cells #[.int .i64 n, .int .i64 k, .slice adA A.length cA, .slice adB B.length cB] 26 (0, 0)), Anyt, Blk p (.cells (pairC a m h h' x y r r') 41 (0, 0)), S2 a m k (MM) h t (HH) h' t' (hN B), D2 x y k (mN n) r (hN A) r' (hN B), Mst Bm nn f cnt, Blk Bo (.cells #[.int .i64 1, .int .i64 N, .bool two, .slice oad oW.length ocap] 44 (0, 0))]) := T3.out.kept (Fr.refl _ _).drew
                  have pc : v3.drew.cell? ⟨p, 0, none⟩ = some (.pointer (some ⟨a, 0, none⟩)) := box_cell (TD.out.cells 2 rfl) 0 rfl
                  clear T3
                  go_wp2_with fail
                  go_region_held3 (fun w' => w'.cell? ⟨p, 0, none⟩ = some (.pointer (some ⟨a, 0, none⟩))) (first | assumption | go_keep) (first | (go_at_call 11; refine (HTA.out _ TD.out).mono ?_; rintro e v4 ⟨rfl, g4⟩; have T4 : Hid (Things W v4 [Blk W.heap.size (.cells #[.int .i64 n, .int .i64 k, .slice adA A.length cA, .slice adB B.length cB] 26 (0, 0)), Anyt, Blk p (.cells (pairC a m h h' x y r r') 41 (0, 0)), S2 a m k (MM) h t (HH) h' t' (hN B), D2 x y k (mN n) r (hN A) r' (hN B), Mst Bm nn f cnt, Blk Bo (.cells #[.int .i64 1, .int .i64 N, .bool two, .slice oad oW.length ocap] 44 (0, 0))]) := g4; clear g4; have pc4 : v4.cell? ⟨p, 0, none⟩ = some (.pointer (some ⟨a, 0, none⟩)) := box_cell (T4.out.cells 2 rfl) 0 rfl) | (go_at_call 10; refine (HRD.out _ T4.out).mono ?_; rintro e v5 ⟨ss2, rfl, hs5, g5⟩; have T5 : Hid (Things W v5 [Blk W.heap.size (.cells #[.int .i64 n, .int .i64 k, .slice adA A.length cA, .slice adB B.length cB] 26 (0, 0)), Anyt, Blk p (.cells (pairC a m h h' x y r r') 41 (0, 0)), S2 a m k (⟨MM.has, MM.bs, ss2⟩) h t (HH) h' t' (hN B), D2 x y k (mN n) r (hN A) r' (hN B), Mst Bm nn f cnt, Blk Bo (.cells #[.int .i64 1, .int .i64 N, .bool two, .slice oad oW.length ocap] 44 (0, 0))]) := g5; have HS2 := hid hs5; clear g5 hs5; have pc5 : v5.cell? ⟨p, 0, none⟩ = some (.pointer (some ⟨a, 0, none⟩)) := box_cell (T5.out.cells 2 rfl) 0 rfl))
                  have d1 : v5.cell? ⟨Bo, 1, none⟩ = some (.int .i64 N) := box_cell (T5.out.cells 6 rfl) 1 rfl
                  clear TD T4 HTA HRD
                  go_wp2_with fail
                  refine (HCH.out _ _ T5.out).mono ?_
                  rintro e v6 ⟨rfl, g6⟩
                  have T6 : Hid (Things W v6 [Blk W.heap.size (.cells #[.int .i64 n, .int .i64 k, .slice adA A.length cA, .slice adB B.length cB] 26 (0, 0)), Anyt, Blk p (.cells (pairC a m h h' x y r r') 41 (0, 0)), S2 a m k (⟨MM.has, MM.bs, ss2⟩) h t (HH) h' t' (hN B), D2 x y k (mN n) r (hN A) r' (hN B), Mst Bm nn f cnt, Blk Bo (.cells #[.int .i64 1, .int .i64 N, .bool two, .slice oad oW.length ocap] 44 (0, 0))]) := g6
                  have d2 : v6.cell? ⟨Bo, 1, none⟩ = some (.int .i64 N) := box_cell (T6.out.cells 6 rfl) 1 rfl
                  clear g6 T5 HCH d1
                  go_wp2_with fail
                  refine (HOF.out _ _ T6.out).mono ?_
                  rintro e v7 ⟨rfl, g7⟩
                  have T7 : Hid (Things W v7 [Blk W.heap.size (.cells #[.int .i64 n, .int .i64 k, .slice adA A.length cA, .slice adB B.length cB] 26 (0, 0)), Anyt, Blk p (.cells (pairC a m h h' x y r r') 41 (0, 0)), S2 a m k (⟨MM.has, MM.bs, ss2⟩) h t (HH) h' t' (hN B), D2 x y k (mN n) r (hN A) r' (hN B), Mst Bm nn f cnt, Blk Bo (.cells #[.int .i64 1, .int .i64 N, .bool two, .slice oad oW.length ocap] 44 (0, 0))]) := g7
                  clear g7 T6 HOF d2
                  go_wp2_with fail
                  refine (HAG.out _ _ T7.out).mono ?_
                  rintro e v8 ⟨rfl, g8⟩
                  have T8 : Hid (Things W v8 [Blk W.heap.size (.cells #[.int .i64 n, .int .i64 k, .slice adA A.length cA, .slice adB B.length cB] 26 (0, 0)), Anyt, Blk p (.cells (pairC a m h h' x y r r') 41 (0, 0)), S2 a m k (⟨MM.has, MM.bs, ss2⟩) h t (HH) h' t' (hN B), D2 x y k (mN n) r (hN A) r' (hN B), Mst Bm nn f cnt, Blk Bo (.cells #[.int .i64 1, .int .i64 N, .bool two, .slice oad oW.length ocap] 44 (0, 0))]) := g8
                  clear g8 T7 HAG
                  go_wp2_with fail
                  refine (HWI.out _ _ T8.out).mono ?_
                  rintro e v9 ⟨rfl, g9⟩
                  have T9 : Hid (Things W v9 [Blk W.heap.size (.cells #[.int .i64 n, .int .i64 k, .slice adA A.length cA, .slice adB B.length cB] 26 (0, 0)), Anyt, Blk p (.cells (pairC a m h h' x y r r') 41 (0, 0)), S2 a m k (⟨MM.has, MM.bs, ss2⟩) h t (HH) h' t' (hN B), D2 x y k (mN n) r (hN A) r' (hN B), Mst Bm nn f cnt, Blk Bo (.cells #[.int .i64 1, .int .i64 N, .bool two, .slice oad oW.length ocap] 44 (0, 0))]) := g9
                  have hmk1 := run_make_bytes v9 u (by omega)
                  have hcv1 := run_made_text v9 u
                  have TA : Hid (Things W (v9.alloc (.cells (bc (zs u)).toArray 5)) [Blk W.heap.size (.cells #[.int .i64 n, .int .i64 k, .slice adA A.length cA, .slice adB B.length cB] 26 (0, 0)), Anyt, Blk p (.cells (pairC a m h h' x y r r') 41 (0, 0)), S2 a m k (⟨MM.has, MM.bs, ss2⟩) h t (HH) h' t' (hN B), D2 x y k (mN n) r (hN A) r' (hN B), Mst Bm nn f cnt, Blk Bo (.cells #[.int .i64 1, .int .i64 N, .bool two, .slice oad oW.length ocap] 44 (0, 0))]) := T9.out.kept ((Fr.refl _ _).alloc _)
                  have HLI : Hid (∀ z d, f z = some d → 131072 ≤ z ∧ z ≤ 3276800 ∧ d.length ≤ 8192) := fun z d hz => AP.out.1.lies hz
                  have HZL : Hid ((zs u).length = u) := zs_length u
                  clear g9 T8 T9 HWI q3 q4 AP TM
                  generalize zs u = zz at *
                  go_wp2_with (first | (at_range; refine wp_range rfl (.tmp 160) rfl rfl (TA.out.os 5 rfl) ?_; intro wb hRb hFb; have TB : Hid (Things W wb [Blk W.heap.size (.cells #[.int .i64 n, .int .i64 k, .slice adA A.length cA, .slice adB B.length cB] 26 (0, 0)), Anyt, Blk p (.cells (pairC a m h h' x y r r') 41 (0, 0)), S2 a m k (⟨MM.has, MM.bs, ss2⟩) h t (HH) h' t' (hN B), D2 x y k (mN n) r (hN A) r' (hN B), Wst Bm (v9.alloc (.cells (bc zz).toArray 5)).heap.size nn f cnt cnt, Blk Bo (.cells #[.int .i64 1, .int .i64 N, .bool two, .slice oad oW.length ocap] 44 (0, 0))]) := TA.out.walkOn 5 rfl (Nat.le_refl _) hRb hFb; clear hRb hFb) | go_in)
                  try go_frame
                  clear hmk1 hcv1 TA q2
                  generalize (v9.alloc (.cells (bc zz).toArray 5)).heap.size = rr at *
                  go_loopw [] (fun wq => ∃ q : Nat, q ≤ cnt ∧ Hid (Things W wq [Blk W.heap.size (.cells #[.int .i64 n, .int .i64 k, .slice adA A.length cA, .slice adB B.length cB] 26 (0, 0)), Anyt, Blk p (.cells (pairC a m h h' x y r r') 41 (0, 0)), S2 a m k (⟨MM.has, MM.bs, ss2⟩) h t (HH) h' t' (hN B), D2 x y k (mN n) r (hN A) r' (hN B), Wst Bm rr nn f cnt q, Blk Bo (.cells #[.int .i64 1, .int .i64 N, .bool two, .slice oad oW.length ocap] 44 (0, 0))])) (fun wq => wq.rangeLeft Bm rr)
                  case atStart => exact ⟨cnt, by omega, TB⟩
                  case round =>
                    clear TB
                    obtain ⟨q, hq, TQ⟩ := hrel
                    have hmk := run_make_bytes wr u (by omega)
                    have HZY : Hid ((zs u).length = u) := zs_length u
                    generalize zs u = zy at *
                    go_wp2_with (first | (at_next; refine wp_next rfl (.tmp 161) rfl rfl (TQ.out.rg 5 rfl) ?_ ?_; rotate_left; intro z s wc m9 hz hRc hltc hFc hen; have TC : Hid (Things W wc [Blk W.heap.size (.cells #[.int .i64 n, .int .i64 k, .slice adA A.length cA, .slice adB B.length cB] 26 (0, 0)), Anyt, Blk p (.cells (pairC a m h h' x y r r') 41 (0, 0)), S2 a m k (⟨MM.has, MM.bs, ss2⟩) h t (HH) h' t' (hN B), D2 x y k (mN n) r (hN A) r' (hN B), Wst Bm rr nn f cnt m9, Blk Bo (.cells #[.int .i64 1, .int .i64 N, .bool two, .slice oad oW.length ocap] 44 (0, 0))]) := TQ.out.walked 5 rfl hRc hFc; have HLT := hid hltc; have HLF := hid (TQ.out.rg 5 rfl).left; have hap := HFR.out.2 z s hz; have hli := HLI.out z s hz; clear hz hRc hltc hFc TQ; rotate_left))
                    · have TE : Hid (Things W wr [Blk W.heap.size (.cells #[.int .i64 n, .int .i64 k, .slice adA A.length cA, .slice adB B.length cB] 26 (0, 0)), Anyt, Blk p (.cells (pairC a m h h' x y r r') 41 (0, 0)), S2 a m k (⟨MM.has, MM.bs, ss2⟩) h t (HH) h' t' (hN B), D2 x y k (mN n) r (hN A) r' (hN B), Mst Bm nn f cnt, Blk Bo (.cells #[.int .i64 1, .int .i64 N, .bool two, .slice oad oW.length ocap] 44 (0, 0))]) := TQ.out.walkEnd 5 rfl
                      clear TQ HLI
                      have T4 : Hid (Things W (wr.alloc (.cells (bc zy).toArray 5)) [Blk W.heap.size (.cells #[.int .i64 n, .int .i64 k, .slice adA A.length cA, .slice adB B.length cB] 26 (0, 0)), Anyt, Blk p (.cells (pairC a m h h' x y r r') 41 (0, 0)), S2 a m k (⟨MM.has, MM.bs, ss2⟩) h t (HH) h' t' (hN B), D2 x y k (mN n) r (hN A) r' (hN B), Mst Bm nn f cnt, Blk Bo (.cells #[.int .i64 1, .int .i64 N, .bool two, .slice oad oW.length ocap] 44 (0, 0)), Blk wr.heap.size (.cells (bc zy).toArray 5 (0, 0))]) := TE.out.blk _
                      clear TE hmk
                      generalize wr.alloc (.cells (bc zy).toArray 5) = v4 at T4 ⊢
                      generalize wr.heap.size = Bb at T4 ⊢
                      go_loopw [184] (fun i wq => ∃ (z : Nat) (d : List UInt8), z ≤ u ∧ i = .int .i64 z ∧ d.length = u ∧ Hid (Things W wq [Blk W.heap.size (.cells #[.int .i64 n, .int .i64 k, .slice adA A.length cA, .slice adB B.length cB] 26 (0, 0)), Anyt, Blk p (.cells (pairC a m h h' x y r r') 41 (0, 0)), S2 a m k (⟨MM.has, MM.bs, ss2⟩) h t (HH) h' t' (hN B), D2 x y k (mN n) r (hN A) r' (hN B), Mst Bm nn f cnt, Blk Bo (.cells #[.int .i64 1, .int .i64 N, .bool two, .slice oad oW.length ocap] 44 (0, 0)), Blk Bb (.cells (bc d).toArray 5 (0, 0))])) (fun i _ => u - (intOf i).toNat)
                      case atStart => exact ⟨0, zy, by omega, rfl, HZY.out, T4⟩
                      case round =>
                        clear T4 HZY
                        obtain ⟨z, d, hz, rfl, hd, TL⟩ := hrel
                        by_cases hlm : z < u
                        · have hc := row_cell (TL.out.cells 7 rfl) z (by omega)
                          have hfz := row_frozen (TL.out.cells 7 rfl) z
                          generalize d[z].toNat = old at hc
                          go_wp2
                          go_roundw
                          case rel => exact ⟨z + 1, d.set z (UInt8.ofNat ((z * 7 + j + 1) % 256)), by omega, by go_num, by rw [List.length_set]; exact hd, hid (set_byte17 TL.out 7 rfl z (z * 7 + j + 1) (by omega))⟩
                          case measure => simp [intOf]; omega
                        · obtain rfl : u = z := by omega
                          have hwf := wf_small (x := av) (by omega) (by omega)
                          obtain ⟨wd, hst, hOd, fd⟩ := (TL.out.os 5 rfl).store (x := av) (s := d) (by have := hnm; simp only [maxLen]; omega) hwf (by simp only [maxLen]; omega) HFR.out.1
                          have hcv := run_row_text (TL.out.cells 7 rfl) hd
                          have TX : Hid (Things W wd [Blk W.heap.size (.cells #[.int .i64 n, .int .i64 k, .slice adA A.length cA, .slice adB B.length cB] 26 (0, 0)), Anyt, Blk p (.cells (pairC a m h h' x y r r') 41 (0, 0)), S2 a m k (⟨MM.has, MM.bs, ss2⟩) h t (HH) h' t' (hN B), D2 x y k (mN n) r (hN A) r' (hN B), Mst Bm (nn + 1) (fun y => if y = av then some d else f y) (cnt + 1), Blk Bo (.cells #[.int .i64 1, .int .i64 N, .bool two, .slice oad oW.length ocap] 44 (0, 0))]) := Things.less (ts := [Blk W.heap.size (.cells #[.int .i64 n, .int .i64 k, .slice adA A.length cA, .slice adB B.length cB] 26 (0, 0)), Anyt, Blk p (.cells (pairC a m h h' x y r r') 41 (0, 0)), S2 a m k (⟨MM.has, MM.bs, ss2⟩) h t (HH) h' t' (hN B), D2 x y k (mN n) r (hN A) r' (hN B), Mst Bm (nn + 1) (fun y => if y = av then some d else f y) (cnt + 1), Blk Bo (.cells #[.int .i64 1, .int .i64 N, .bool two, .slice oad oW.length ocap] 44 (0, 0))]) (TL.out.turned 5 rfl hOd fd)
                          have TD : Hid (Things W wd.drew [Blk W.heap.size (.cells #[.int .i64 n, .int .i64 k, .slice adA A.length cA, .slice adB B.length cB] 26 (0, 0)), Anyt, Blk p (.cells (pairC a m h h' x y r r') 41 (0, 0)), S2 a m k (⟨MM.has, MM.bs, ss2⟩) h t (HH) h' t' (hN B), D2 x y k (mN n) r (hN A) r' (hN B), Mst Bm (nn + 1) (fun y => if y = av then some d else f y) (cnt + 1), Blk Bo (.cells #[.int .i64 1, .int .i64 N, .bool two, .slice oad oW.length ocap] 44 (0, 0))]) := TX.out.kept (Fr.refl _ _).drew
                          have pc : wd.drew.cell? ⟨p, 0, none⟩ = some (.pointer (some ⟨a, 0, none⟩)) := box_cell (TD.out.cells 2 rfl) 0 rfl
                          have hlk := (TD.out.os 5 rfl).look hwf (s := d) (if_pos rfl)
                          have HWF := hid hwf
                          clear hOd fd TL TX hlm
                          go_wp2_with fail
                          go_region_held3 (fun w' => w'.cell? ⟨p, 0, none⟩ = some (.pointer (some ⟨a, 0, none⟩)) ∧ (Instr.lookup 42 (.map (some Bm)) (.int .i64 av) false).run Tryz.prog w' = .ok (.string ⟨d.toArray⟩) w') (first | exact ⟨by assumption, by assumption⟩ | go_keep) (first | (go_at_call 11; refine (HTB.out _ _ ss2 TD.out rfl).mono ?_; rintro e ve ⟨rfl, ge⟩; have TE : Hid (Things W ve [Blk W.heap.size (.cells #[.int .i64 n, .int .i64 k, .slice adA A.length cA, .slice adB B.length cB] 26 (0, 0)), Anyt, Blk p (.cells (pairC a m h h' x y r r') 41 (0, 0)), S2 a m k (⟨MM.has, MM.bs, ss2⟩) h t (HH) h' t' (hN B), D2 x y k (mN n) r (hN A) r' (hN B), Mst Bm (nn + 1) (fun y => if y = av then some d else f y) (cnt + 1), Blk Bo (.cells #[.int .i64 1, .int .i64 N, .bool two, .slice oad oW.length ocap] 44 (0, 0))]) := ge; clear ge; have pce : ve.cell? ⟨p, 0, none⟩ = some (.pointer (some ⟨a, 0, none⟩)) := box_cell (TE.out.cells 2 rfl) 0 rfl; have hlke := (TE.out.os 5 rfl).look HWF.out (s := d) (if_pos rfl)) | (go_at_call 16; refine (HWR.out _ ss2 d HS2.out hd TE.out).mono ?_; rintro e vf ⟨E, ss3, rfl, hs3, gf⟩; have TF : Hid (Things W vf [Blk W.heap.size (.cells #[.int .i64 n, .int .i64 k, .slice adA A.length cA, .slice adB B.length cB] 26 (0, 0)), Anyt, Blk p (.cells (pairC a m h h' x y r r') 41 (0, 0)), S2 a m k (⟨MM.has, vwB HH.T MM.bs av d, ss3⟩) h t (HH) h' t' (hN B), D2 x y k (mN n) r (hN A) r' (hN B), Mst Bm (nn + 1) (fun y => if y = av then some d else f y) (cnt + 1), Blk Bo (.cells #[.int .i64 1, .int .i64 N, .bool two, .slice oad oW.length ocap] 44 (0, 0))]) := gf; have HS3 := hid hs3; clear gf hs3; have pcf : vf.cell? ⟨p, 0, none⟩ = some (.pointer (some ⟨a, 0, none⟩)) := box_cell (TF.out.cells 2 rfl) 0 rfl; have hlkf := (TF.out.os 5 rfl).look HWF.out (s := d) (if_pos rfl)))
                          all_goals
                            clear TD TE HWR HTB
                            go_wp2_with fail
                            go_meet
                            exact ⟨mm + 1, aa, _, _, _, cnt + 1, nn + 1, roomB mm aa + 60, by omega, ⟨HAP.out d hd ss3 HS3.out, by omega, by omega, by omega, ML.out⟩, TF⟩
                    all_goals exact ⟨⟨m9, by have := HLT.out; omega, TC⟩, by rw [(TC.out.rg 5 rfl).left, HLF.out]; exact HLT.out⟩
            · as_aux_lemma =>
                have HW := hid (hM_had AP.out.1.tw.ok AP.out.1.tw.ms (hM_ways (fun _ => id) AP.out.1.tw.ok AP.out.1.tw.ms N : MWay (fun q => Cq.inW k H.W q = true) k M H N (hM k M H N)))
                have HMA := hid fun (w : World) (q : Things W w [Blk W.heap.size (.cells #[.int .i64 n, .int .i64 k, .slice adA A.length cA, .slice adB B.length cB] 26 (0, 0)), Anyt, Blk p (.cells (pairC a m h h' x y r r') 41 (0, 0)), S2 a m k (M) h t (H) h' t' (hN B), D2 x y k (mN n) r (hN A) r' (hN B), Mst Bm nn f cnt, Blk Bo (.cells #[.int .i64 4, .int .i64 N, .bool two, .slice oad oW.length ocap] 44 (0, 0))]) => t_malloc q GR.out 3 rfl AP.out.1.tw (by omega) i2
                have bN : (wr.alloc (.cells #[.int .i64 4, .int .i64 N, .bool two, .slice oad oW.length ocap] 44)).cell? ⟨Bo, 1, none⟩ = some (.int .i64 N) := box_cell (TB.out.cells 6 rfl) 1 rfl
                go_wp2_with fail
                refine (HMA.out _ TB.out).mono ?_
                rintro e v2 ⟨rfl, g2⟩
                have T2 : Hid (Things W v2 [Blk W.heap.size (.cells #[.int .i64 n, .int .i64 k, .slice adA A.length cA, .slice adB B.length cB] 26 (0, 0)), Anyt, Blk p (.cells (pairC a m h h' x y r r') 41 (0, 0)), S2 a m k ((hM k M H N).1) h t ((hM k M H N).2.1) h' t' (hN B), D2 x y k (mN n) r (hN A) r' (hN B), Mst Bm nn f cnt, Blk Bo (.cells #[.int .i64 4, .int .i64 N, .bool two, .slice oad oW.length ocap] 44 (0, 0))]) := g2
                clear g2 TB HMA HNW hwl hW15 hc2 hc3 hc4 bN
                have TM := hid (AP.out.1.tw.malloc N)
                have ML := hid ((ml_len AP.out.1.tw N).trans AP.out.2.2.2)
                have HZ := hid fun (M1 : Ms) (H1 : Hp) (a1 E : Int) (c s j : Nat) (hr : hM k M H N = (M1, H1, a1, E)) (g : Gave (fun q => Cq.inW k H.W q = true) M H N M1 H1 a1 c s j) => AP.out.1.zero hr g
                have HFH := hid fun (M1 : Ms) (H1 : Hp) (a1 E : Int) (c s j : Nat) (hr : hM k M H N = (M1, H1, a1, E)) (g : Gave (fun q => Cq.inW k H.W q = true) M H N M1 H1 a1 c s j) => AP.out.1.fresh hr g
                have HAL := hid fun (M1 : Ms) (H1 : Hp) (a1 E : Int) (c s j : Nat) (hr : hM k M H N = (M1, H1, a1, E)) (g : Gave (fun q => Cq.inW k H.W q = true) M H N M1 H1 a1 c s j) (ds : List UInt8) (hd : ds.length = (unitI c).toNat) (ss' : List Sp) (hs : ss'.length ≤ roomB mm aa + 60) => AP.out.1.malloc hr g hd (b' := roomB mm aa + 60) (ss' := ss') hs (by omega)
                have hra := room_a mm aa
                have hrm := room_m mm aa
                have hcm := AP.out.2.1
                have hnm := AP.out.2.2.1
                generalize hM k M H N = rr at *
                obtain ⟨MM, HH, av, ev⟩ := rr
                simp only at *
                by_cases he : ev = 0
                case neg =>
                  obtain ⟨-, e2, e3, -⟩ := HW.out.resolve_right fun e => he e.1
                  subst e2
                  subst e3
                  clear HW HZ HFH HAL TM ML
                  go_wp2_with fail
                  go_meet
                  exact ⟨mm, aa + 1, _, _, f, cnt, nn, roomB mm aa, by omega, ⟨AP.out.1, hcm, hnm, by omega, AP.out.2.2.2⟩, T2⟩
                case pos =>
                  subst he
                  obtain ⟨-, cc, ss, jj, hg⟩ := HW.out.resolve_left fun e => e.1 rfl
                  obtain ⟨hz, hve, hhad, hpt⟩ := HZ.out _ _ _ _ _ _ _ rfl hg
                  have HFR := hid (HFH.out _ _ _ _ _ _ _ rfl hg)
                  have HAP := hid (HAL.out _ _ _ _ _ _ _ rfl hg)
                  have hat := hg.at_
                  obtain ⟨q1, q2, q3, q4, q5⟩ := had_ask hg.kd hpt
                  have hkd := hg.kd
                  have hF0 := findR_of hpt
                  have hcc := hpt.kind
                  have hun := unitI_range cc hcc.1 hcc.2
                  have hi64 : I64 (adI cc ss jj) := by have := hpt.inside; exact ⟨by omega, by omega⟩
                  have HHU : hUs HH cc ss jj 0 = (unitI cc, 0) := had_us TM.out.ok hhad
                  have hpos : 131072 ≤ adI cc ss jj ∧ adI cc ss jj ≤ 3276800 := by have := hpt.inside; omega
                  rw [← hat] at hF0 hi64 q3 q5 hpos
                  have HUS := hid fun (w : World) (q : Things W w [Blk W.heap.size (.cells #[.int .i64 n, .int .i64 k, .slice adA A.length cA, .slice adB B.length cB] 26 (0, 0)), Anyt, Blk p (.cells (pairC a m h h' x y r r') 41 (0, 0)), S2 a m k (MM) h t (HH) h' t' (hN B), D2 x y k (mN n) r (hN A) r' (hN B), Mst Bm nn f cnt, Blk Bo (.cells #[.int .i64 4, .int .i64 N, .bool two, .slice oad oW.length ocap] 44 (0, 0))]) => t_usable q GR.out 3 rfl TM.out (by omega) hF0 hi64
                  rw [HHU] at HUS
                  obtain ⟨u, hu⟩ : ∃ u : Nat, unitI cc = (u : Int) := ⟨(unitI cc).toNat, by omega⟩
                  rw [hu] at HUS hun q1 q2 q5 hz hve HFR HAP
                  rw [Int.toNat_natCast] at hz HAP
                  have HTA := hid fun (w : World) (g : Things W w [Blk W.heap.size (.cells #[.int .i64 n, .int .i64 k, .slice adA A.length cA, .slice adB B.length cB] 26 (0, 0)), Anyt, Blk p (.cells (pairC a m h h' x y r r') 41 (0, 0)), S2 a m k (MM) h t (HH) h' t' (hN B), D2 x y k (mN n) r (hN A) r' (hN B), Mst Bm nn f cnt, Blk Bo (.cells #[.int .i64 4, .int .i64 N, .bool two, .slice oad oW.length ocap] 44 (0, 0))]) => t_table g 3 rfl
                  have HTB := hid fun (w : World) (ts : List (World → (Nat → Prop) → Prop)) (ss2 : List Sp) (g : Things W w ts) (hj : ts[3]? = some (S2 a m k (⟨MM.has, MM.bs, ss2⟩) h t (HH) h' t' (hN B))) => t_table g 3 hj
                  have HRD : Hid (∀ (w : World), Things W w [Blk W.heap.size (.cells #[.int .i64 n, .int .i64 k, .slice adA A.length cA, .slice adB B.length cB] 26 (0, 0)), Anyt, Blk p (.cells (pairC a m h h' x y r r') 41 (0, 0)), S2 a m k (MM) h t (HH) h' t' (hN B), D2 x y k (mN n) r (hN A) r' (hN B), Mst Bm nn f cnt, Blk Bo (.cells #[.int .i64 4, .int .i64 N, .bool two, .slice oad oW.length ocap] 44 (0, 0))] → Calls Tryz.prog 10 #[.pointer (some ⟨a, 0, none⟩), .pointer (some ⟨t, 0, none⟩), .int .i64 av, .int .i64 (u : Int)] w fun e w' => ∃ (ss2 : List Sp), e = .returned (.tuple #[.string ⟨(zs u).toArray⟩, .int .i64 0]) ∧ ss2.length ≤ roomB mm aa + 30 ∧ Things W w' [Blk W.heap.size (.cells #[.int .i64 n, .int .i64 k, .slice adA A.length cA, .slice adB B.length cB] 26 (0, 0)), Anyt, Blk p (.cells (pairC a m h h' x y r r') 41 (0, 0)), S2 a m k (⟨MM.has, MM.bs, ss2⟩) h t (HH) h' t' (hN B), D2 x y k (mN n) r (hN A) r' (hN B), Mst Bm nn f cnt, Blk Bo (.cells #[.int .i64 4, .int .i64 N, .bool two, .slice oad oW.length ocap] 44 (0, 0))]) := fun w g => by
                    refine (t_read g 3 rfl TM.out (by omega) hi64 ⟨by omega, by omega⟩ (by omega)).mono ?_
                    rintro e w' ⟨rfl, g2⟩
                    refine ⟨_, by rw [hz, hve]; rfl, ?_, g2⟩
                    have h1 := (read_few TM.out.ok.tp.tb MM.bs.length MM.ss av (n := (u : Int)) (by omega)).1
                    have h2 := TM.out.ss
                    omega
                  have HWR : Hid (∀ (w : World) (ss2 : List Sp) (d : List UInt8), ss2.length ≤ roomB mm aa + 30 → d.length = u → Things W w [Blk W.heap.size (.cells #[.int .i64 n, .int .i64 k, .slice adA A.length cA, .slice adB B.length cB] 26 (0, 0)), Anyt, Blk p (.cells (pairC a m h h' x y r r') 41 (0, 0)), S2 a m k (⟨MM.has, MM.bs, ss2⟩) h t (HH) h' t' (hN B), D2 x y k (mN n) r (hN A) r' (hN B), Mst Bm (nn + 1) (fun y => if y = av then some d else f y) (cnt + 1), Blk Bo (.cells #[.int .i64 4, .int .i64 N, .bool two, .slice oad oW.length ocap] 44 (0, 0))] → Calls Tryz.prog 16 #[.pointer (some ⟨a, 0, none⟩), .pointer (some ⟨t, 0, none⟩), .int .i64 av, .string ⟨d.toArray⟩] w fun e w' => ∃ (E : Int) (ss3 : List Sp), e = .returned (.int .i64 E) ∧ ss3.length ≤ roomB mm aa + 60 ∧ Things W w' [Blk W.heap.size (.cells #[.int .i64 n, .int .i64 k, .slice adA A.length cA, .slice adB B.length cB] 26 (0, 0)), Anyt, Blk p (.cells (pairC a m h h' x y r r') 41 (0, 0)), S2 a m k (⟨MM.has, vwB HH.T MM.bs av d, ss3⟩) h t (HH) h' t' (hN B), D2 x y k (mN n) r (hN A) r' (hN B), Mst Bm (nn + 1) (fun y => if y = av then some d else f y) (cnt + 1), Blk Bo (.cells #[.int .i64 4, .int .i64 N, .bool two, .slice oad oW.length ocap] 44 (0, 0))]) := fun w ss2 d h2 hd g => by
                    have hsz : (⟨d.toArray⟩ : ByteArray).size = u := by simp [ByteArray.size, hd]
                    have tw : Two k (roomB mm aa + 30) ⟨MM.has, MM.bs, ss2⟩ HH (hN B) := TM.out.notes' h2
                    refine (t_write g 3 rfl tw (by omega) hi64 ⟨d.toArray⟩ (by rw [hsz]; omega)).mono ?_
                    rintro e w' ⟨rfl, g2⟩
                    rw [hsz] at g2
                    refine ⟨_, _, rfl, ?_, g2⟩
                    exact Nat.le_trans (read_few TM.out.ok.tp.tb MM.bs.length ss2 av (n := (u : Int)) (by omega)).2 (by omega)
                  have HCH : Hid (∀ (w : World) (ts : List (World → (Nat → Prop) → Prop)), Things W w ts → Calls Tryz.prog 12 #[.int .i64 N] w fun e w' => e = .returned (.int .i64 (u : Int)) ∧ Things W w' ts) := fun w ts g => (r_charge N (K.start (GR.out.fr g.nw.fr).1)).mono fun e w' ⟨he, hk⟩ => ⟨by rw [he, q1], g.kept hk.fr⟩
                  have HOF : Hid (∀ (w : World) (ts : List (World → (Nat → Prop) → Prop)), Things W w ts → Calls Tryz.prog 14 #[.int .i64 N] w fun e w' => e = .returned (.int .i64 (cc : Int)) ∧ Things W w' ts) := fun w ts g => (k_of N (K.start (GR.out.fr g.nw.fr).1)).mono fun e w' ⟨he, hk⟩ => ⟨by rw [he, hkd], g.kept hk.fr⟩
                  have HAG : Hid (∀ (w : World) (ts : List (World → (Nat → Prop) → Prop)), Things W w ts → Calls Tryz.prog 13 #[.int .i64 (cc : Int)] w fun e w' => e = .returned (.int .i64 (alignI cc)) ∧ Things W w' ts) := fun w ts g => (r_align cc (K.start (GR.out.fr g.nw.fr).1)).mono fun e w' ⟨he, hk⟩ => ⟨he, g.kept hk.fr⟩
                  have HWI : Hid (∀ (w : World) (ts : List (World → (Nat → Prop) → Prop)), Things W w ts → Calls Tryz.prog 15 #[.int .i64 av, .int .i64 (u : Int)] w fun e w' => e = .returned (.bool true) ∧ Things W w' ts) := fun w ts g => (wt_any av u (K.start (GR.out.fr g.nw.fr).1)).mono fun e w' ⟨he, hk⟩ => ⟨by rw [he, decide_eq_true q5], g.kept hk.fr⟩
                  clear HW HZ HFH HAL hg hz hve hhad hpt hF0 hcc HHU hat hkd q1 q5 hu
                  generalize alignI cc = al at *
                  go_wp2_with fail
                  refine (HUS.out _ T2.out).mono ?_
                  rintro e v3 ⟨rfl, g3⟩
                  have T3 := hid g3
                  clear g3 T2 HUS
                  have TD : Hid (Things W v3.drew [Blk W.heap.size (.cells #[.int .i64 n, .int .i64 k, .slice adA A.length cA, .slice adB B.length cB] 26 (0, 0)), Anyt, Blk p (.cells (pairC a m h h' x y r r') 41 (0, 0)), S2 a m k (MM) h t (HH) h' t' (hN B), D2 x y k (mN n) r (hN A) r' (hN B), Mst Bm nn f cnt, Blk Bo (.cells #[.int .i64 4, .int .i64 N, .bool two, .slice oad oW.length ocap] 44 (0, 0))]) := T3.out.kept (Fr.refl _ _).drew
                  have pc : v3.drew.cell? ⟨p, 0, none⟩ = some (.pointer (some ⟨a, 0, none⟩)) := box_cell (TD.out.cells 2 rfl) 0 rfl
                  clear T3
                  go_wp2_with fail
                  go_region_held3 (fun w' => w'.cell? ⟨p, 0, none⟩ = some (.pointer (some ⟨a, 0, none⟩))) (first | assumption | go_keep) (first | (go_at_call 11; refine (HTA.out _ TD.out).mono ?_; rintro e v4 ⟨rfl, g4⟩; have T4 : Hid (Things W v4 [Blk W.heap.size (.cells #[.int .i64 n, .int .i64 k, .slice adA A.length cA, .slice adB B.length cB] 26 (0, 0)), Anyt, Blk p (.cells (pairC a m h h' x y r r') 41 (0, 0)), S2 a m k (MM) h t (HH) h' t' (hN B), D2 x y k (mN n) r (hN A) r' (hN B), Mst Bm nn f cnt, Blk Bo (.cells #[.int .i64 4, .int .i64 N, .bool two, .slice oad oW.length ocap] 44 (0, 0))]) := g4; clear g4; have pc4 : v4.cell? ⟨p, 0, none⟩ = some (.pointer (some ⟨a, 0, none⟩)) := box_cell (T4.out.cells 2 rfl) 0 rfl) | (go_at_call 10; refine (HRD.out _ T4.out).mono ?_; rintro e v5 ⟨ss2, rfl, hs5, g5⟩; have T5 : Hid (Things W v5 [Blk W.heap.size (.cells #[.int .i64 n, .int .i64 k, .slice adA A.length cA, .slice adB B.length cB] 26 (0, 0)), Anyt, Blk p (.cells (pairC a m h h' x y r r') 41 (0, 0)), S2 a m k (⟨MM.has, MM.bs, ss2⟩) h t (HH) h' t' (hN B), D2 x y k (mN n) r (hN A) r' (hN B), Mst Bm nn f cnt, Blk Bo (.cells #[.int .i64 4, .int .i64 N, .bool two, .slice oad oW.length ocap] 44 (0, 0))]) := g5; have HS2 := hid hs5; clear g5 hs5; have pc5 : v5.cell? ⟨p, 0, none⟩ = some (.pointer (some ⟨a, 0, none⟩)) := box_cell (T5.out.cells 2 rfl) 0 rfl))
                  have d1 : v5.cell? ⟨Bo, 1, none⟩ = some (.int .i64 N) := box_cell (T5.out.cells 6 rfl) 1 rfl
                  clear TD T4 HTA HRD
                  go_wp2_with fail
                  refine (HCH.out _ _ T5.out).mono ?_
                  rintro e v6 ⟨rfl, g6⟩
                  have T6 : Hid (Things W v6 [Blk W.heap.size (.cells #[.int .i64 n, .int .i64 k, .slice adA A.length cA, .slice adB B.length cB] 26 (0, 0)), Anyt, Blk p (.cells (pairC a m h h' x y r r') 41 (0, 0)), S2 a m k (⟨MM.has, MM.bs, ss2⟩) h t (HH) h' t' (hN B), D2 x y k (mN n) r (hN A) r' (hN B), Mst Bm nn f cnt, Blk Bo (.cells #[.int .i64 4, .int .i64 N, .bool two, .slice oad oW.length ocap] 44 (0, 0))]) := g6
                  have d2 : v6.cell? ⟨Bo, 1, none⟩ = some (.int .i64 N) := box_cell (T6.out.cells 6 rfl) 1 rfl
                  clear g6 T5 HCH d1
                  go_wp2_with fail
                  refine (HOF.out _ _ T6.out).mono ?_
                  rintro e v7 ⟨rfl, g7⟩
                  have T7 : Hid (Things W v7 [Blk W.heap.size (.cells #[.int .i64 n, .int .i64 k, .slice adA A.length cA, .slice adB B.length cB] 26 (0, 0)), Anyt, Blk p (.cells (pairC a m h h' x y r r') 41 (0, 0)), S2 a m k (⟨MM.has, MM.bs, ss2⟩) h t (HH) h' t' (hN B), D2 x y k (mN n) r (hN A) r' (hN B), Mst Bm nn f cnt, Blk Bo (.cells #[.int .i64 4, .int .i64 N, .bool two, .slice oad oW.length ocap] 44 (0, 0))]) := g7
                  clear g7 T6 HOF d2
                  go_wp2_with fail
                  refine (HAG.out _ _ T7.out).mono ?_
                  rintro e v8 ⟨rfl, g8⟩
                  have T8 : Hid (Things W v8 [Blk W.heap.size (.cells #[.int .i64 n, .int .i64 k, .slice adA A.length cA, .slice adB B.length cB] 26 (0, 0)), Anyt, Blk p (.cells (pairC a m h h' x y r r') 41 (0, 0)), S2 a m k (⟨MM.has, MM.bs, ss2⟩) h t (HH) h' t' (hN B), D2 x y k (mN n) r (hN A) r' (hN B), Mst Bm nn f cnt, Blk Bo (.cells #[.int .i64 4, .int .i64 N, .bool two, .slice oad oW.length ocap] 44 (0, 0))]) := g8
                  clear g8 T7 HAG
                  go_wp2_with fail
                  refine (HWI.out _ _ T8.out).mono ?_
                  rintro e v9 ⟨rfl, g9⟩
                  have T9 : Hid (Things W v9 [Blk W.heap.size (.cells #[.int .i64 n, .int .i64 k, .slice adA A.length cA, .slice adB B.length cB] 26 (0, 0)), Anyt, Blk p (.cells (pairC a m h h' x y r r') 41 (0, 0)), S2 a m k (⟨MM.has, MM.bs, ss2⟩) h t (HH) h' t' (hN B), D2 x y k (mN n) r (hN A) r' (hN B), Mst Bm nn f cnt, Blk Bo (.cells #[.int .i64 4, .int .i64 N, .bool two, .slice oad oW.length ocap] 44 (0, 0))]) := g9
                  have hmk1 := run_make_bytes v9 u (by omega)
                  have hcv1 := run_made_text v9 u
                  have TA : Hid (Things W (v9.alloc (.cells (bc (zs u)).toArray 5)) [Blk W.heap.size (.cells #[.int .i64 n, .int .i64 k, .slice adA A.length cA, .slice adB B.length cB] 26 (0, 0)), Anyt, Blk p (.cells (pairC a m h h' x y r r') 41 (0, 0)), S2 a m k (⟨MM.has, MM.bs, ss2⟩) h t (HH) h' t' (hN B), D2 x y k (mN n) r (hN A) r' (hN B), Mst Bm nn f cnt, Blk Bo (.cells #[.int .i64 4, .int .i64 N, .bool two, .slice oad oW.length ocap] 44 (0, 0))]) := T9.out.kept ((Fr.refl _ _).alloc _)
                  have HLI : Hid (∀ z d, f z = some d → 131072 ≤ z ∧ z ≤ 3276800 ∧ d.length ≤ 8192) := fun z d hz => AP.out.1.lies hz
                  have HZL : Hid ((zs u).length = u) := zs_length u
                  clear g9 T8 T9 HWI q3 q4 AP TM
                  generalize zs u = zz at *
                  go_wp2_with (first | (at_range; refine wp_range rfl (.tmp 160) rfl rfl (TA.out.os 5 rfl) ?_; intro wb hRb hFb; have TB : Hid (Things W wb [Blk W.heap.size (.cells #[.int .i64 n, .int .i64 k, .slice adA A.length cA, .slice adB B.length cB] 26 (0, 0)), Anyt, Blk p (.cells (pairC a m h h' x y r r') 41 (0, 0)), S2 a m k (⟨MM.has, MM.bs, ss2⟩) h t (HH) h' t' (hN B), D2 x y k (mN n) r (hN A) r' (hN B), Wst Bm (v9.alloc (.cells (bc zz).toArray 5)).heap.size nn f cnt cnt, Blk Bo (.cells #[.int .i64 4, .int .i64 N, .bool two, .slice oad oW.length ocap] 44 (0, 0))]) := TA.out.walkOn 5 rfl (Nat.le_refl _) hRb hFb; clear hRb hFb) | go_in)
                  try go_frame
                  clear hmk1 hcv1 TA q2
                  generalize (v9.alloc (.cells (bc zz).toArray 5)).heap.size = rr at *
                  go_loopw [] (fun wq => ∃ q : Nat, q ≤ cnt ∧ Hid (Things W wq [Blk W.heap.size (.cells #[.int .i64 n, .int .i64 k, .slice adA A.length cA, .slice adB B.length cB] 26 (0, 0)), Anyt, Blk p (.cells (pairC a m h h' x y r r') 41 (0, 0)), S2 a m k (⟨MM.has, MM.bs, ss2⟩) h t (HH) h' t' (hN B), D2 x y k (mN n) r (hN A) r' (hN B), Wst Bm rr nn f cnt q, Blk Bo (.cells #[.int .i64 4, .int .i64 N, .bool two, .slice oad oW.length ocap] 44 (0, 0))])) (fun wq => wq.rangeLeft Bm rr)
                  case atStart => exact ⟨cnt, by omega, TB⟩
                  case round =>
                    clear TB
                    obtain ⟨q, hq, TQ⟩ := hrel
                    have hmk := run_make_bytes wr u (by omega)
                    have HZY : Hid ((zs u).length = u) := zs_length u
                    generalize zs u = zy at *
                    go_wp2_with (first | (at_next; refine wp_next rfl (.tmp 161) rfl rfl (TQ.out.rg 5 rfl) ?_ ?_; rotate_left; intro z s wc m9 hz hRc hltc hFc hen; have TC : Hid (Things W wc [Blk W.heap.size (.cells #[.int .i64 n, .int .i64 k, .slice adA A.length cA, .slice adB B.length cB] 26 (0, 0)), Anyt, Blk p (.cells (pairC a m h h' x y r r') 41 (0, 0)), S2 a m k (⟨MM.has, MM.bs, ss2⟩) h t (HH) h' t' (hN B), D2 x y k (mN n) r (hN A) r' (hN B), Wst Bm rr nn f cnt m9, Blk Bo (.cells #[.int .i64 4, .int .i64 N, .bool two, .slice oad oW.length ocap] 44 (0, 0))]) := TQ.out.walked 5 rfl hRc hFc; have HLT := hid hltc; have HLF := hid (TQ.out.rg 5 rfl).left; have hap := HFR.out.2 z s hz; have hli := HLI.out z s hz; clear hz hRc hltc hFc TQ; rotate_left))
                    · have TE : Hid (Things W wr [Blk W.heap.size (.cells #[.int .i64 n, .int .i64 k, .slice adA A.length cA, .slice adB B.length cB] 26 (0, 0)), Anyt, Blk p (.cells (pairC a m h h' x y r r') 41 (0, 0)), S2 a m k (⟨MM.has, MM.bs, ss2⟩) h t (HH) h' t' (hN B), D2 x y k (mN n) r (hN A) r' (hN B), Mst Bm nn f cnt, Blk Bo (.cells #[.int .i64 4, .int .i64 N, .bool two, .slice oad oW.length ocap] 44 (0, 0))]) := TQ.out.walkEnd 5 rfl
                      clear TQ HLI
                      have T4 : Hid (Things W (wr.alloc (.cells (bc zy).toArray 5)) [Blk W.heap.size (.cells #[.int .i64 n, .int .i64 k, .slice adA A.length cA, .slice adB B.length cB] 26 (0, 0)), Anyt, Blk p (.cells (pairC a m h h' x y r r') 41 (0, 0)), S2 a m k (⟨MM.has, MM.bs, ss2⟩) h t (HH) h' t' (hN B), D2 x y k (mN n) r (hN A) r' (hN B), Mst Bm nn f cnt, Blk Bo (.cells #[.int .i64 4, .int .i64 N, .bool two, .slice oad oW.length ocap] 44 (0, 0)), Blk wr.heap.size (.cells (bc zy).toArray 5 (0, 0))]) := TE.out.blk _
                      clear TE hmk
                      generalize wr.alloc (.cells (bc zy).toArray 5) = v4 at T4 ⊢
                      generalize wr.heap.size = Bb at T4 ⊢
                      go_loopw [184] (fun i wq => ∃ (z : Nat) (d : List UInt8), z ≤ u ∧ i = .int .i64 z ∧ d.length = u ∧ Hid (Things W wq [Blk W.heap.size (.cells #[.int .i64 n, .int .i64 k, .slice adA A.length cA, .slice adB B.length cB] 26 (0, 0)), Anyt, Blk p (.cells (pairC a m h h' x y r r') 41 (0, 0)), S2 a m k (⟨MM.has, MM.bs, ss2⟩) h t (HH) h' t' (hN B), D2 x y k (mN n) r (hN A) r' (hN B), Mst Bm nn f cnt, Blk Bo (.cells #[.int .i64 4, .int .i64 N, .bool two, .slice oad oW.length ocap] 44 (0, 0)), Blk Bb (.cells (bc d).toArray 5 (0, 0))])) (fun i _ => u - (intOf i).toNat)
                      case atStart => exact ⟨0, zy, by omega, rfl, HZY.out, T4⟩
                      case round =>
                        clear T4 HZY
                        obtain ⟨z, d, hz, rfl, hd, TL⟩ := hrel
                        by_cases hlm : z < u
                        · have hc := row_cell (TL.out.cells 7 rfl) z (by omega)
                          have hfz := row_frozen (TL.out.cells 7 rfl) z
                          generalize d[z].toNat = old at hc
                          go_wp2
                          go_roundw
                          case rel => exact ⟨z + 1, d.set z (UInt8.ofNat ((z * 7 + j + 1) % 256)), by omega, by go_num, by rw [List.length_set]; exact hd, hid (set_byte17 TL.out 7 rfl z (z * 7 + j + 1) (by omega))⟩
                          case measure => simp [intOf]; omega
                        · obtain rfl : u = z := by omega
                          have hwf := wf_small (x := av) (by omega) (by omega)
                          obtain ⟨wd, hst, hOd, fd⟩ := (TL.out.os 5 rfl).store (x := av) (s := d) (by have := hnm; simp only [maxLen]; omega) hwf (by simp only [maxLen]; omega) HFR.out.1
                          have hcv := run_row_text (TL.out.cells 7 rfl) hd
                          have TX : Hid (Things W wd [Blk W.heap.size (.cells #[.int .i64 n, .int .i64 k, .slice adA A.length cA, .slice adB B.length cB] 26 (0, 0)), Anyt, Blk p (.cells (pairC a m h h' x y r r') 41 (0, 0)), S2 a m k (⟨MM.has, MM.bs, ss2⟩) h t (HH) h' t' (hN B), D2 x y k (mN n) r (hN A) r' (hN B), Mst Bm (nn + 1) (fun y => if y = av then some d else f y) (cnt + 1), Blk Bo (.cells #[.int .i64 4, .int .i64 N, .bool two, .slice oad oW.length ocap] 44 (0, 0))]) := Things.less (ts := [Blk W.heap.size (.cells #[.int .i64 n, .int .i64 k, .slice adA A.length cA, .slice adB B.length cB] 26 (0, 0)), Anyt, Blk p (.cells (pairC a m h h' x y r r') 41 (0, 0)), S2 a m k (⟨MM.has, MM.bs, ss2⟩) h t (HH) h' t' (hN B), D2 x y k (mN n) r (hN A) r' (hN B), Mst Bm (nn + 1) (fun y => if y = av then some d else f y) (cnt + 1), Blk Bo (.cells #[.int .i64 4, .int .i64 N, .bool two, .slice oad oW.length ocap] 44 (0, 0))]) (TL.out.turned 5 rfl hOd fd)
                          have TD : Hid (Things W wd.drew [Blk W.heap.size (.cells #[.int .i64 n, .int .i64 k, .slice adA A.length cA, .slice adB B.length cB] 26 (0, 0)), Anyt, Blk p (.cells (pairC a m h h' x y r r') 41 (0, 0)), S2 a m k (⟨MM.has, MM.bs, ss2⟩) h t (HH) h' t' (hN B), D2 x y k (mN n) r (hN A) r' (hN B), Mst Bm (nn + 1) (fun y => if y = av then some d else f y) (cnt + 1), Blk Bo (.cells #[.int .i64 4, .int .i64 N, .bool two, .slice oad oW.length ocap] 44 (0, 0))]) := TX.out.kept (Fr.refl _ _).drew
                          have pc : wd.drew.cell? ⟨p, 0, none⟩ = some (.pointer (some ⟨a, 0, none⟩)) := box_cell (TD.out.cells 2 rfl) 0 rfl
                          have hlk := (TD.out.os 5 rfl).look hwf (s := d) (if_pos rfl)
                          have HWF := hid hwf
                          clear hOd fd TL TX hlm
                          go_wp2_with fail
                          go_region_held3 (fun w' => w'.cell? ⟨p, 0, none⟩ = some (.pointer (some ⟨a, 0, none⟩)) ∧ (Instr.lookup 42 (.map (some Bm)) (.int .i64 av) false).run Tryz.prog w' = .ok (.string ⟨d.toArray⟩) w') (first | exact ⟨by assumption, by assumption⟩ | go_keep) (first | (go_at_call 11; refine (HTB.out _ _ ss2 TD.out rfl).mono ?_; rintro e ve ⟨rfl, ge⟩; have TE : Hid (Things W ve [Blk W.heap.size (.cells #[.int .i64 n, .int .i64 k, .slice adA A.length cA, .slice adB B.length cB] 26 (0, 0)), Anyt, Blk p (.cells (pairC a m h h' x y r r') 41 (0, 0)), S2 a m k (⟨MM.has, MM.bs, ss2⟩) h t (HH) h' t' (hN B), D2 x y k (mN n) r (hN A) r' (hN B), Mst Bm (nn + 1) (fun y => if y = av then some d else f y) (cnt + 1), Blk Bo (.cells #[.int .i64 4, .int .i64 N, .bool two, .slice oad oW.length ocap] 44 (0, 0))]) := ge; clear ge; have pce : ve.cell? ⟨p, 0, none⟩ = some (.pointer (some ⟨a, 0, none⟩)) := box_cell (TE.out.cells 2 rfl) 0 rfl; have hlke := (TE.out.os 5 rfl).look HWF.out (s := d) (if_pos rfl)) | (go_at_call 16; refine (HWR.out _ ss2 d HS2.out hd TE.out).mono ?_; rintro e vf ⟨E, ss3, rfl, hs3, gf⟩; have TF : Hid (Things W vf [Blk W.heap.size (.cells #[.int .i64 n, .int .i64 k, .slice adA A.length cA, .slice adB B.length cB] 26 (0, 0)), Anyt, Blk p (.cells (pairC a m h h' x y r r') 41 (0, 0)), S2 a m k (⟨MM.has, vwB HH.T MM.bs av d, ss3⟩) h t (HH) h' t' (hN B), D2 x y k (mN n) r (hN A) r' (hN B), Mst Bm (nn + 1) (fun y => if y = av then some d else f y) (cnt + 1), Blk Bo (.cells #[.int .i64 4, .int .i64 N, .bool two, .slice oad oW.length ocap] 44 (0, 0))]) := gf; have HS3 := hid hs3; clear gf hs3; have pcf : vf.cell? ⟨p, 0, none⟩ = some (.pointer (some ⟨a, 0, none⟩)) := box_cell (TF.out.cells 2 rfl) 0 rfl; have hlkf := (TF.out.os 5 rfl).look HWF.out (s := d) (if_pos rfl)))
                          all_goals
                            clear TD TE HWR HTB
                            go_wp2_with fail
                            go_meet
                            exact ⟨mm + 1, aa, _, _, _, cnt + 1, nn + 1, roomB mm aa + 60, by omega, ⟨HAP.out d hd ss3 HS3.out, by omega, by omega, by omega, ML.out⟩, TF⟩
                    all_goals exact ⟨⟨m9, by have := HLT.out; omega, TC⟩, by rw [(TC.out.rg 5 rfl).left, HLF.out]; exact HLT.out⟩
          case neg =>
            have n1 : ¬ kd = 1 := fun e => hk1 (.inl e)
            have n4 : ¬ kd = 4 := fun e => hk1 (.inr e)
            clear hk1
            as_aux_lemma =>
              have HBL := hid fun (w : World) (q : Things W w [Blk W.heap.size (.cells #[.int .i64 n, .int .i64 k, .slice adA A.length cA, .slice adB B.length cB] 26 (0, 0)), Anyt, Blk p (.cells (pairC a m h h' x y r r') 41 (0, 0)), S2 a m k (M) h t (H) h' t' (hN B), D2 x y k (mN n) r (hN A) r' (hN B), Mst Bm nn f cnt, Blk Bo (.cells #[.int .i64 kd, .int .i64 N, .bool two, .slice oad oW.length ocap] 44 (0, 0))]) => t_blocks q GR.out 3 rfl AP.out.1.tw (by omega)
              go_wp2_with fail
              refine (HBL.out _ TB.out).mono ?_
              rintro e v1 ⟨lad, lcap, rfl, g1⟩
              have T1 : Hid (Things W v1 [Blk W.heap.size (.cells #[.int .i64 n, .int .i64 k, .slice adA A.length cA, .slice adB B.length cB] 26 (0, 0)), Anyt, Blk p (.cells (pairC a m h h' x y r r') 41 (0, 0)), S2 a m k (M) h t (H) h' t' (hN B), D2 x y k (mN n) r (hN A) r' (hN B), Mst Bm nn f cnt, Blk Bo (.cells #[.int .i64 kd, .int .i64 N, .bool two, .slice oad oW.length ocap] 44 (0, 0)), Lv lad (hBl H.L)]) := g1
              clear g1 TB HBL
              have HMB := hid fun (z : Int) (hz : z ∈ hBl H.L) => (mem_hBl AP.out.1.tw.ok.nd AP.out.1.tw.ok.at_).1 hz
              have hbl := hBl_len H.L
              have b1 : v1.cell? ⟨Bo, 1, none⟩ = some (.int .i64 N) := box_cell (T1.out.cells 6 rfl) 1 rfl
              cases hB : hBl H.L with
              | nil =>
                have T1' : Hid (Things W v1 [Blk W.heap.size (.cells #[.int .i64 n, .int .i64 k, .slice adA A.length cA, .slice adB B.length cB] 26 (0, 0)), Anyt, Blk p (.cells (pairC a m h h' x y r r') 41 (0, 0)), S2 a m k (M) h t (H) h' t' (hN B), D2 x y k (mN n) r (hN A) r' (hN B), Mst Bm nn f cnt, Blk Bo (.cells #[.int .i64 kd, .int .i64 N, .bool two, .slice oad oW.length ocap] 44 (0, 0))]) := Things.less (ts := [Blk W.heap.size (.cells #[.int .i64 n, .int .i64 k, .slice adA A.length cA, .slice adB B.length cB] 26 (0, 0)), Anyt, Blk p (.cells (pairC a m h h' x y r r') 41 (0, 0)), S2 a m k (M) h t (H) h' t' (hN B), D2 x y k (mN n) r (hN A) r' (hN B), Mst Bm nn f cnt, Blk Bo (.cells #[.int .i64 kd, .int .i64 N, .bool two, .slice oad oW.length ocap] 44 (0, 0))]) T1.out
                have hra := room_a mm aa
                clear T1 HMB hbl
                go_wp2_with fail
                go_meet
                exact ⟨mm, aa + 1, M, H, f, cnt, nn, roomB mm aa, by omega, ⟨AP.out.1, AP.out.2.1, AP.out.2.2.1, by omega, AP.out.2.2.2⟩, T1'⟩
              | cons z0 zr =>
                rw [← hB]
                have h0 : 0 < (hBl H.L).length := by rw [hB]; simp
                obtain ⟨ix, hix, hixl⟩ := modu N (hBl H.L).length _ rfl h0 hbl
                obtain ⟨lb0, loff, rfl, hlb, hlc⟩ := (T1.out.nums 7 rfl) ix hixl
                obtain ⟨cc, ss, jj, hhad, hat⟩ := HMB.out (hBl H.L)[ix] (List.getElem_mem hixl)
                rw [hat] at hlc
                obtain ⟨hpt, hcc, hss⟩ := hhad.there AP.out.1.tw.ok
                have hF0 := findR_of hpt
                have hi64 : I64 (adI cc ss jj) := by have := hpt.inside; have := unitI_range cc (by omega) (by omega); exact ⟨by omega, by omega⟩
                have hfr : hFr M H cc ss jj 0 = hF M H cc ss jj := by unfold hFr; rw [if_pos rfl, Int.toNat_natCast, Int.toNat_natCast]
                have HFR := hid fun (w : World) (q : Things W w [Blk W.heap.size (.cells #[.int .i64 n, .int .i64 k, .slice adA A.length cA, .slice adB B.length cB] 26 (0, 0)), Anyt, Blk p (.cells (pairC a m h h' x y r r') 41 (0, 0)), S2 a m k (M) h t (H) h' t' (hN B), D2 x y k (mN n) r (hN A) r' (hN B), Mst Bm nn f cnt, Blk Bo (.cells #[.int .i64 kd, .int .i64 N, .bool two, .slice oad oW.length ocap] 44 (0, 0))]) => t_free q GR.out 3 rfl AP.out.1.tw (by omega) hF0 hi64
                have he := (hF_had AP.out.1.tw.ok hhad).1
                rw [hfr, he] at HFR
                obtain ⟨hsm, hap⟩ := AP.out.1.free hhad
                have AF : Hid (Apa k (roomB mm aa + 18) (hF M H cc ss jj).1 (hF M H cc ss jj).2.1 (hN B) (fun y => if y = adI cc ss jj then none else f y) (cnt - 1) ∧ (hF M H cc ss jj).1.has.length = n) := ⟨hap, by rw [fr_len AP.out.1.tw]; exact AP.out.2.2.2⟩
                have T1' : Hid (Things W v1 [Blk W.heap.size (.cells #[.int .i64 n, .int .i64 k, .slice adA A.length cA, .slice adB B.length cB] 26 (0, 0)), Anyt, Blk p (.cells (pairC a m h h' x y r r') 41 (0, 0)), S2 a m k (M) h t (H) h' t' (hN B), D2 x y k (mN n) r (hN A) r' (hN B), Mst Bm nn f cnt, Blk Bo (.cells #[.int .i64 kd, .int .i64 N, .bool two, .slice oad oW.length ocap] 44 (0, 0))]) := Things.less (ts := [Blk W.heap.size (.cells #[.int .i64 n, .int .i64 k, .slice adA A.length cA, .slice adB B.length cB] 26 (0, 0)), Anyt, Blk p (.cells (pairC a m h h' x y r r') 41 (0, 0)), S2 a m k (M) h t (H) h' t' (hN B), D2 x y k (mN n) r (hN A) r' (hN B), Mst Bm nn f cnt, Blk Bo (.cells #[.int .i64 kd, .int .i64 N, .bool two, .slice oad oW.length ocap] 44 (0, 0))]) T1.out
                have hwf := wf_small hi64.1 hi64.2
                obtain ⟨sx, hlk⟩ := (T1'.out.os 5 rfl).lookOk hwf
                rw [hsm] at hlk
                have hra := room_a mm aa
                have hcm := AP.out.2.1
                have hnm := AP.out.2.2.1
                have HWF := hid hwf
                have HSM := hid hsm
                clear T1 HMB hat hpt hF0 hi64 hfr hhad hB hap hsm AP he hcc hss hwf
                have h0i : (0 : Int) < ((hBl H.L).length : Int) := by omega
                generalize hF M H cc ss jj = ff at *
                generalize adI cc ss jj = za at *
                generalize (hBl H.L).length = bl at *
                go_wp2_with fail
                refine (HFR.out _ T1'.out).mono ?_
                rintro e v3 ⟨rfl, g3⟩
                have T4 : Hid (Things W v3 [Blk W.heap.size (.cells #[.int .i64 n, .int .i64 k, .slice adA A.length cA, .slice adB B.length cB] 26 (0, 0)), Anyt, Blk p (.cells (pairC a m h h' x y r r') 41 (0, 0)), S2 a m k (ff.1) h t (ff.2.1) h' t' (hN B), D2 x y k (mN n) r (hN A) r' (hN B), Mst Bm nn f cnt, Blk Bo (.cells #[.int .i64 kd, .int .i64 N, .bool two, .slice oad oW.length ocap] 44 (0, 0))]) := g3
                clear g3 T1' HFR hlk
                go_wp2_with (at_delete; refine wp_drop rfl (.tmp 87) (.tmp 88) rfl rfl rfl HWF.out (T4.out.os 5 rfl) ?_; intro w5 hO5 hF5; have T5 : Hid (Things W w5 [Blk W.heap.size (.cells #[.int .i64 n, .int .i64 k, .slice adA A.length cA, .slice adB B.length cB] 26 (0, 0)), Anyt, Blk p (.cells (pairC a m h h' x y r r') 41 (0, 0)), S2 a m k (ff.1) h t (ff.2.1) h' t' (hN B), D2 x y k (mN n) r (hN A) r' (hN B), Mst Bm nn (fun y => if y = za then none else f y) (cnt - 1), Blk Bo (.cells #[.int .i64 kd, .int .i64 N, .bool two, .slice oad oW.length ocap] 44 (0, 0))]) := T4.out.turned 5 rfl (by rw [HSM.out, if_pos rfl] at hO5; exact hO5) hF5; clear hO5 hF5 T4)
                go_meet
                exact ⟨mm, aa + 1, _, _, _, cnt - 1, nn, roomB mm aa + 18, by omega, ⟨AF.out.1, by omega, hnm, by omega, AF.out.2⟩, T5⟩
      case rest =>
        as_aux_lemma =>
          clear TB AP HNW hroom
          obtain ⟨mm2, aa2, M, H, f, cnt, nn, b2, hma2, AP, T⟩ := hcut
          obtain ⟨hcm, hnm, hbr, hln⟩ := AP.out.2
          have hroom := room_le (m := mm2) (a := aa2) (by omega)
          have HBL := hid fun (w : World) (q : Things W w [Blk W.heap.size (.cells #[.int .i64 n, .int .i64 k, .slice adA A.length cA, .slice adB B.length cB] 26 (0, 0)), Anyt, Blk p (.cells (pairC a m h h' x y r r') 41 (0, 0)), S2 a m k (M) h t (H) h' t' (hN B), D2 x y k (mN n) r (hN A) r' (hN B), Mst Bm nn f cnt, Blk Bo (.cells #[.int .i64 kd, .int .i64 N, .bool two, .slice oad oW.length ocap] 44 (0, 0))]) => t_blocks q GR.out 3 rfl AP.out.1.tw (by omega)
          have hcnt := AP.out.1.cnt
          go_wp2_with fail
          refine (HBL.out _ T.out).mono ?_
          rintro e v1 ⟨lad, lcap, rfl, g1⟩
          have T1 : Hid (Things W v1 [Blk W.heap.size (.cells #[.int .i64 n, .int .i64 k, .slice adA A.length cA, .slice adB B.length cB] 26 (0, 0)), Anyt, Blk p (.cells (pairC a m h h' x y r r') 41 (0, 0)), S2 a m k (M) h t (H) h' t' (hN B), D2 x y k (mN n) r (hN A) r' (hN B), Mst Bm nn f cnt, Blk Bo (.cells #[.int .i64 kd, .int .i64 N, .bool two, .slice oad oW.length ocap] 44 (0, 0))]) := Things.less (ts := [Blk W.heap.size (.cells #[.int .i64 n, .int .i64 k, .slice adA A.length cA, .slice adB B.length cB] 26 (0, 0)), Anyt, Blk p (.cells (pairC a m h h' x y r r') 41 (0, 0)), S2 a m k (M) h t (H) h' t' (hN B), D2 x y k (mN n) r (hN A) r' (hN B), Mst Bm nn f cnt, Blk Bo (.cells #[.int .i64 kd, .int .i64 N, .bool two, .slice oad oW.length ocap] 44 (0, 0))]) g1
          rw [← hcnt]
          have hml := fun ty => (T1.out.os 5 rfl).len ty
          clear g1 T HBL
          go_wp2_with (first | (at_range; refine wp_range rfl (.tmp 226) rfl rfl (T1.out.os 5 rfl) ?_; intro w8 hR8 hF8; have T8 : Hid (Things W w8 [Blk W.heap.size (.cells #[.int .i64 n, .int .i64 k, .slice adA A.length cA, .slice adB B.length cB] 26 (0, 0)), Anyt, Blk p (.cells (pairC a m h h' x y r r') 41 (0, 0)), S2 a m k (M) h t (H) h' t' (hN B), D2 x y k (mN n) r (hN A) r' (hN B), Wst Bm v1.heap.size nn f cnt cnt, Blk Bo (.cells #[.int .i64 kd, .int .i64 N, .bool two, .slice oad oW.length ocap] 44 (0, 0))]) := T1.out.walkOn 5 rfl (Nat.le_refl _) hR8 hF8; clear hR8 hF8) | go_in)
          try go_frame
          clear hml
          generalize v1.heap.size = rr at *
          go_loopw [24] (fun _ wq => ∃ (q : Nat) (ss1 : List Sp), q ≤ cnt ∧ ss1.length + 18 * q ≤ b2 + 18 * cnt ∧ Hid (Things W wq [Blk W.heap.size (.cells #[.int .i64 n, .int .i64 k, .slice adA A.length cA, .slice adB B.length cB] 26 (0, 0)), Anyt, Blk p (.cells (pairC a m h h' x y r r') 41 (0, 0)), S2 a m k (⟨M.has, M.bs, ss1⟩) h t (H) h' t' (hN B), D2 x y k (mN n) r (hN A) r' (hN B), Wst Bm rr nn f cnt q, Blk Bo (.cells #[.int .i64 kd, .int .i64 N, .bool two, .slice oad oW.length ocap] 44 (0, 0))])) (fun _ wq => wq.rangeLeft Bm rr)
          case atStart => exact ⟨cnt, M.ss, by omega, by have := AP.out.1.tw.ss; omega, T8⟩
          case round =>
            clear T8 T1
            obtain ⟨q, ss1, hq, hss, TQ⟩ := hrel
            have A1 : Hid (Apa k (b2 + 18 * cnt) ⟨M.has, M.bs, ss1⟩ H (hN B) f cnt) := AP.out.1.notes (by omega)
            have HTB := hid fun (w : World) (m9 : Nat) (g : Things W w [Blk W.heap.size (.cells #[.int .i64 n, .int .i64 k, .slice adA A.length cA, .slice adB B.length cB] 26 (0, 0)), Anyt, Blk p (.cells (pairC a m h h' x y r r') 41 (0, 0)), S2 a m k (⟨M.has, M.bs, ss1⟩) h t (H) h' t' (hN B), D2 x y k (mN n) r (hN A) r' (hN B), Wst Bm rr nn f cnt m9, Blk Bo (.cells #[.int .i64 kd, .int .i64 N, .bool two, .slice oad oW.length ocap] 44 (0, 0))]) => t_table g 3 rfl
            have HRD : Hid (∀ (w : World) (m9 : Nat) (z : Int) (d : List UInt8), f z = some d → Things W w [Blk W.heap.size (.cells #[.int .i64 n, .int .i64 k, .slice adA A.length cA, .slice adB B.length cB] 26 (0, 0)), Anyt, Blk p (.cells (pairC a m h h' x y r r') 41 (0, 0)), S2 a m k (⟨M.has, M.bs, ss1⟩) h t (H) h' t' (hN B), D2 x y k (mN n) r (hN A) r' (hN B), Wst Bm rr nn f cnt m9, Blk Bo (.cells #[.int .i64 kd, .int .i64 N, .bool two, .slice oad oW.length ocap] 44 (0, 0))] → Calls Tryz.prog 10 #[.pointer (some ⟨a, 0, none⟩), .pointer (some ⟨t, 0, none⟩), .int .i64 z, .int .i64 (d.length : Int)] w fun e w' => ∃ (E : Int) (ss2 : List Sp), e = .returned (.tuple #[.string ⟨d.toArray⟩, .int .i64 E]) ∧ ss2.length ≤ ss1.length + 18 ∧ Things W w' [Blk W.heap.size (.cells #[.int .i64 n, .int .i64 k, .slice adA A.length cA, .slice adB B.length cB] 26 (0, 0)), Anyt, Blk p (.cells (pairC a m h h' x y r r') 41 (0, 0)), S2 a m k (⟨M.has, M.bs, ss2⟩) h t (H) h' t' (hN B), D2 x y k (mN n) r (hN A) r' (hN B), Wst Bm rr nn f cnt m9, Blk Bo (.cells #[.int .i64 kd, .int .i64 N, .bool two, .slice oad oW.length ocap] 44 (0, 0))]) := fun w m9 z d hz g => by
              obtain ⟨r1, r2, r3, r4⟩ := A1.out.read hz
              refine (t_read g 3 rfl A1.out.tw (by omega) r1 ⟨by omega, by omega⟩ (by omega)).mono ?_
              rintro e w' ⟨rfl, g2⟩
              exact ⟨_, _, by rw [r3], r4, g2⟩
            have HFL : Hid (∀ z d, f z = some d → d.length ≤ 8192) := fun z d hz => (A1.out.read hz).2.1
            go_wp2_with (first | (at_next; refine wp_next rfl (.tmp 227) rfl rfl (TQ.out.rg 5 rfl) ?_ ?_; rotate_left; intro z s w9 m9 hz hR9 hlt9 hF9 hen; have T9 : Hid (Things W w9 [Blk W.heap.size (.cells #[.int .i64 n, .int .i64 k, .slice adA A.length cA, .slice adB B.length cB] 26 (0, 0)), Anyt, Blk p (.cells (pairC a m h h' x y r r') 41 (0, 0)), S2 a m k (⟨M.has, M.bs, ss1⟩) h t (H) h' t' (hN B), D2 x y k (mN n) r (hN A) r' (hN B), Wst Bm rr nn f cnt m9, Blk Bo (.cells #[.int .i64 kd, .int .i64 N, .bool two, .slice oad oW.length ocap] 44 (0, 0))]) := TQ.out.walked 5 rfl hR9 hF9; have HLT := hid hlt9; have HLF := hid (TQ.out.rg 5 rfl).left; have hsl := HFL.out _ _ hz; have HZ := hid hz; clear hR9 hlt9 hF9 hz TQ; rotate_left))
            · have TE : Hid (Things W wr [Blk W.heap.size (.cells #[.int .i64 n, .int .i64 k, .slice adA A.length cA, .slice adB B.length cB] 26 (0, 0)), Anyt, Blk p (.cells (pairC a m h h' x y r r') 41 (0, 0)), S2 a m k (⟨M.has, M.bs, ss1⟩) h t (H) h' t' (hN B), D2 x y k (mN n) r (hN A) r' (hN B), Mst Bm nn f cnt, Blk Bo (.cells #[.int .i64 kd, .int .i64 N, .bool two, .slice oad oW.length ocap] 44 (0, 0))]) := TQ.out.walkEnd 5 rfl
              clear TQ HTB HRD HFL A1
              exact ⟨⟨j + 1, mm2, aa2, ⟨M.has, M.bs, ss1⟩, H, f, cnt, nn, by omega, by omega, by simp, ⟨AP.out.1.notes (by omega), hcm, hnm, hln⟩, Things.less (ts := [Blk W.heap.size (.cells #[.int .i64 n, .int .i64 k, .slice adA A.length cA, .slice adB B.length cB] 26 (0, 0)), Anyt, Blk p (.cells (pairC a m h h' x y r r') 41 (0, 0)), S2 a m k (⟨M.has, M.bs, ss1⟩) h t (H) h' t' (hN B), D2 x y k (mN n) r (hN A) r' (hN B), Mst Bm nn f cnt]) TE.out⟩, by simp only [intOf]; omega⟩
            · have TD : Hid (Things W w9.drew [Blk W.heap.size (.cells #[.int .i64 n, .int .i64 k, .slice adA A.length cA, .slice adB B.length cB] 26 (0, 0)), Anyt, Blk p (.cells (pairC a m h h' x y r r') 41 (0, 0)), S2 a m k (⟨M.has, M.bs, ss1⟩) h t (H) h' t' (hN B), D2 x y k (mN n) r (hN A) r' (hN B), Wst Bm rr nn f cnt m9, Blk Bo (.cells #[.int .i64 kd, .int .i64 N, .bool two, .slice oad oW.length ocap] 44 (0, 0))]) := T9.out.kept (Fr.refl _ _).drew
              have pc : w9.drew.cell? ⟨p, 0, none⟩ = some (.pointer (some ⟨a, 0, none⟩)) := box_cell (TD.out.cells 2 rfl) 0 rfl
              clear T9
              go_wp2_with fail
              go_region_held3 (fun w' => w'.cell? ⟨p, 0, none⟩ = some (.pointer (some ⟨a, 0, none⟩))) (first | assumption | go_keep) (first | (go_at_call 11; refine (HTB.out _ _ TD.out).mono ?_; rintro e v1 ⟨rfl, g1⟩; have T1 : Hid (Things W v1 [Blk W.heap.size (.cells #[.int .i64 n, .int .i64 k, .slice adA A.length cA, .slice adB B.length cB] 26 (0, 0)), Anyt, Blk p (.cells (pairC a m h h' x y r r') 41 (0, 0)), S2 a m k (⟨M.has, M.bs, ss1⟩) h t (H) h' t' (hN B), D2 x y k (mN n) r (hN A) r' (hN B), Wst Bm rr nn f cnt m9, Blk Bo (.cells #[.int .i64 kd, .int .i64 N, .bool two, .slice oad oW.length ocap] 44 (0, 0))]) := g1; clear g1; have pc1 : v1.cell? ⟨p, 0, none⟩ = some (.pointer (some ⟨a, 0, none⟩)) := box_cell (T1.out.cells 2 rfl) 0 rfl) | (go_at_call 10; refine (HRD.out _ _ _ _ HZ.out T1.out).mono ?_; rintro e v2 ⟨E, ss2, rfl, h2, g2⟩; have T2 : Hid (Things W v2 [Blk W.heap.size (.cells #[.int .i64 n, .int .i64 k, .slice adA A.length cA, .slice adB B.length cB] 26 (0, 0)), Anyt, Blk p (.cells (pairC a m h h' x y r r') 41 (0, 0)), S2 a m k (⟨M.has, M.bs, ss2⟩) h t (H) h' t' (hN B), D2 x y k (mN n) r (hN A) r' (hN B), Wst Bm rr nn f cnt m9, Blk Bo (.cells #[.int .i64 kd, .int .i64 N, .bool two, .slice oad oW.length ocap] 44 (0, 0))]) := g2; clear g2; have pc2 : v2.cell? ⟨p, 0, none⟩ = some (.pointer (some ⟨a, 0, none⟩)) := box_cell (T2.out.cells 2 rfl) 0 rfl))
              clear TD T1 HRD HTB
              go_wp2
              exact ⟨⟨m9, ss2, by have := HLT.out; omega, by have := HLT.out; omega, T2⟩, by rw [(T2.out.rg 5 rfl).left, HLF.out]; exact HLT.out⟩
end Go.Proofs.YtejbdbjccjkfdaaGreatDoor
