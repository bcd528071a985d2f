/-
  Behind Drop, and when each block was given back, all bytes are 0 and all pages free: the law's walk.
-/
import Derived.Test.YtihaifnenjngpaaGreatDoorAnMake
namespace Go.Proofs.YtihaifnenjngpaaGreatDoor
open Go.RowKit
open An

/-- A text told, where a region is walked in any order. -/
theorem conv_arm {P : Program} {w : World} {ops : Array Oper} {o : Oper} {a : Act} {K : Act → World → Prop} {Q : Exit → Act → World → Prop} (hgd : o.guard = none) (s : Operand) (t u : TypeId) (ho : o.op = .convert t u s) {y v : Value} (hs : a.eval s = y)
    (hrun : (convert t u y).run P w = .ok v w) (hK : K (a.put o.dst v) w) : if Region.wanted o (yielded ops a.tmps) = true then o.wp P a w K Q else K (a.put o.dst undef) w := by
  have hw : Region.wanted o (yielded ops a.tmps) = true := by unfold Region.wanted; rw [hgd]
  rw [if_pos hw]
  unfold Oper.wp
  simp [execOp, ho, hs, hrun, Result.andThen]
  exact hK
theorem run_row_text {w : World} {B u : Nat} {d : List UInt8} (h : w.heap[B]? = some (.cells (bc d).toArray 5 (0, 0))) (hd : d.length = u) : (convert 65 9 (.slice (some ⟨B, 0, none⟩) u u)).run Tryz.prog w = .ok (.string ⟨d.toArray⟩) w := by
  rw [run_bytes_string 65 5 9 Tryz.underlying65 Tryz.underlying5 Tryz.underlying9 h 0 u u (by omega), List.drop_zero, List.take_of_length_le (by omega)]
/-- A row made, where a region is walked in any order. -/
theorem make_arm {P : Program} {w w' : World} {ops : Array Oper} {o : Oper} {a : Act} {K : Act → World → Prop} {Q : Exit → Act → World → Prop} (hgd : o.guard = none) (s x : Operand) (t : TypeId) (ho : o.op = .makeSlice t s x) {y z v : Value} (hs : a.eval s = y) (hx : a.eval x = z)
    (hrun : (Instr.makeSlice t y z).run P w = .ok v w') (hK : K (a.put o.dst v) w') : if Region.wanted o (yielded ops a.tmps) = true then o.wp P a w K Q else K (a.put o.dst undef) w := by
  have hw : Region.wanted o (yielded ops a.tmps) = true := by unfold Region.wanted; rw [hgd]
  rw [if_pos hw]
  unfold Oper.wp
  simp [execOp, ho, hs, hx, hrun, Result.andThen]
  exact hK
theorem Two.notes {k b b' : Nat} {M : Ms} {H H' : Hp} (h : Two k b M H H') {ss' : List Sp} (hs : ss'.length ≤ b') : Two k b' ⟨M.has, M.bs, ss'⟩ H H' :=
  ⟨⟨h.ok.tp, h.ok.nd, h.ok.at_, h.ok.dom, h.ok.cov, h.ok.sm, h.ok.ln⟩, ⟨h.ok'.tp, h.ok'.nd, h.ok'.at_, h.ok'.dom, h.ok'.cov, h.ok'.sm, h.ok'.ln⟩, ⟨h.ms.len, h.ms.cap, h.ms.cl⟩, h.k1, h.k2, hs, h.W, h.W', h.dj⟩
/-- The first so many colours. -/
def cls (z : Nat) : List Int := (List.range z).map fun (c : Nat) => (c : Int)
theorem cls_succ (z : Nat) : cls (z + 1) = cls z ++ [(z : Int)] := by simp [cls, List.range_succ]
theorem cls_len (z : Nat) : (cls z).length = z := by simp [cls]
theorem cls_free {n k : Nat} (hk : 0 < k) : Cq.frI k (List.replicate n false) (cls k) = n := free_all hk fun c hc => List.mem_map.2 ⟨c, List.mem_range.2 hc, rfl⟩
theorem ix2h (a b : Value) (w : World) : (Instr.index 39 (.agg #[a, b]) (.int .i64 0)).run Tryz.prog w = .ok a w ∧ (Instr.index 39 (.agg #[a, b]) (.int .i64 1)).run Tryz.prog w = .ok b w := by
  constructor <;> simp [Instr.index, asIntOf, run_underlying Tryz.underlying39, Tryz.sizeOf36, part]
set_option maxRecDepth 20000 in
set_option maxHeartbeats 4000000 in
theorem clean_walk {W : World} (gr : G17 W) {c : C17} {sad : Option Addr} {cap : Nat} {l : List O17} {drop : Bool} (hc : CfgH W c) (ho : OpsH W sad l) (hmax : l.length ≤ maxLen) : Calls Tryz.prog 6 #[c.val, .slice sad l.length cap, .bool drop] W fun e w' => e = .returned (.bool true) ∧ Nw W w' := by
  have GR := hid gr
  have HO := hid ho
  have HCF := hid hc
  have HA : Hid (∀ w, Nw W w → Calls Tryz.prog 9 #[] w fun e w' => e = .returned (.bool true) ∧ Fr (fun _ => False) w w') := fun w h => (awake_any (Nw.start w) (gr.fr h.fr)).mono fun e w' ⟨h1, h2⟩ => ⟨h1, h2.fr⟩
  have hmax' := hmax
  unfold maxLen at hmax'
  obtain ⟨P, K, adA, cA, A, adB, cB, B⟩ := c
  have T0 : Hid (Things W (W.alloc (.cells #[.int .i64 P, .int .i64 K, .slice adA A.length cA, .slice adB B.length cB] 26)) [Blk W.heap.size (.cells #[.int .i64 P, .int .i64 K, .slice adA A.length cA, .slice adB B.length cB] 26 (0, 0))]) := (Things.start (Nw.start W)).blk _
  by_cases ok : Cq.Cfg P K
  case neg =>
    have HM := hid (made_no T0.out (c := ⟨P, K, adA, cA, A, adB, cB, B⟩) ok)
    clear gr hc ho ok hmax
    unfold C17.val at HM ⊢
    simp only at HM ⊢
    go_enter Tryz.func6, Tryz.ntmps6
    go_wp2_with fail
    refine HM.out.mono ?_
    rintro e w1 ⟨rfl, h1⟩
    have N1 := hid h1.nw
    clear h1 HM
    go_wp2_with fail
    refine (HA.out _ N1.out).mono ?_
    rintro e w2 ⟨rfl, h2⟩
    have N2 := hid (N1.out.kept h2)
    clear h2
    go_wp2_with fail
    refine (HA.out _ N2.out).mono ?_
    rintro e w3 ⟨rfl, h3⟩
    go_wp2
    go_ret
    exact ⟨by simp, N2.out.kept h3⟩
  obtain ⟨n, rfl⟩ : ∃ n : Nat, P = (n : Int) := ⟨P.toNat, by have := ok.2.2.1; omega⟩
  obtain ⟨k, rfl⟩ : ∃ k : Nat, K = (k : Int) := ⟨K.toNat, by have := ok.1; omega⟩
  have HM := hid (made1 T0.out gr hc ok)
  have HLG : Hid (∀ w, Nw W w → Calls Tryz.prog 10 #[C17.val ⟨n, k, adA, cA, A, adB, cB, B⟩, .slice sad l.length cap] w fun e w' => LongR ⟨n, k, adA, cA, A, adB, cB, B⟩ l e ∧ Fr (fun _ => False) w w') := fun w h => long_any (ho.fr h.fr) (hc.fr h.fr) hmax
  have HT2 := hid (two_new ok hc.la hc.lb)
  clear gr hc ho hmax
  unfold C17.val at HM HLG ⊢
  simp only at HM HLG ⊢
  go_enter Tryz.func6, Tryz.ntmps6
  go_wp2_with fail
  refine HM.out.mono ?_
  rintro e w1 ⟨p, a, m, h, t, h', t', x, y, r, r', rfl, h1⟩
  have T1 : Hid (Things W w1 [Blk W.heap.size (.cells #[.int .i64 n, .int .i64 k, .slice adA A.length cA, .slice adB B.length cB] 26 (0, 0)), Anyt, Blk p (.cells (pairC a m h h' x y r r') 45 (0, 0)), S2 a m k (mN n) h t (hN A) h' t' (hN B), D2 x y k (mN n) r (hN A) r' (hN B)]) := h1
  clear h1 HM T0
  go_wp2_with fail
  refine (HA.out _ T1.out.nw).mono ?_
  rintro e w2 ⟨rfl, h2⟩
  have T2 := hid (T1.out.kept h2)
  have b0 : w2.cell? ⟨W.heap.size, 0, none⟩ = some (.int .i64 n) := box_cell (T2.out.cells 0 rfl) 0 rfl
  have b1 : w2.cell? ⟨W.heap.size, 1, none⟩ = some (.int .i64 k) := box_cell (T2.out.cells 0 rfl) 1 rfl
  have b2 : w2.cell? ⟨W.heap.size, 2, none⟩ = some (.slice adA A.length cA) := box_cell (T2.out.cells 0 rfl) 2 rfl
  have b3 : w2.cell? ⟨W.heap.size, 3, none⟩ = some (.slice adB B.length cB) := box_cell (T2.out.cells 0 rfl) 3 rfl
  clear h2 T1
  go_wp2_with fail
  refine (HLG.out _ T2.out.nw).mono ?_
  rintro e w3 ⟨⟨b, rfl, hsh⟩, h3⟩
  have T3 := hid (T2.out.kept h3)
  clear h3 T2 HLG b0 b1 b2 b3
  cases b with
  | true =>
    go_wp2_with fail
    refine (HA.out _ T3.out.nw).mono ?_
    rintro e w4 ⟨rfl, h4⟩
    go_wp2
    go_ret
    exact ⟨by simp, T3.out.nw.kept h4⟩
  | false =>
    have HSH := hid (hsh rfl)
    clear hsh
    clear HA
    have HF0 : Hid (Cln n k 0 0 (mN n) (hN A) (hN B)) := Cln.new HT2.out rfl rfl
    have hlen : l.length ≤ 250 := HSH.out.len
    clear HT2 HSH hmax'
    go_wp2
    go_loopw [42] (fun i wr => ∃ (j : Nat) (M : Ms) (H H2 : Hp), j ≤ l.length ∧ i = .int .i64 j ∧ Hid (Cln n k (60 * j) j M H H2) ∧ Hid (Things W wr [Blk W.heap.size (.cells #[.int .i64 n, .int .i64 k, .slice adA A.length cA, .slice adB B.length cB] 26 (0, 0)), Anyt, Blk p (.cells (pairC a m h h' x y r r') 45 (0, 0)), S2 a m k (M) h t (H) h' t' (H2), D2 x y k (mN n) r (hN A) r' (hN B)])) (fun i _ => l.length - (intOf i).toNat)
    case atStart => exact ⟨0, _, _, _, by omega, rfl, HF0, T3⟩
    case round =>
      obtain ⟨j, M, H0, H1, hj, rfl, HI, T⟩ := hrel
      clear HF0 T3
      by_cases hlt : j < l.length
      case neg =>
        obtain rfl : l.length = j := by omega
        have pb2 : wr.cell? ⟨p, 2, none⟩ = some (.pointer (some ⟨h, 0, none⟩)) := box_cell (T.out.cells 2 rfl) 2 rfl
        have pb3 : wr.cell? ⟨p, 3, none⟩ = some (.pointer (some ⟨h', 0, none⟩)) := box_cell (T.out.cells 2 rfl) 3 rfl
        have HC0 : Hid (Cln n k 15000 250 M H0 H1) := HI.out.less (by omega) (by omega)
        clear HI
        go_wp2
        go_loopw [116] (fun i wr => ∃ (i0 : Nat) (M : Ms) (H H2 : Hp), i0 ≤ 2 ∧ i = .int .i64 i0 ∧ Hid (Cln n k (15000 + 5000 * i0) 250 M H H2 ∧ (1 ≤ i0 → H.T = []) ∧ (2 ≤ i0 → H2.T = [])) ∧ Hid (Things W wr [Blk W.heap.size (.cells #[.int .i64 n, .int .i64 k, .slice adA A.length cA, .slice adB B.length cB] 26 (0, 0)), Anyt, Blk p (.cells (pairC a m h h' x y r r') 45 (0, 0)), S2 a m k (M) h t (H) h' t' (H2), D2 x y k (mN n) r (hN A) r' (hN B)])) (fun i _ => 2 - (intOf i).toNat)
        case atStart => exact ⟨0, M, H0, H1, by omega, rfl, ⟨HC0.out, by omega, by omega⟩, T⟩
        case round =>
          clear HC0 T pb2 pb3
          obtain ⟨i0, M, H0, H1, hi0, rfl, HI, T⟩ := hrel
          have h3 : i0 = 0 ∨ i0 = 1 ∨ i0 = 2 := by omega
          rcases h3 with rfl | rfl | rfl
          · have T0 : Hid (Things W wr [Blk W.heap.size (.cells #[.int .i64 n, .int .i64 k, .slice adA A.length cA, .slice adB B.length cB] 26 (0, 0)), Anyt, Blk p (.cells (pairC a m h h' x y r r') 45 (0, 0)), S2 a m k (M) h t (H0) h' t' (H1), D2 x y k (mN n) r (hN A) r' (hN B)]) := T
            have TW : Hid (Cln n k 15000 250 M H0 H1) := HI.out.1
            have HE : Hid (1 ≤ 0 → H0.T = []) := HI.out.2.1
            have hix := (ix2h (.pointer (some ⟨h, 0, none⟩)) (.pointer (some ⟨h', 0, none⟩)) wr).1
            clear HI T
            cases drop with
            | true =>
              have HDR := hid fun (w : World) (q : Things W w [Blk W.heap.size (.cells #[.int .i64 n, .int .i64 k, .slice adA A.length cA, .slice adB B.length cB] 26 (0, 0)), Anyt, Blk p (.cells (pairC a m h h' x y r r') 45 (0, 0)), S2 a m k (M) h t (H0) h' t' (H1), D2 x y k (mN n) r (hN A) r' (hN B)]) => t_drop q GR.out 3 rfl TW.out.tw (by omega)
              have TD := hid TW.out.drop
              go_wp2_with fail
              refine (HDR.out _ T0.out).mono ?_
              rintro e v1 ⟨rfl, g1⟩
              have T1 : Hid (Things W v1 [Blk W.heap.size (.cells #[.int .i64 n, .int .i64 k, .slice adA A.length cA, .slice adB B.length cB] 26 (0, 0)), Anyt, Blk p (.cells (pairC a m h h' x y r r') 45 (0, 0)), S2 a m k ((hDr M H0).1) h t ((hDr M H0).2) h' t' (H1), D2 x y k (mN n) r (hN A) r' (hN B)]) := g1
              clear g1 HDR T0
              have TE2 : Hid (Things W _ [Blk W.heap.size (.cells #[.int .i64 n, .int .i64 k, .slice adA A.length cA, .slice adB B.length cB] 26 (0, 0)), Anyt, Blk p (.cells (pairC a m h h' x y r r') 45 (0, 0)), S2 a m k ((hDr M H0).1) h t ((hDr M H0).2) h' t' (H1), D2 x y k (mN n) r (hN A) r' (hN B)]) := T1.out
              go_wp2
              go_roundw
              case rel => exact ⟨1, (hDr M H0).1, (hDr M H0).2, H1, by omega, by go_num, ⟨(TD.out.less (by omega) (by omega)), fun _ => rfl, by omega⟩, TE2⟩
              case measure => simp [intOf]; try omega
            | false =>
              have HBL := hid fun (w : World) (q : Things W w [Blk W.heap.size (.cells #[.int .i64 n, .int .i64 k, .slice adA A.length cA, .slice adB B.length cB] 26 (0, 0)), Anyt, Blk p (.cells (pairC a m h h' x y r r') 45 (0, 0)), S2 a m k (M) h t (H0) h' t' (H1), D2 x y k (mN n) r (hN A) r' (hN B)]) => t_blocks q GR.out 3 rfl TW.out.tw (by omega)
              go_wp2_with fail
              refine (HBL.out _ T0.out).mono ?_
              rintro e v1 ⟨lad, lcap, rfl, g1⟩
              have T1 : Hid (Things W v1 [Blk W.heap.size (.cells #[.int .i64 n, .int .i64 k, .slice adA A.length cA, .slice adB B.length cB] 26 (0, 0)), Anyt, Blk p (.cells (pairC a m h h' x y r r') 45 (0, 0)), S2 a m k (M) h t (H0) h' t' (H1), D2 x y k (mN n) r (hN A) r' (hN B), Lv lad (hBl H0.L)]) := g1
              clear g1 HBL T0
              have HG : Hid (Gone (hBl H0.L) 0 H0 ∧ (hBl H0.L).Nodup ∧ (hBl H0.L).length ≤ 250) := ⟨Gone.start TW.out.tw.ok, bl_nodup _, TW.out.b1⟩
              have hlb : (hBl H0.L).length ≤ 250 := HG.out.2.2
              generalize hBl H0.L = LB at *
              go_wp2
              go_loopw [125] (fun i wr => ∃ (z : Nat) (M : Ms) (H : Hp), z ≤ LB.length ∧ i = .int .i64 z ∧ Hid (Cln n k (15000 + 18 * z) 250 M H H1 ∧ Gone LB z H) ∧ Hid (Things W wr [Blk W.heap.size (.cells #[.int .i64 n, .int .i64 k, .slice adA A.length cA, .slice adB B.length cB] 26 (0, 0)), Anyt, Blk p (.cells (pairC a m h h' x y r r') 45 (0, 0)), S2 a m k (M) h t (H) h' t' (H1), D2 x y k (mN n) r (hN A) r' (hN B), Lv lad LB])) (fun i _ => LB.length - (intOf i).toNat)
              case atStart => exact ⟨0, _, _, by omega, rfl, ⟨TW.out, HG.out.1⟩, T1⟩
              case round =>
                clear T1 TW
                obtain ⟨z, M, H, hz, rfl, HI, T⟩ := hrel
                by_cases hlt : z < LB.length
                case neg =>
                  obtain rfl : LB.length = z := by omega
                  have TF : Hid (Cln n k (15000 + 18 * LB.length) 250 M H H1) := HI.out.1
                  have HX : Hid (H.T = []) := HI.out.2.done HI.out.1.tw.ok HI.out.1.u1
                  have T2 : Hid (Things W wr [Blk W.heap.size (.cells #[.int .i64 n, .int .i64 k, .slice adA A.length cA, .slice adB B.length cB] 26 (0, 0)), Anyt, Blk p (.cells (pairC a m h h' x y r r') 45 (0, 0)), S2 a m k (M) h t (H) h' t' (H1), D2 x y k (mN n) r (hN A) r' (hN B)]) := Things.less (ts := [Blk W.heap.size (.cells #[.int .i64 n, .int .i64 k, .slice adA A.length cA, .slice adB B.length cB] 26 (0, 0)), Anyt, Blk p (.cells (pairC a m h h' x y r r') 45 (0, 0)), S2 a m k (M) h t (H) h' t' (H1), D2 x y k (mN n) r (hN A) r' (hN B)]) T.out
                  clear HI T HG
                  have TE2 : Hid (Things W _ [Blk W.heap.size (.cells #[.int .i64 n, .int .i64 k, .slice adA A.length cA, .slice adB B.length cB] 26 (0, 0)), Anyt, Blk p (.cells (pairC a m h h' x y r r') 45 (0, 0)), S2 a m k (M) h t (H) h' t' (H1), D2 x y k (mN n) r (hN A) r' (hN B)]) := T2.out
                  go_wp2
                  go_roundw
                  case rel => exact ⟨1, M, H, H1, by omega, by go_num, ⟨(TF.out.less (by omega) (by omega)), fun _ => HX.out, by omega⟩, TE2⟩
                  case measure => simp [intOf]; try omega
                obtain ⟨lb0, loff, rfl, hlb0, hlc⟩ := (T.out.nums 5 rfl) z hlt
                obtain ⟨cc, ss, jj, hhad, hat⟩ := HI.out.2.all LB[z] (by rw [List.drop_eq_getElem_cons hlt]; exact List.mem_cons_self)
                rw [hat] at hlc
                obtain ⟨hpt, hcc, hss⟩ := hhad.there HI.out.1.tw.ok
                have hF0 := findR_of hpt
                have hi64 : I64 (adI cc ss jj) := by have := hpt.inside; have := unitI_range cc (by omega) (by omega); exact ⟨by omega, by omega⟩
                have hfr : hFr M H cc ss jj 0 = hF M H cc ss jj := by unfold hFr; rw [if_pos rfl, Int.toNat_natCast, Int.toNat_natCast]
                have HFR := hid fun (w : World) (q : Things W w [Blk W.heap.size (.cells #[.int .i64 n, .int .i64 k, .slice adA A.length cA, .slice adB B.length cB] 26 (0, 0)), Anyt, Blk p (.cells (pairC a m h h' x y r r') 45 (0, 0)), S2 a m k (M) h t (H) h' t' (H1), D2 x y k (mN n) r (hN A) r' (hN B), Lv (some ⟨lb0, loff, none⟩) LB]) => t_free q GR.out 3 rfl HI.out.1.tw (by omega) hF0 hi64
                have TF := hid (HI.out.1.free hhad)
                have GF := hid (HI.out.2.step HI.out.1.tw.ok HG.out.2.1 hlt hhad hat)
                have he := (hF_had HI.out.1.tw.ok hhad).1
                rw [hfr, he] at HFR
                clear HI hat hpt hF0 hi64 hfr hhad he hcc hss
                generalize adI cc ss jj = za at *
                go_wp2_with fail
                refine (HFR.out _ T.out).mono ?_
                rintro e v3 ⟨rfl, g3⟩
                have T4 : Hid (Things W v3 [Blk W.heap.size (.cells #[.int .i64 n, .int .i64 k, .slice adA A.length cA, .slice adB B.length cB] 26 (0, 0)), Anyt, Blk p (.cells (pairC a m h h' x y r r') 45 (0, 0)), S2 a m k ((hF M H cc ss jj).1) h t ((hF M H cc ss jj).2.1) h' t' (H1), D2 x y k (mN n) r (hN A) r' (hN B), Lv (some ⟨lb0, loff, none⟩) LB]) := g3
                clear g3 T HFR
                go_wp2
                go_roundw
                case rel => exact ⟨z + 1, _, _, by omega, by go_num, ⟨TF.out.less (by omega) (by omega), GF.out⟩, T4⟩
                case measure => simp [intOf]; omega
          · have T0 : Hid (Things W wr [Blk W.heap.size (.cells #[.int .i64 n, .int .i64 k, .slice adA A.length cA, .slice adB B.length cB] 26 (0, 0)), Anyt, Blk p (.cells (pairC a m h h' x y r r') 45 (0, 0)), S2 a m k (M) h' t' (H1) h t (H0), D2 x y k (mN n) r (hN A) r' (hN B)]) := T.out.swap2 3 rfl
            have TW : Hid (Cln n k 20000 250 M H1 H0) := HI.out.1.swap
            have HE : Hid (1 ≤ 1 → H0.T = []) := HI.out.2.1
            have hix := (ix2h (.pointer (some ⟨h, 0, none⟩)) (.pointer (some ⟨h', 0, none⟩)) wr).2
            clear HI T
            cases drop with
            | true =>
              have HDR := hid fun (w : World) (q : Things W w [Blk W.heap.size (.cells #[.int .i64 n, .int .i64 k, .slice adA A.length cA, .slice adB B.length cB] 26 (0, 0)), Anyt, Blk p (.cells (pairC a m h h' x y r r') 45 (0, 0)), S2 a m k (M) h' t' (H1) h t (H0), D2 x y k (mN n) r (hN A) r' (hN B)]) => t_drop q GR.out 3 rfl TW.out.tw (by omega)
              have TD := hid TW.out.drop
              go_wp2_with fail
              refine (HDR.out _ T0.out).mono ?_
              rintro e v1 ⟨rfl, g1⟩
              have T1 : Hid (Things W v1 [Blk W.heap.size (.cells #[.int .i64 n, .int .i64 k, .slice adA A.length cA, .slice adB B.length cB] 26 (0, 0)), Anyt, Blk p (.cells (pairC a m h h' x y r r') 45 (0, 0)), S2 a m k ((hDr M H1).1) h' t' ((hDr M H1).2) h t (H0), D2 x y k (mN n) r (hN A) r' (hN B)]) := g1
              clear g1 HDR T0
              have TE2 : Hid (Things W _ [Blk W.heap.size (.cells #[.int .i64 n, .int .i64 k, .slice adA A.length cA, .slice adB B.length cB] 26 (0, 0)), Anyt, Blk p (.cells (pairC a m h h' x y r r') 45 (0, 0)), S2 a m k ((hDr M H1).1) h t (H0) h' t' ((hDr M H1).2), D2 x y k (mN n) r (hN A) r' (hN B)]) := Things.swap2 (ts := [Blk W.heap.size (.cells #[.int .i64 n, .int .i64 k, .slice adA A.length cA, .slice adB B.length cB] 26 (0, 0)), Anyt, Blk p (.cells (pairC a m h h' x y r r') 45 (0, 0)), S2 a m k ((hDr M H1).1) h' t' ((hDr M H1).2) h t (H0), D2 x y k (mN n) r (hN A) r' (hN B)]) T1.out 3 rfl
              go_wp2
              go_roundw
              case rel => exact ⟨2, (hDr M H1).1, H0, (hDr M H1).2, by omega, by go_num, ⟨(TD.out.less (by omega) (by omega)).swap, fun _ => HE.out (by omega), fun _ => rfl⟩, TE2⟩
              case measure => simp [intOf]; try omega
            | false =>
              have HBL := hid fun (w : World) (q : Things W w [Blk W.heap.size (.cells #[.int .i64 n, .int .i64 k, .slice adA A.length cA, .slice adB B.length cB] 26 (0, 0)), Anyt, Blk p (.cells (pairC a m h h' x y r r') 45 (0, 0)), S2 a m k (M) h' t' (H1) h t (H0), D2 x y k (mN n) r (hN A) r' (hN B)]) => t_blocks q GR.out 3 rfl TW.out.tw (by omega)
              go_wp2_with fail
              refine (HBL.out _ T0.out).mono ?_
              rintro e v1 ⟨lad, lcap, rfl, g1⟩
              have T1 : Hid (Things W v1 [Blk W.heap.size (.cells #[.int .i64 n, .int .i64 k, .slice adA A.length cA, .slice adB B.length cB] 26 (0, 0)), Anyt, Blk p (.cells (pairC a m h h' x y r r') 45 (0, 0)), S2 a m k (M) h' t' (H1) h t (H0), D2 x y k (mN n) r (hN A) r' (hN B), Lv lad (hBl H1.L)]) := g1
              clear g1 HBL T0
              have HG : Hid (Gone (hBl H1.L) 0 H1 ∧ (hBl H1.L).Nodup ∧ (hBl H1.L).length ≤ 250) := ⟨Gone.start TW.out.tw.ok, bl_nodup _, TW.out.b1⟩
              have hlb : (hBl H1.L).length ≤ 250 := HG.out.2.2
              generalize hBl H1.L = LB at *
              go_wp2
              go_loopw [125] (fun i wr => ∃ (z : Nat) (M : Ms) (H : Hp), z ≤ LB.length ∧ i = .int .i64 z ∧ Hid (Cln n k (20000 + 18 * z) 250 M H H0 ∧ Gone LB z H) ∧ Hid (Things W wr [Blk W.heap.size (.cells #[.int .i64 n, .int .i64 k, .slice adA A.length cA, .slice adB B.length cB] 26 (0, 0)), Anyt, Blk p (.cells (pairC a m h h' x y r r') 45 (0, 0)), S2 a m k (M) h' t' (H) h t (H0), D2 x y k (mN n) r (hN A) r' (hN B), Lv lad LB])) (fun i _ => LB.length - (intOf i).toNat)
              case atStart => exact ⟨0, _, _, by omega, rfl, ⟨TW.out, HG.out.1⟩, T1⟩
              case round =>
                clear T1 TW
                obtain ⟨z, M, H, hz, rfl, HI, T⟩ := hrel
                by_cases hlt : z < LB.length
                case neg =>
                  obtain rfl : LB.length = z := by omega
                  have TF : Hid (Cln n k (20000 + 18 * LB.length) 250 M H H0) := HI.out.1
                  have HX : Hid (H.T = []) := HI.out.2.done HI.out.1.tw.ok HI.out.1.u1
                  have T2 : Hid (Things W wr [Blk W.heap.size (.cells #[.int .i64 n, .int .i64 k, .slice adA A.length cA, .slice adB B.length cB] 26 (0, 0)), Anyt, Blk p (.cells (pairC a m h h' x y r r') 45 (0, 0)), S2 a m k (M) h' t' (H) h t (H0), D2 x y k (mN n) r (hN A) r' (hN B)]) := Things.less (ts := [Blk W.heap.size (.cells #[.int .i64 n, .int .i64 k, .slice adA A.length cA, .slice adB B.length cB] 26 (0, 0)), Anyt, Blk p (.cells (pairC a m h h' x y r r') 45 (0, 0)), S2 a m k (M) h' t' (H) h t (H0), D2 x y k (mN n) r (hN A) r' (hN B)]) T.out
                  clear HI T HG
                  have TE2 : Hid (Things W _ [Blk W.heap.size (.cells #[.int .i64 n, .int .i64 k, .slice adA A.length cA, .slice adB B.length cB] 26 (0, 0)), Anyt, Blk p (.cells (pairC a m h h' x y r r') 45 (0, 0)), S2 a m k (M) h t (H0) h' t' (H), D2 x y k (mN n) r (hN A) r' (hN B)]) := Things.swap2 (ts := [Blk W.heap.size (.cells #[.int .i64 n, .int .i64 k, .slice adA A.length cA, .slice adB B.length cB] 26 (0, 0)), Anyt, Blk p (.cells (pairC a m h h' x y r r') 45 (0, 0)), S2 a m k (M) h' t' (H) h t (H0), D2 x y k (mN n) r (hN A) r' (hN B)]) T2.out 3 rfl
                  go_wp2
                  go_roundw
                  case rel => exact ⟨2, M, H0, H, by omega, by go_num, ⟨(TF.out.less (by omega) (by omega)).swap, fun _ => HE.out (by omega), fun _ => HX.out⟩, TE2⟩
                  case measure => simp [intOf]; try omega
                obtain ⟨lb0, loff, rfl, hlb0, hlc⟩ := (T.out.nums 5 rfl) z hlt
                obtain ⟨cc, ss, jj, hhad, hat⟩ := HI.out.2.all LB[z] (by rw [List.drop_eq_getElem_cons hlt]; exact List.mem_cons_self)
                rw [hat] at hlc
                obtain ⟨hpt, hcc, hss⟩ := hhad.there HI.out.1.tw.ok
                have hF0 := findR_of hpt
                have hi64 : I64 (adI cc ss jj) := by have := hpt.inside; have := unitI_range cc (by omega) (by omega); exact ⟨by omega, by omega⟩
                have hfr : hFr M H cc ss jj 0 = hF M H cc ss jj := by unfold hFr; rw [if_pos rfl, Int.toNat_natCast, Int.toNat_natCast]
                have HFR := hid fun (w : World) (q : Things W w [Blk W.heap.size (.cells #[.int .i64 n, .int .i64 k, .slice adA A.length cA, .slice adB B.length cB] 26 (0, 0)), Anyt, Blk p (.cells (pairC a m h h' x y r r') 45 (0, 0)), S2 a m k (M) h' t' (H) h t (H0), D2 x y k (mN n) r (hN A) r' (hN B), Lv (some ⟨lb0, loff, none⟩) LB]) => t_free q GR.out 3 rfl HI.out.1.tw (by omega) hF0 hi64
                have TF := hid (HI.out.1.free hhad)
                have GF := hid (HI.out.2.step HI.out.1.tw.ok HG.out.2.1 hlt hhad hat)
                have he := (hF_had HI.out.1.tw.ok hhad).1
                rw [hfr, he] at HFR
                clear HI hat hpt hF0 hi64 hfr hhad he hcc hss
                generalize adI cc ss jj = za at *
                go_wp2_with fail
                refine (HFR.out _ T.out).mono ?_
                rintro e v3 ⟨rfl, g3⟩
                have T4 : Hid (Things W v3 [Blk W.heap.size (.cells #[.int .i64 n, .int .i64 k, .slice adA A.length cA, .slice adB B.length cB] 26 (0, 0)), Anyt, Blk p (.cells (pairC a m h h' x y r r') 45 (0, 0)), S2 a m k ((hF M H cc ss jj).1) h' t' ((hF M H cc ss jj).2.1) h t (H0), D2 x y k (mN n) r (hN A) r' (hN B), Lv (some ⟨lb0, loff, none⟩) LB]) := g3
                clear g3 T HFR
                go_wp2
                go_roundw
                case rel => exact ⟨z + 1, _, _, by omega, by go_num, ⟨TF.out.less (by omega) (by omega), GF.out⟩, T4⟩
                case measure => simp [intOf]; omega
          · have TW : Hid (Two k 25000 M H0 H1) := HI.out.1.tw
            have HCL := hid (HI.out.1.clean (HI.out.2.1 (by omega)) (HI.out.2.2 (by omega)))
            have HT0 : Hid (H0.T = []) := HI.out.2.1 (by omega)
            have HT1 : Hid (H1.T = []) := HI.out.2.2 (by omega)
            have hn : n ≤ 4096 := by have := ok.2.2.2.1; omega
            have hk : 1 ≤ k ∧ k ≤ 32 := ⟨by have := ok.1; omega, by have := ok.2.1; omega⟩
            obtain ⟨Z, hZ⟩ : ∃ Z, n * 512 = Z := ⟨_, rfl⟩
            have HSZ : Hid (∀ (w : World) (M : Ms) (ts : List (World → (Nat → Prop) → Prop)), ts[3]? = some (S2 a m k (M) h t (H0) h' t' (H1)) → M.bs.length = Z → Things W w ts → Calls Tryz.prog 25 #[.pointer (some ⟨a, 0, none⟩)] w fun e w' => e = .returned (.int .i64 Z) ∧ Things W w' ts) := fun w M ts hts hl q => by
              have := t_size q 3 hts
              rw [hl] at this
              exact this
            have hbz : M.bs = zs Z := by rw [← hZ]; exact HCL.out.2
            have hbl : M.bs.length = Z := by rw [hbz, zs_length]
            have HRD : Hid (∀ w : World, Things W w [Blk W.heap.size (.cells #[.int .i64 n, .int .i64 k, .slice adA A.length cA, .slice adB B.length cB] 26 (0, 0)), Anyt, Blk p (.cells (pairC a m h h' x y r r') 45 (0, 0)), S2 a m k (M) h t (H0) h' t' (H1), D2 x y k (mN n) r (hN A) r' (hN B)] → Calls Tryz.prog 24 #[.pointer (some ⟨a, 0, none⟩), .int .i64 0, .int .i64 Z] w fun e w' => ∃ M2 : Ms, e = .returned (.tuple #[.string ⟨(zs Z).toArray⟩, .int .i64 0]) ∧ (Two k 30000 M2 H0 H1 ∧ M2.has = List.replicate n false ∧ M2.bs.length = Z) ∧ Things W w' [Blk W.heap.size (.cells #[.int .i64 n, .int .i64 k, .slice adA A.length cA, .slice adB B.length cB] 26 (0, 0)), Anyt, Blk p (.cells (pairC a m h h' x y r r') 45 (0, 0)), S2 a m k (M2) h t (H0) h' t' (H1), D2 x y k (mN n) r (hN A) r' (hN B)]) := fun w q => by
              refine (t_aread q 3 rfl 0 Z (by omega) (by have := TW.out.ss; omega)).mono ?_
              rintro e w' ⟨rfl, g⟩
              refine ⟨⟨M.has, M.bs, noted M.ss ((0 : Nat) : Int) (Z : Int) false⟩, ?_, ⟨TW.out.notes ?_, HCL.out.1, hbl⟩, g⟩
              · rw [hbz, List.drop_zero, List.take_of_length_le (by rw [zs_length]; omega)]
              · have := noted_le M.ss ((0 : Nat) : Int) (Z : Int) false
                have := TW.out.ss
                omega
            have HMK : Hid (∀ w : World, (Instr.makeSlice 65 (.int .i64 Z) (.int .i64 Z)).run Tryz.prog w = .ok (.slice (some ⟨w.heap.size, 0, none⟩) Z Z) (w.alloc (.cells (bc (zs Z)).toArray 5)) ∧ (convert 65 9 (.slice (some ⟨w.heap.size, 0, none⟩) Z Z)).run Tryz.prog (w.alloc (.cells (bc (zs Z)).toArray 5)) = .ok (.string ⟨(zs Z).toArray⟩) (w.alloc (.cells (bc (zs Z)).toArray 5))) := fun w => ⟨run_make_bytes w Z (by omega), run_made_text w Z⟩
            have TD : Hid (Things W wr.drew [Blk W.heap.size (.cells #[.int .i64 n, .int .i64 k, .slice adA A.length cA, .slice adB B.length cB] 26 (0, 0)), Anyt, Blk p (.cells (pairC a m h h' x y r r') 45 (0, 0)), S2 a m k (M) h t (H0) h' t' (H1), D2 x y k (mN n) r (hN A) r' (hN B)]) := T.out.kept (Fr.refl _ _).drew
            have pc : wr.drew.cell? ⟨p, 0, none⟩ = some (.pointer (some ⟨a, 0, none⟩)) := box_cell (TD.out.cells 2 rfl) 0 rfl
            clear HI T HCL TW hbz hZ
            generalize zs Z = zz at *
            go_wp2_with fail
            go_region_held3 (fun w' => w'.cell? ⟨p, 0, none⟩ = some (.pointer (some ⟨a, 0, none⟩))) (first | assumption | go_keep) (first | (go_at_call 25; refine (HSZ.out _ _ _ rfl hbl TD.out).mono ?_; rintro e v1 ⟨rfl, g1⟩; have T1 : Hid (Things W v1 [Blk W.heap.size (.cells #[.int .i64 n, .int .i64 k, .slice adA A.length cA, .slice adB B.length cB] 26 (0, 0)), Anyt, Blk p (.cells (pairC a m h h' x y r r') 45 (0, 0)), S2 a m k (M) h t (H0) h' t' (H1), D2 x y k (mN n) r (hN A) r' (hN B)]) := g1; clear g1; have pc1 : v1.cell? ⟨p, 0, none⟩ = some (.pointer (some ⟨a, 0, none⟩)) := box_cell (T1.out.cells 2 rfl) 0 rfl) | (go_at_call 24; refine (HRD.out _ T1.out).mono ?_; rintro e v2 ⟨M2, rfl, h2, g2⟩; have T2 : Hid (Things W v2 [Blk W.heap.size (.cells #[.int .i64 n, .int .i64 k, .slice adA A.length cA, .slice adB B.length cB] 26 (0, 0)), Anyt, Blk p (.cells (pairC a m h h' x y r r') 45 (0, 0)), S2 a m k (M2) h t (H0) h' t' (H1), D2 x y k (mN n) r (hN A) r' (hN B)]) := g2; have HM2 := hid h2; clear g2 h2; have pc2 : v2.cell? ⟨p, 0, none⟩ = some (.pointer (some ⟨a, 0, none⟩)) := box_cell (T2.out.cells 2 rfl) 0 rfl))
            have pk : v2.cell? ⟨W.heap.size, 1, none⟩ = some (.int .i64 k) := box_cell (T2.out.cells 0 rfl) 1 rfl
            have T3 : Hid (Things W v2 [Blk W.heap.size (.cells #[.int .i64 n, .int .i64 k, .slice adA A.length cA, .slice adB B.length cB] 26 (0, 0)), Anyt, Blk p (.cells (pairC a m h h' x y r r') 45 (0, 0)), S2 a m k (M2) h t (H0) h' t' (H1), D2 x y k (mN n) r (hN A) r' (hN B), Rw W.heap.size (.slice none 0 0) []]) := T2.out.more (Rw.good _ _ _) (Rw.empty _ _) (Fr.refl _ _) fun _ e => e.elim
            clear TD T1 T2 HRD hbl
            go_wp2
            go_loopw [24, 151] (fun yy i wr => ∃ z : Nat, z ≤ k ∧ i = .int .i64 z ∧ Hid (Things W wr [Blk W.heap.size (.cells #[.int .i64 n, .int .i64 k, .slice adA A.length cA, .slice adB B.length cB] 26 (0, 0)), Anyt, Blk p (.cells (pairC a m h h' x y r r') 45 (0, 0)), S2 a m k (M2) h t (H0) h' t' (H1), D2 x y k (mN n) r (hN A) r' (hN B), Rw W.heap.size yy (cls z)])) (fun _ i _ => k - (intOf i).toNat)
            case atStart => exact ⟨0, by omega, rfl, T3⟩
            case round =>
              clear T3
              obtain ⟨z, hz, rfl, T⟩ := hrel
              by_cases hlt : z < k
              · have HR := hid (T.out.push 5 rfl).1
                have hbs : W.heap.size ≤ wr.heap.size := T.out.nw.le
                have hcl : (cls z).length ≤ 32 := by rw [cls_len]; omega
                go_wp2_with (at_builtin; refine push1s rfl (.tmp 154) (.tmp 156) rfl W.heap.size _ _ (z : Int) rfl (HR.out.alloc _) wr.heap.size rfl (by simp) (by omega) (by simp; omega) ?_)
                intro g cap6 w6 hown hg hw6
                have T6 : Hid (Things W w6 [Blk W.heap.size (.cells #[.int .i64 n, .int .i64 k, .slice adA A.length cA, .slice adB B.length cB] 26 (0, 0)), Anyt, Blk p (.cells (pairC a m h h' x y r r') 45 (0, 0)), S2 a m k (M2) h t (H0) h' t' (H1), D2 x y k (mN n) r (hN A) r' (hN B), Rw W.heap.size (.slice (some ⟨g, 0, none⟩) ((cls z).length + 1) cap6) (cls z ++ [(z : Int)])]) := (T.out.push 5 rfl).2 ((Fr.refl _ _).alloc _) hown rfl hg (hw6.imp id fun e => by omega)
                rw [← cls_succ] at T6
                clear hown hg hw6 HR T
                go_wp2
                go_roundw
                case rel => exact ⟨z + 1, by omega, by go_num, T6⟩
                case measure => simp [intOf]; omega
              · obtain rfl : k = z := by omega
                obtain ⟨ad2, cap2, rfl, -⟩ := T.out.row 5 rfl
                have HFE : Hid (∀ w : World, Things W w [Blk W.heap.size (.cells #[.int .i64 n, .int .i64 k, .slice adA A.length cA, .slice adB B.length cB] 26 (0, 0)), Anyt, Blk p (.cells (pairC a m h h' x y r r') 45 (0, 0)), S2 a m k (M2) h t (H0) h' t' (H1), D2 x y k (mN n) r (hN A) r' (hN B), Rw W.heap.size (.slice ad2 (cls k).length cap2) (cls k)] → Calls Tryz.prog 41 #[.pointer (some ⟨m, 0, none⟩), .slice ad2 (cls k).length cap2] w fun e w' => e = .returned (.int .i64 n) ∧ Things W w' [Blk W.heap.size (.cells #[.int .i64 n, .int .i64 k, .slice adA A.length cA, .slice adB B.length cB] 26 (0, 0)), Anyt, Blk p (.cells (pairC a m h h' x y r r') 45 (0, 0)), S2 a m k (M2) h t (H0) h' t' (H1), D2 x y k (mN n) r (hN A) r' (hN B), Rw W.heap.size (.slice ad2 (cls k).length cap2) (cls k)]) := fun w q => by
                  have hq := t_mfree q GR.out 3 rfl 5 (cap := cap2) rfl (by decide) rfl (by rw [cls_len]; omega)
                  rw [HM2.out.2.1, cls_free (by omega)] at hq
                  exact hq
                have HPG : Hid (∀ w : World, Things W w [Blk W.heap.size (.cells #[.int .i64 n, .int .i64 k, .slice adA A.length cA, .slice adB B.length cB] 26 (0, 0)), Anyt, Blk p (.cells (pairC a m h h' x y r r') 45 (0, 0)), S2 a m k (M2) h t (H0) h' t' (H1), D2 x y k (mN n) r (hN A) r' (hN B), Rw W.heap.size (.slice ad2 (cls k).length cap2) (cls k)] → Calls Tryz.prog 14 #[.pointer (some ⟨h, 0, none⟩)] w fun e w' => e = .returned (.int .i64 0) ∧ Things W w' [Blk W.heap.size (.cells #[.int .i64 n, .int .i64 k, .slice adA A.length cA, .slice adB B.length cB] 26 (0, 0)), Anyt, Blk p (.cells (pairC a m h h' x y r r') 45 (0, 0)), S2 a m k (M2) h t (H0) h' t' (H1), D2 x y k (mN n) r (hN A) r' (hN B), Rw W.heap.size (.slice ad2 (cls k).length cap2) (cls k)]) := fun w q => by
                  have hq := t_pages q 3 rfl HM2.out.1 (by omega)
                  rw [HT0.out] at hq
                  exact hq
                have HPH : Hid (∀ w : World, Things W w [Blk W.heap.size (.cells #[.int .i64 n, .int .i64 k, .slice adA A.length cA, .slice adB B.length cB] 26 (0, 0)), Anyt, Blk p (.cells (pairC a m h h' x y r r') 45 (0, 0)), S2 a m k (M2) h t (H0) h' t' (H1), D2 x y k (mN n) r (hN A) r' (hN B), Rw W.heap.size (.slice ad2 (cls k).length cap2) (cls k)] → Calls Tryz.prog 14 #[.pointer (some ⟨h', 0, none⟩)] w fun e w' => e = .returned (.int .i64 0) ∧ Things W w' [Blk W.heap.size (.cells #[.int .i64 n, .int .i64 k, .slice adA A.length cA, .slice adB B.length cB] 26 (0, 0)), Anyt, Blk p (.cells (pairC a m h h' x y r r') 45 (0, 0)), S2 a m k (M2) h t (H0) h' t' (H1), D2 x y k (mN n) r (hN A) r' (hN B), Rw W.heap.size (.slice ad2 (cls k).length cap2) (cls k)]) := fun w q => by
                  have hq := t_pages (Things.swap2 q 3 rfl) 3 rfl HM2.out.1.swap (by omega)
                  rw [HT1.out] at hq
                  exact hq.mono fun e w' ⟨h1, h2⟩ => ⟨h1, Things.swap2 (ts := [Blk W.heap.size (.cells #[.int .i64 n, .int .i64 k, .slice adA A.length cA, .slice adB B.length cB] 26 (0, 0)), Anyt, Blk p (.cells (pairC a m h h' x y r r') 45 (0, 0)), S2 a m k (M2) h' t' (H1) h t (H0), D2 x y k (mN n) r (hN A) r' (hN B), Rw W.heap.size (.slice ad2 (cls k).length cap2) (cls k)]) h2 3 rfl⟩
                have hb2 : M2.bs.length = Z := HM2.out.2.2
                have TD : Hid (Things W wr.drew [Blk W.heap.size (.cells #[.int .i64 n, .int .i64 k, .slice adA A.length cA, .slice adB B.length cB] 26 (0, 0)), Anyt, Blk p (.cells (pairC a m h h' x y r r') 45 (0, 0)), S2 a m k (M2) h t (H0) h' t' (H1), D2 x y k (mN n) r (hN A) r' (hN B), Rw W.heap.size (.slice ad2 (cls k).length cap2) (cls k)]) := T.out.kept (Fr.refl _ _).drew
                have TDa : wr.drew.cell? ⟨p, 0, none⟩ = some (.pointer (some ⟨a, 0, none⟩)) := box_cell (TD.out.cells 2 rfl) 0 rfl
                have TDb : wr.drew.cell? ⟨p, 1, none⟩ = some (.pointer (some ⟨m, 0, none⟩)) := box_cell (TD.out.cells 2 rfl) 1 rfl
                have TDc : wr.drew.cell? ⟨p, 2, none⟩ = some (.pointer (some ⟨h, 0, none⟩)) := box_cell (TD.out.cells 2 rfl) 2 rfl
                have TDd : wr.drew.cell? ⟨p, 3, none⟩ = some (.pointer (some ⟨h', 0, none⟩)) := box_cell (TD.out.cells 2 rfl) 3 rfl
                have TDe : wr.drew.cell? ⟨W.heap.size, 0, none⟩ = some (.int .i64 n) := box_cell (TD.out.cells 0 rfl) 0 rfl
                clear T
                go_wp2_with fail
                refine wp_region_held_drew (S := fun w' => w'.cell? ⟨p, 0, none⟩ = some (.pointer (some ⟨a, 0, none⟩)) ∧ w'.cell? ⟨p, 1, none⟩ = some (.pointer (some ⟨m, 0, none⟩)) ∧ w'.cell? ⟨p, 2, none⟩ = some (.pointer (some ⟨h, 0, none⟩)) ∧ w'.cell? ⟨p, 3, none⟩ = some (.pointer (some ⟨h', 0, none⟩)) ∧ w'.cell? ⟨W.heap.size, 0, none⟩ = some (.int .i64 n)) (by kernel_rfl) ?_ (fun hHeld => ?_)
                · exact ⟨TDa, TDb, TDc, TDd, TDe⟩
                refine wpAnyH_take (i := 0) (oi := ⟨some 159, _, _, _, _, _⟩) (v := ?v1) rfl (by kernel_rfl) (by kernel_rfl) (by kernel_rfl) (fun _ _ _ h => h) (Or.inl ⟨by rfl, ?hy1⟩) (by assumption) ?rest1
                case hy1 => (intro w hSw; (try dsimp only at hSw); go_simp; try with_reducible rfl)
                simp only [Act.put, List.setIfInBounds_toArray, List.set_cons_zero, List.set_cons_succ]
                refine wpAnyH_take (i := 1) (oi := ⟨some 160, _, _, _, _, _⟩) (v := ?v2) rfl (by kernel_rfl) (by kernel_rfl) (by kernel_rfl) (fun _ _ _ h => h) (Or.inl ⟨by rfl, ?hy2⟩) (by assumption) ?rest2
                case hy2 => (intro w hSw; (try dsimp only at hSw); go_simp; try with_reducible rfl)
                simp only [Act.put, List.setIfInBounds_toArray, List.set_cons_zero, List.set_cons_succ]
                refine wpAnyH_take (i := 2) (oi := ⟨some 161, _, _, _, _, _⟩) (v := ?v3) rfl (by kernel_rfl) (by kernel_rfl) (by kernel_rfl) (fun _ _ _ h => h) (Or.inl ⟨by rfl, ?hy3⟩) (by assumption) ?rest3
                case hy3 => (intro w hSw; (try dsimp only at hSw); go_simp; try with_reducible rfl)
                simp only [Act.put, List.setIfInBounds_toArray, List.set_cons_zero, List.set_cons_succ]
                refine wpAnyH_take (i := 3) (oi := ⟨some 162, _, _, _, _, _⟩) (v := ?v4) rfl (by kernel_rfl) (by kernel_rfl) (by kernel_rfl) (fun _ _ _ h => h) (Or.inl ⟨by rfl, ?hy4⟩) (by assumption) ?rest4
                case hy4 => (intro w hSw; (try dsimp only at hSw); go_simp; try with_reducible rfl)
                simp only [Act.put, List.setIfInBounds_toArray, List.set_cons_zero, List.set_cons_succ]
                refine wpAnyH_take (i := 4) (oi := ⟨some 163, _, _, _, _, _⟩) (v := ?v5) rfl (by kernel_rfl) (by kernel_rfl) (by kernel_rfl) (fun _ _ _ h => h) (Or.inl ⟨by rfl, ?hy5⟩) (by assumption) ?rest5
                case hy5 => (intro w hSw; (try dsimp only at hSw); go_simp; try with_reducible rfl)
                simp only [Act.put, List.setIfInBounds_toArray, List.set_cons_zero, List.set_cons_succ]
                refine wpAnyH_ready (rs := [5]) (by kernel_rfl) (by simp) ?_
                refine AllReadyH.cons (o := ⟨some 164, _, _, _, _, _⟩) rfl (fun K hK => ?_) AllReadyH.nil
                go_simp
                go_wp2_with (go_at_call 25; refine (HSZ.out _ _ _ rfl hb2 TD.out).mono ?_; rintro e v3 ⟨rfl, g3⟩; have TS : Hid (Things W v3 [Blk W.heap.size (.cells #[.int .i64 n, .int .i64 k, .slice adA A.length cA, .slice adB B.length cB] 26 (0, 0)), Anyt, Blk p (.cells (pairC a m h h' x y r r') 45 (0, 0)), S2 a m k (M2) h t (H0) h' t' (H1), D2 x y k (mN n) r (hN A) r' (hN B), Rw W.heap.size (.slice ad2 (cls k).length cap2) (cls k)]) := g3; clear g3; have TSa : v3.cell? ⟨p, 0, none⟩ = some (.pointer (some ⟨a, 0, none⟩)) := box_cell (TS.out.cells 2 rfl) 0 rfl; have TSb : v3.cell? ⟨p, 1, none⟩ = some (.pointer (some ⟨m, 0, none⟩)) := box_cell (TS.out.cells 2 rfl) 1 rfl; have TSc : v3.cell? ⟨p, 2, none⟩ = some (.pointer (some ⟨h, 0, none⟩)) := box_cell (TS.out.cells 2 rfl) 2 rfl; have TSd : v3.cell? ⟨p, 3, none⟩ = some (.pointer (some ⟨h', 0, none⟩)) := box_cell (TS.out.cells 2 rfl) 3 rfl; have TSe : v3.cell? ⟨W.heap.size, 0, none⟩ = some (.int .i64 n) := box_cell (TS.out.cells 0 rfl) 0 rfl; have hmk := (HMK.out v3).1; have hcv := (HMK.out v3).2; have TT : Hid (Things W (v3.alloc (.cells (bc zz).toArray 5)) [Blk W.heap.size (.cells #[.int .i64 n, .int .i64 k, .slice adA A.length cA, .slice adB B.length cB] 26 (0, 0)), Anyt, Blk p (.cells (pairC a m h h' x y r r') 45 (0, 0)), S2 a m k (M2) h t (H0) h' t' (H1), D2 x y k (mN n) r (hN A) r' (hN B), Rw W.heap.size (.slice ad2 (cls k).length cap2) (cls k)]) := TS.out.kept ((Fr.refl _ _).alloc _); have TTa : (v3.alloc (.cells (bc zz).toArray 5)).cell? ⟨p, 0, none⟩ = some (.pointer (some ⟨a, 0, none⟩)) := box_cell (TT.out.cells 2 rfl) 0 rfl; have TTb : (v3.alloc (.cells (bc zz).toArray 5)).cell? ⟨p, 1, none⟩ = some (.pointer (some ⟨m, 0, none⟩)) := box_cell (TT.out.cells 2 rfl) 1 rfl; have TTc : (v3.alloc (.cells (bc zz).toArray 5)).cell? ⟨p, 2, none⟩ = some (.pointer (some ⟨h, 0, none⟩)) := box_cell (TT.out.cells 2 rfl) 2 rfl; have TTd : (v3.alloc (.cells (bc zz).toArray 5)).cell? ⟨p, 3, none⟩ = some (.pointer (some ⟨h', 0, none⟩)) := box_cell (TT.out.cells 2 rfl) 3 rfl; have TTe : (v3.alloc (.cells (bc zz).toArray 5)).cell? ⟨W.heap.size, 0, none⟩ = some (.int .i64 n) := box_cell (TT.out.cells 0 rfl) 0 rfl)
                refine hK.out _ _ ?_ (fun hHeld => ?_)
                · exact ⟨TSa, TSb, TSc, TSd, TSe⟩
                clear hK K
                try simp only [Act.put, List.setIfInBounds_toArray, List.set_cons_zero, List.set_cons_succ]
                refine wpAnyH_ready (rs := [6]) (by kernel_rfl) (by simp) ?_
                refine AllReadyH.cons (o := ⟨some 165, _, _, _, _, _⟩) rfl (fun K hK => ?_) AllReadyH.nil
                refine make_arm rfl (.tmp 164) (.tmp 164) _ rfl rfl rfl hmk ?_
                refine hK.out _ _ ?_ (fun hHeld => ?_)
                · exact ⟨TTa, TTb, TTc, TTd, TTe⟩
                clear hK K
                try simp only [Act.put, List.setIfInBounds_toArray, List.set_cons_zero, List.set_cons_succ]
                refine wpAnyH_ready (rs := [7]) (by kernel_rfl) (by simp) ?_
                refine AllReadyH.cons (o := ⟨some 166, _, _, _, _, _⟩) rfl (fun K hK => ?_) AllReadyH.nil
                refine conv_arm rfl (.tmp 165) _ _ rfl rfl hcv ?_
                refine hK.out _ _ ?_ (fun hHeld => ?_)
                · exact ⟨TTa, TTb, TTc, TTd, TTe⟩
                clear hK K
                try simp only [Act.put, List.setIfInBounds_toArray, List.set_cons_zero, List.set_cons_succ]
                refine wpAnyH_take (i := 8) (oi := ⟨some 167, _, _, _, _, _⟩) (v := ?v6) rfl (by kernel_rfl) (by kernel_rfl) (by kernel_rfl) (fun _ _ _ h => h) (Or.inl ⟨by rfl, ?hy6⟩) (by assumption) ?rest6
                case hy6 => (intro w hSw; (try dsimp only at hSw); go_simp; try with_reducible rfl)
                simp only [Act.put, List.setIfInBounds_toArray, List.set_cons_zero, List.set_cons_succ]
                refine wpAnyH_take (i := 9) (oi := ⟨some 168, _, _, _, _, _⟩) (v := ?v7) rfl (by kernel_rfl) (by kernel_rfl) (by kernel_rfl) (fun _ _ _ h => h) (Or.inl ⟨by rfl, ?hy7⟩) (by assumption) ?rest7
                case hy7 => (intro w hSw; (try dsimp only at hSw); go_simp; try with_reducible rfl)
                simp only [Act.put, List.setIfInBounds_toArray, List.set_cons_zero, List.set_cons_succ]
                refine wpAnyH_take (i := 10) (oi := ⟨some 169, _, _, _, _, _⟩) (v := ?v8) rfl (by kernel_rfl) (by kernel_rfl) (by kernel_rfl) (fun _ _ _ h => h) (Or.inl ⟨by rfl, ?hy8⟩) (by assumption) ?rest8
                case hy8 => (intro w hSw; (try dsimp only at hSw); go_simp; try with_reducible rfl)
                simp only [Act.put, List.setIfInBounds_toArray, List.set_cons_zero, List.set_cons_succ]
                refine wpAnyH_take (i := 11) (oi := ⟨some 170, _, _, _, _, _⟩) (v := ?v9) rfl (by kernel_rfl) (by kernel_rfl) (by kernel_rfl) (fun _ _ _ h => h) (Or.inl ⟨by rfl, ?hy9⟩) (by assumption) ?rest9
                case hy9 => (intro w hSw; (try dsimp only at hSw); go_simp; try with_reducible rfl)
                simp only [Act.put, List.setIfInBounds_toArray, List.set_cons_zero, List.set_cons_succ]
                refine wpAnyH_take (i := 12) (oi := ⟨some 171, _, _, _, _, _⟩) (v := ?v10) rfl (by kernel_rfl) (by kernel_rfl) (by kernel_rfl) (fun _ _ _ h => h) (Or.inl ⟨by rfl, ?hy10⟩) (by assumption) ?rest10
                case hy10 => (intro w hSw; (try dsimp only at hSw); go_simp; try with_reducible rfl)
                simp only [Act.put, List.setIfInBounds_toArray, List.set_cons_zero, List.set_cons_succ]
                refine wpAnyH_take (i := 13) (oi := ⟨some 172, _, _, _, _, _⟩) (v := ?v11) rfl (by kernel_rfl) (by kernel_rfl) (by kernel_rfl) (fun _ _ _ h => h) (Or.inl ⟨by rfl, ?hy11⟩) (by assumption) ?rest11
                case hy11 => (intro w hSw; (try dsimp only at hSw); go_simp; try with_reducible rfl)
                simp only [Act.put, List.setIfInBounds_toArray, List.set_cons_zero, List.set_cons_succ]
                refine wpAnyH_take (i := 14) (oi := ⟨some 173, _, _, _, _, _⟩) (v := ?v12) rfl (by kernel_rfl) (by kernel_rfl) (by kernel_rfl) (fun _ _ _ h => h) (Or.inl ⟨by rfl, ?hy12⟩) (by assumption) ?rest12
                case hy12 => (intro w hSw; (try dsimp only at hSw); go_simp; try with_reducible rfl)
                simp only [Act.put, List.setIfInBounds_toArray, List.set_cons_zero, List.set_cons_succ]
                refine wpAnyH_take (i := 16) (oi := ⟨some 175, _, _, _, _, _⟩) (v := ?v13) rfl (by kernel_rfl) (by kernel_rfl) (by kernel_rfl) (fun _ _ _ h => h) (Or.inl ⟨by rfl, ?hy13⟩) (by assumption) ?rest13
                case hy13 => (intro w hSw; (try dsimp only at hSw); go_simp; try with_reducible rfl)
                simp only [Act.put, List.setIfInBounds_toArray, List.set_cons_zero, List.set_cons_succ]
                refine wpAnyH_take (i := 17) (oi := ⟨some 176, _, _, _, _, _⟩) (v := ?v14) rfl (by kernel_rfl) (by kernel_rfl) (by kernel_rfl) (fun _ _ _ h => h) (Or.inl ⟨by rfl, ?hy14⟩) (by assumption) ?rest14
                case hy14 => (intro w hSw; (try dsimp only at hSw); go_simp; try with_reducible rfl)
                simp only [Act.put, List.setIfInBounds_toArray, List.set_cons_zero, List.set_cons_succ]
                refine wpAnyH_take (i := 18) (oi := ⟨some 177, _, _, _, _, _⟩) (v := ?v15) rfl (by kernel_rfl) (by kernel_rfl) (by kernel_rfl) (fun _ _ _ h => h) (Or.inl ⟨by rfl, ?hy15⟩) (by assumption) ?rest15
                case hy15 => (intro w hSw; (try dsimp only at hSw); go_simp; try with_reducible rfl)
                simp only [Act.put, List.setIfInBounds_toArray, List.set_cons_zero, List.set_cons_succ]
                refine wpAnyH_ready (rs := [15]) (by kernel_rfl) (by simp) ?_
                refine AllReadyH.cons (o := ⟨some 174, _, _, _, _, _⟩) rfl (fun K hK => ?_) AllReadyH.nil
                go_simp
                go_wp2_with (go_at_call 41; refine (HFE.out _ TT.out).mono ?_; rintro e v4 ⟨rfl, g4⟩; have TU := hid g4; clear g4; have TUa : v4.cell? ⟨p, 0, none⟩ = some (.pointer (some ⟨a, 0, none⟩)) := box_cell (TU.out.cells 2 rfl) 0 rfl; have TUb : v4.cell? ⟨p, 1, none⟩ = some (.pointer (some ⟨m, 0, none⟩)) := box_cell (TU.out.cells 2 rfl) 1 rfl; have TUc : v4.cell? ⟨p, 2, none⟩ = some (.pointer (some ⟨h, 0, none⟩)) := box_cell (TU.out.cells 2 rfl) 2 rfl; have TUd : v4.cell? ⟨p, 3, none⟩ = some (.pointer (some ⟨h', 0, none⟩)) := box_cell (TU.out.cells 2 rfl) 3 rfl; have TUe : v4.cell? ⟨W.heap.size, 0, none⟩ = some (.int .i64 n) := box_cell (TU.out.cells 0 rfl) 0 rfl)
                refine hK.out _ _ ?_ (fun hHeld => ?_)
                · exact ⟨TUa, TUb, TUc, TUd, TUe⟩
                clear hK K
                try simp only [Act.put, List.setIfInBounds_toArray, List.set_cons_zero, List.set_cons_succ]
                refine wpAnyH_take (i := 19) (oi := ⟨some 178, _, _, _, _, _⟩) (v := ?v16) rfl (by kernel_rfl) (by kernel_rfl) (by kernel_rfl) (fun _ _ _ h => h) (Or.inl ⟨by rfl, ?hy16⟩) (by assumption) ?rest16
                case hy16 => (intro w hSw; (try dsimp only at hSw); go_simp; try with_reducible rfl)
                simp only [Act.put, List.setIfInBounds_toArray, List.set_cons_zero, List.set_cons_succ]
                refine wpAnyH_take (i := 20) (oi := ⟨some 179, _, _, _, _, _⟩) (v := ?v17) rfl (by kernel_rfl) (by kernel_rfl) (by kernel_rfl) (fun _ _ _ h => h) (Or.inl ⟨by rfl, ?hy17⟩) (by assumption) ?rest17
                case hy17 => (intro w hSw; (try dsimp only at hSw); go_simp; try with_reducible rfl)
                simp only [Act.put, List.setIfInBounds_toArray, List.set_cons_zero, List.set_cons_succ]
                refine wpAnyH_take (i := 21) (oi := ⟨some 180, _, _, _, _, _⟩) (v := ?v18) rfl (by kernel_rfl) (by kernel_rfl) (by kernel_rfl) (fun _ _ _ h => h) (Or.inl ⟨by rfl, ?hy18⟩) (by assumption) ?rest18
                case hy18 => (intro w hSw; (try dsimp only at hSw); go_simp; try with_reducible rfl)
                simp only [Act.put, List.setIfInBounds_toArray, List.set_cons_zero, List.set_cons_succ]
                refine wpAnyH_take (i := 22) (oi := ⟨some 181, _, _, _, _, _⟩) (v := ?v19) rfl (by kernel_rfl) (by kernel_rfl) (by kernel_rfl) (fun _ _ _ h => h) (Or.inl ⟨by rfl, ?hy19⟩) (by assumption) ?rest19
                case hy19 => (intro w hSw; (try dsimp only at hSw); go_simp; try with_reducible rfl)
                simp only [Act.put, List.setIfInBounds_toArray, List.set_cons_zero, List.set_cons_succ]
                refine wpAnyH_take (i := 23) (oi := ⟨some 182, _, _, _, _, _⟩) (v := ?v20) rfl (by kernel_rfl) (by kernel_rfl) (by kernel_rfl) (fun _ _ _ h => h) (Or.inl ⟨by rfl, ?hy20⟩) (by assumption) ?rest20
                case hy20 => (intro w hSw; (try dsimp only at hSw); go_simp; try with_reducible rfl)
                simp only [Act.put, List.setIfInBounds_toArray, List.set_cons_zero, List.set_cons_succ]
                refine wpAnyH_take (i := 24) (oi := ⟨some 183, _, _, _, _, _⟩) (v := ?v21) rfl (by kernel_rfl) (by kernel_rfl) (by kernel_rfl) (fun _ _ _ h => h) (Or.inl ⟨by rfl, ?hy21⟩) (by assumption) ?rest21
                case hy21 => (intro w hSw; (try dsimp only at hSw); go_simp; try with_reducible rfl)
                simp only [Act.put, List.setIfInBounds_toArray, List.set_cons_zero, List.set_cons_succ]
                refine wpAnyH_take (i := 25) (oi := ⟨some 184, _, _, _, _, _⟩) (v := ?v22) rfl (by kernel_rfl) (by kernel_rfl) (by kernel_rfl) (fun _ _ _ h => h) (Or.inl ⟨by rfl, ?hy22⟩) (by assumption) ?rest22
                case hy22 => (intro w hSw; (try dsimp only at hSw); go_simp; try with_reducible rfl)
                simp only [Act.put, List.setIfInBounds_toArray, List.set_cons_zero, List.set_cons_succ]
                refine wpAnyH_take (i := 26) (oi := ⟨some 185, _, _, _, _, _⟩) (v := ?v23) rfl (by kernel_rfl) (by kernel_rfl) (by kernel_rfl) (fun _ _ _ h => h) (Or.inl ⟨by rfl, ?hy23⟩) (by assumption) ?rest23
                case hy23 => (intro w hSw; (try dsimp only at hSw); go_simp; try with_reducible rfl)
                simp only [Act.put, List.setIfInBounds_toArray, List.set_cons_zero, List.set_cons_succ]
                refine wpAnyH_ready (rs := [27]) (by kernel_rfl) (by simp) ?_
                refine AllReadyH.cons (o := ⟨some 186, _, _, _, _, _⟩) rfl (fun K hK => ?_) AllReadyH.nil
                go_simp
                go_wp2_with (go_at_call 14; refine (HPG.out _ TU.out).mono ?_; rintro e v5 ⟨rfl, g5⟩; have TV := hid g5; clear g5; have TVa : v5.cell? ⟨p, 0, none⟩ = some (.pointer (some ⟨a, 0, none⟩)) := box_cell (TV.out.cells 2 rfl) 0 rfl; have TVb : v5.cell? ⟨p, 1, none⟩ = some (.pointer (some ⟨m, 0, none⟩)) := box_cell (TV.out.cells 2 rfl) 1 rfl; have TVc : v5.cell? ⟨p, 2, none⟩ = some (.pointer (some ⟨h, 0, none⟩)) := box_cell (TV.out.cells 2 rfl) 2 rfl; have TVd : v5.cell? ⟨p, 3, none⟩ = some (.pointer (some ⟨h', 0, none⟩)) := box_cell (TV.out.cells 2 rfl) 3 rfl; have TVe : v5.cell? ⟨W.heap.size, 0, none⟩ = some (.int .i64 n) := box_cell (TV.out.cells 0 rfl) 0 rfl)
                refine hK.out _ _ ?_ (fun hHeld => ?_)
                · exact ⟨TVa, TVb, TVc, TVd, TVe⟩
                clear hK K
                try simp only [Act.put, List.setIfInBounds_toArray, List.set_cons_zero, List.set_cons_succ]
                refine wpAnyH_take (i := 28) (oi := ⟨some 187, _, _, _, _, _⟩) (v := ?v24) rfl (by kernel_rfl) (by kernel_rfl) (by kernel_rfl) (fun _ _ _ h => h) (Or.inl ⟨by rfl, ?hy24⟩) (by assumption) ?rest24
                case hy24 => (intro w hSw; (try dsimp only at hSw); go_simp; try with_reducible rfl)
                simp only [Act.put, List.setIfInBounds_toArray, List.set_cons_zero, List.set_cons_succ]
                refine wpAnyH_take (i := 29) (oi := ⟨some 188, _, _, _, _, _⟩) (v := ?v25) rfl (by kernel_rfl) (by kernel_rfl) (by kernel_rfl) (fun _ _ _ h => h) (Or.inl ⟨by rfl, ?hy25⟩) (by assumption) ?rest25
                case hy25 => (intro w hSw; (try dsimp only at hSw); go_simp; try with_reducible rfl)
                simp only [Act.put, List.setIfInBounds_toArray, List.set_cons_zero, List.set_cons_succ]
                refine wpAnyH_take (i := 30) (oi := ⟨some 189, _, _, _, _, _⟩) (v := ?v26) rfl (by kernel_rfl) (by kernel_rfl) (by kernel_rfl) (fun _ _ _ h => h) (Or.inl ⟨by rfl, ?hy26⟩) (by assumption) ?rest26
                case hy26 => (intro w hSw; (try dsimp only at hSw); go_simp; try with_reducible rfl)
                simp only [Act.put, List.setIfInBounds_toArray, List.set_cons_zero, List.set_cons_succ]
                refine wpAnyH_take (i := 31) (oi := ⟨some 190, _, _, _, _, _⟩) (v := ?v27) rfl (by kernel_rfl) (by kernel_rfl) (by kernel_rfl) (fun _ _ _ h => h) (Or.inl ⟨by rfl, ?hy27⟩) (by assumption) ?rest27
                case hy27 => (intro w hSw; (try dsimp only at hSw); go_simp; try with_reducible rfl)
                simp only [Act.put, List.setIfInBounds_toArray, List.set_cons_zero, List.set_cons_succ]
                refine wpAnyH_take (i := 32) (oi := ⟨some 191, _, _, _, _, _⟩) (v := ?v28) rfl (by kernel_rfl) (by kernel_rfl) (by kernel_rfl) (fun _ _ _ h => h) (Or.inl ⟨by rfl, ?hy28⟩) (by assumption) ?rest28
                case hy28 => (intro w hSw; (try dsimp only at hSw); go_simp; try with_reducible rfl)
                simp only [Act.put, List.setIfInBounds_toArray, List.set_cons_zero, List.set_cons_succ]
                refine wpAnyH_take (i := 33) (oi := ⟨some 192, _, _, _, _, _⟩) (v := ?v29) rfl (by kernel_rfl) (by kernel_rfl) (by kernel_rfl) (fun _ _ _ h => h) (Or.inl ⟨by rfl, ?hy29⟩) (by assumption) ?rest29
                case hy29 => (intro w hSw; (try dsimp only at hSw); go_simp; try with_reducible rfl)
                simp only [Act.put, List.setIfInBounds_toArray, List.set_cons_zero, List.set_cons_succ]
                refine wpAnyH_take (i := 34) (oi := ⟨some 193, _, _, _, _, _⟩) (v := ?v30) rfl (by kernel_rfl) (by kernel_rfl) (by kernel_rfl) (fun _ _ _ h => h) (Or.inl ⟨by rfl, ?hy30⟩) (by assumption) ?rest30
                case hy30 => (intro w hSw; (try dsimp only at hSw); go_simp; try with_reducible rfl)
                simp only [Act.put, List.setIfInBounds_toArray, List.set_cons_zero, List.set_cons_succ]
                refine wpAnyH_take (i := 35) (oi := ⟨some 194, _, _, _, _, _⟩) (v := ?v31) rfl (by kernel_rfl) (by kernel_rfl) (by kernel_rfl) (fun _ _ _ h => h) (Or.inl ⟨by rfl, ?hy31⟩) (by assumption) ?rest31
                case hy31 => (intro w hSw; (try dsimp only at hSw); go_simp; try with_reducible rfl)
                simp only [Act.put, List.setIfInBounds_toArray, List.set_cons_zero, List.set_cons_succ]
                refine wpAnyH_ready (rs := [36]) (by kernel_rfl) (by simp) ?_
                refine AllReadyH.cons (o := ⟨some 195, _, _, _, _, _⟩) rfl (fun K hK => ?_) AllReadyH.nil
                go_simp
                go_wp2_with (go_at_call 14; refine (HPH.out _ TV.out).mono ?_; rintro e v6 ⟨rfl, g6⟩; have TX := hid g6; clear g6; have TXa : v6.cell? ⟨p, 0, none⟩ = some (.pointer (some ⟨a, 0, none⟩)) := box_cell (TX.out.cells 2 rfl) 0 rfl; have TXb : v6.cell? ⟨p, 1, none⟩ = some (.pointer (some ⟨m, 0, none⟩)) := box_cell (TX.out.cells 2 rfl) 1 rfl; have TXc : v6.cell? ⟨p, 2, none⟩ = some (.pointer (some ⟨h, 0, none⟩)) := box_cell (TX.out.cells 2 rfl) 2 rfl; have TXd : v6.cell? ⟨p, 3, none⟩ = some (.pointer (some ⟨h', 0, none⟩)) := box_cell (TX.out.cells 2 rfl) 3 rfl; have TXe : v6.cell? ⟨W.heap.size, 0, none⟩ = some (.int .i64 n) := box_cell (TX.out.cells 0 rfl) 0 rfl)
                refine hK.out _ _ ?_ (fun hHeld => ?_)
                · exact ⟨TXa, TXb, TXc, TXd, TXe⟩
                clear hK K
                try simp only [Act.put, List.setIfInBounds_toArray, List.set_cons_zero, List.set_cons_succ]
                refine wpAnyH_take (i := 37) (oi := ⟨some 196, _, _, _, _, _⟩) (v := ?v32) rfl (by kernel_rfl) (by kernel_rfl) (by kernel_rfl) (fun _ _ _ h => h) (Or.inl ⟨by rfl, ?hy32⟩) (by assumption) ?rest32
                case hy32 => (intro w hSw; (try dsimp only at hSw); go_simp; try with_reducible rfl)
                simp only [Act.put, List.setIfInBounds_toArray, List.set_cons_zero, List.set_cons_succ]
                refine wpAnyH_take (i := 38) (oi := ⟨some 197, _, _, _, _, _⟩) (v := ?v33) rfl (by kernel_rfl) (by kernel_rfl) (by kernel_rfl) (fun _ _ _ h => h) (Or.inl ⟨by rfl, ?hy33⟩) (by assumption) ?rest33
                case hy33 => (intro w hSw; (try dsimp only at hSw); go_simp; try with_reducible rfl)
                simp only [Act.put, List.setIfInBounds_toArray, List.set_cons_zero, List.set_cons_succ]
                refine wpAnyH_take (i := 39) (oi := ⟨some 6, _, _, _, _, _⟩) (v := ?v34) rfl (by kernel_rfl) (by kernel_rfl) (by kernel_rfl) (fun _ _ _ h => h) (Or.inl ⟨by rfl, ?hy34⟩) (by assumption) ?rest34
                case hy34 => (intro w hSw; (try dsimp only at hSw); go_simp; try with_reducible rfl)
                simp only [Act.put, List.setIfInBounds_toArray, List.set_cons_zero, List.set_cons_succ]
                refine wpAnyH_done (by kernel_rfl) ?_ _
                go_wp2
                go_ret
                exact ⟨by simp, TX.out.nw⟩
      obtain ⟨bb, off, rfl, hbb, hc1, hc2, hc3, hc4, i1, i2, hnw, hwl⟩ := HO.out.fr T.out.nw.fr j hlt
      generalize l[j] = o at hc1 hc2 hc3 hc4 i1 i2 hnw hwl
      obtain ⟨kd, N, two, oad, ocap, oW⟩ := o
      simp only at hc1 hc2 hc3 hc4 i1 i2 hnw hwl
      clear hnw hwl HO
      by_cases hodd : j % 2 = 0
      · have r0 : (j : Int).tmod 2 = 0 := by rw [Int.tmod_eq_emod_of_nonneg (by omega)]; omega
        have T0 : Hid (Things W wr [Blk W.heap.size (.cells #[.int .i64 n, .int .i64 k, .slice adA A.length cA, .slice adB B.length cB] 26 (0, 0)), Anyt, Blk p (.cells (pairC a m h h' x y r r') 45 (0, 0)), S2 a m k (M) h t (H0) h' t' (H1), D2 x y k (mN n) r (hN A) r' (hN B)]) := T
        have TW : Hid (Cln n k (60 * j) j M H0 H1) := HI.out
        have TB : Hid (Things W (wr.alloc (.cells #[.int .i64 kd, .int .i64 N, .bool two, .slice oad oW.length ocap] 34)) [Blk W.heap.size (.cells #[.int .i64 n, .int .i64 k, .slice adA A.length cA, .slice adB B.length cB] 26 (0, 0)), Anyt, Blk p (.cells (pairC a m h h' x y r r') 45 (0, 0)), S2 a m k (M) h t (H0) h' t' (H1), D2 x y k (mN n) r (hN A) r' (hN B), Blk wr.heap.size (.cells #[.int .i64 kd, .int .i64 N, .bool two, .slice oad oW.length ocap] 34 (0, 0))]) := T0.out.blk _
        have pb : (wr.alloc (.cells #[.int .i64 kd, .int .i64 N, .bool two, .slice oad oW.length ocap] 34)).cell? ⟨p, 2, none⟩ = some (.pointer (some ⟨h, 0, none⟩)) := box_cell (TB.out.cells 2 rfl) 2 rfl
        clear HI T T0
        by_cases hk : kd = 1
        · subst hk
          have HW := hid (hM_had TW.out.tw.ok TW.out.tw.ms (hM_ways (fun _ => id) TW.out.tw.ok TW.out.tw.ms N : MWay (fun q => Cq.inW k H0.W q = true) k M H0 N (hM k M H0 N)))
          have TM := hid (TW.out.malloc N)
          have HMA := hid fun (w : World) (q : Things W w [Blk W.heap.size (.cells #[.int .i64 n, .int .i64 k, .slice adA A.length cA, .slice adB B.length cB] 26 (0, 0)), Anyt, Blk p (.cells (pairC a m h h' x y r r') 45 (0, 0)), S2 a m k (M) h t (H0) h' t' (H1), D2 x y k (mN n) r (hN A) r' (hN B), Blk wr.heap.size (.cells #[.int .i64 1, .int .i64 N, .bool two, .slice oad oW.length ocap] 34 (0, 0))]) => t_malloc q GR.out 3 rfl TW.out.tw (by omega) i2
          go_wp2_with fail
          refine (HMA.out _ TB.out).mono ?_
          rintro e v2 ⟨rfl, g2⟩
          have T2 : Hid (Things W v2 [Blk W.heap.size (.cells #[.int .i64 n, .int .i64 k, .slice adA A.length cA, .slice adB B.length cB] 26 (0, 0)), Anyt, Blk p (.cells (pairC a m h h' x y r r') 45 (0, 0)), S2 a m k ((hM k M H0 N).1) h t ((hM k M H0 N).2.1) h' t' (H1), D2 x y k (mN n) r (hN A) r' (hN B), Blk wr.heap.size (.cells #[.int .i64 1, .int .i64 N, .bool two, .slice oad oW.length ocap] 34 (0, 0))]) := g2
          clear g2 TB HMA
          generalize hM k M H0 N = rr at *
          obtain ⟨MM, HH, av, ev⟩ := rr
          simp only at *
          by_cases he : ev = 0
          · subst he
            generalize wr.heap.size = Bo at *
            obtain ⟨-, cc, ss, jj, hg⟩ := HW.out.resolve_left fun e => e.1 rfl
            have hat := hg.at_
            have hhad : HadB HH.L cc ss jj := (hg.had cc ss jj).2 (.inr ⟨rfl, rfl, rfl⟩)
            clear hg HW
            obtain ⟨hpt, hcc, hss⟩ := hhad.there TM.out.tw.ok
            have hF0 := findR_of hpt
            have hun := unitI_range cc (by omega) (by omega)
            have hi64 : I64 (adI cc ss jj) := by have := hpt.inside; exact ⟨by omega, by omega⟩
            have HHU : Hid (hUs HH cc ss jj 0 = (unitI cc, 0)) := had_us TM.out.tw.ok hhad
            rw [← hat] at hF0 hi64
            have HUS := hid fun (w : World) (q : Things W w [Blk W.heap.size (.cells #[.int .i64 n, .int .i64 k, .slice adA A.length cA, .slice adB B.length cB] 26 (0, 0)), Anyt, Blk p (.cells (pairC a m h h' x y r r') 45 (0, 0)), S2 a m k (MM) h t (HH) h' t' (H1), D2 x y k (mN n) r (hN A) r' (hN B), Blk Bo (.cells #[.int .i64 1, .int .i64 N, .bool two, .slice oad oW.length ocap] 34 (0, 0))]) => t_usable q GR.out 3 rfl TM.out.tw (by omega) hF0 hi64
            rw [HHU.out] at HUS
            obtain ⟨u, hu⟩ : ∃ u : Nat, unitI cc = (u : Int) := ⟨(unitI cc).toNat, by omega⟩
            rw [hu] at HUS hun
            have HWR : Hid (∀ (w : World) (Bb : Nat) (d : List UInt8), d.length = u → Things W w [Blk W.heap.size (.cells #[.int .i64 n, .int .i64 k, .slice adA A.length cA, .slice adB B.length cB] 26 (0, 0)), Anyt, Blk p (.cells (pairC a m h h' x y r r') 45 (0, 0)), S2 a m k (MM) h t (HH) h' t' (H1), D2 x y k (mN n) r (hN A) r' (hN B), Blk Bo (.cells #[.int .i64 1, .int .i64 N, .bool two, .slice oad oW.length ocap] 34 (0, 0)), Blk Bb (.cells (bc d).toArray 5 (0, 0))] → Calls Tryz.prog 33 #[.pointer (some ⟨a, 0, none⟩), .pointer (some ⟨t, 0, none⟩), .int .i64 av, .string ⟨d.toArray⟩] w fun e w' => ∃ (E : Int) (M' : Ms), e = .returned (.int .i64 E) ∧ Cln n k (60 * j + 22) (j + 1) M' HH H1 ∧ Things W w' [Blk W.heap.size (.cells #[.int .i64 n, .int .i64 k, .slice adA A.length cA, .slice adB B.length cB] 26 (0, 0)), Anyt, Blk p (.cells (pairC a m h h' x y r r') 45 (0, 0)), S2 a m k (M') h t (HH) h' t' (H1), D2 x y k (mN n) r (hN A) r' (hN B), Blk Bo (.cells #[.int .i64 1, .int .i64 N, .bool two, .slice oad oW.length ocap] 34 (0, 0)), Blk Bb (.cells (bc d).toArray 5 (0, 0))]) := fun w Bb d hd q => by
              have hsz : (⟨d.toArray⟩ : ByteArray).size = u := by simp [ByteArray.size, hd]
              refine (t_write q 3 rfl TM.out.tw (by omega) hi64 ⟨d.toArray⟩ (by rw [hsz]; omega)).mono ?_
              rintro e w' ⟨rfl, g⟩
              rw [hsz] at g
              have tw := TM.out.wrote hhad (ds := d) (by rw [hu, hd]; rfl)
              rw [← hat, hu] at tw
              exact ⟨_, _, rfl, tw, g⟩
            have HTA := hid fun (w : World) (ts : List (World → (Nat → Prop) → Prop)) (q : Things W w ts) (hj : ts[3]? = some (S2 a m k (MM) h t (HH) h' t' (H1))) => t_table q 3 hj
            clear HHU hpt hF0 hcc hss hhad hat TM
            go_wp2_with fail
            refine (HUS.out _ T2.out).mono ?_
            rintro e v3 ⟨rfl, g3⟩
            have T3 := hid g3
            clear g3 T2 HUS
            have hmk := run_make_bytes v3 u (by omega)
            have T4 : Hid (Things W (v3.alloc (.cells (bc (zs u)).toArray 5)) [Blk W.heap.size (.cells #[.int .i64 n, .int .i64 k, .slice adA A.length cA, .slice adB B.length cB] 26 (0, 0)), Anyt, Blk p (.cells (pairC a m h h' x y r r') 45 (0, 0)), S2 a m k (MM) h t (HH) h' t' (H1), D2 x y k (mN n) r (hN A) r' (hN B), Blk Bo (.cells #[.int .i64 1, .int .i64 N, .bool two, .slice oad oW.length ocap] 34 (0, 0)), Blk v3.heap.size (.cells (bc (zs u)).toArray 5 (0, 0))]) := T3.out.blk _
            have HZL : Hid ((zs u).length = u) := zs_length u
            generalize zs u = zz at *
            go_wp2
            clear T3 hmk
            generalize v3.alloc (.cells (bc zz).toArray 5) = v4 at T4 ⊢
            generalize v3.heap.size = Bb at T4 ⊢
            go_loopw [76] (fun i wr => ∃ (z : Nat) (d : List UInt8), z ≤ u ∧ i = .int .i64 z ∧ d.length = u ∧ Hid (Things W wr [Blk W.heap.size (.cells #[.int .i64 n, .int .i64 k, .slice adA A.length cA, .slice adB B.length cB] 26 (0, 0)), Anyt, Blk p (.cells (pairC a m h h' x y r r') 45 (0, 0)), S2 a m k (MM) h t (HH) h' t' (H1), D2 x y k (mN n) r (hN A) r' (hN B), Blk Bo (.cells #[.int .i64 1, .int .i64 N, .bool two, .slice oad oW.length ocap] 34 (0, 0)), Blk Bb (.cells (bc d).toArray 5 (0, 0))])) (fun i _ => u - (intOf i).toNat)
            case atStart => exact ⟨0, zz, by omega, rfl, HZL.out, T4⟩
            case round =>
              obtain ⟨z, d, hz, rfl, hd, TL⟩ := hrel
              clear T4 HZL
              by_cases hlm : z < u
              · have hc := row_cell (TL.out.cells 6 rfl) z (by omega)
                have hfz := row_frozen (TL.out.cells 6 rfl) z
                have TS : Hid (Things W (wr.setCell ⟨Bb, z, none⟩ (.int .u8 255)) [Blk W.heap.size (.cells #[.int .i64 n, .int .i64 k, .slice adA A.length cA, .slice adB B.length cB] 26 (0, 0)), Anyt, Blk p (.cells (pairC a m h h' x y r r') 45 (0, 0)), S2 a m k (MM) h t (HH) h' t' (H1), D2 x y k (mN n) r (hN A) r' (hN B), Blk Bo (.cells #[.int .i64 1, .int .i64 N, .bool two, .slice oad oW.length ocap] 34 (0, 0)), Blk Bb (.cells (bc (d.set z 255)).toArray 5 (0, 0))]) := by
                  have := TL.out.setAt 6 rfl z (.int .u8 (((255 : UInt8).toNat : Nat) : Int))
                  rw [bc_set] at this
                  exact this
                generalize d[z].toNat = old at hc
                go_wp2
                go_roundw
                case rel => exact ⟨z + 1, d.set z 255, by omega, by go_num, by rw [List.length_set]; exact hd, TS⟩
                case measure => simp [intOf]; omega
              · obtain rfl : u = z := by omega
                have TD : Hid (Things W wr.drew [Blk W.heap.size (.cells #[.int .i64 n, .int .i64 k, .slice adA A.length cA, .slice adB B.length cB] 26 (0, 0)), Anyt, Blk p (.cells (pairC a m h h' x y r r') 45 (0, 0)), S2 a m k (MM) h t (HH) h' t' (H1), D2 x y k (mN n) r (hN A) r' (hN B), Blk Bo (.cells #[.int .i64 1, .int .i64 N, .bool two, .slice oad oW.length ocap] 34 (0, 0)), Blk Bb (.cells (bc d).toArray 5 (0, 0))]) := TL.out.kept (Fr.refl _ _).drew
                have pc : wr.drew.cell? ⟨p, 0, none⟩ = some (.pointer (some ⟨a, 0, none⟩)) := box_cell (TD.out.cells 2 rfl) 0 rfl
                have hcv := run_row_text (TD.out.cells 6 rfl) hd
                clear hlm TL
                go_wp2_with fail
                go_region_held3 (fun w' => w'.cell? ⟨p, 0, none⟩ = some (.pointer (some ⟨a, 0, none⟩)) ∧ (convert 65 9 (.slice (some ⟨Bb, 0, none⟩) u u)).run Tryz.prog w' = .ok (.string ⟨d.toArray⟩) w') (first | exact ⟨by assumption, by assumption⟩ | go_keep) (first | (refine conv_arm rfl (.tmp 90) _ _ rfl rfl hcv ?_) | (refine conv_arm rfl (.tmp 90) _ _ rfl rfl hcv2 ?_) | (go_at_call 17; refine (HTA.out _ _ TD.out rfl).mono ?_; rintro e v5 ⟨rfl, g5⟩; have T5 : Hid (Things W v5 [Blk W.heap.size (.cells #[.int .i64 n, .int .i64 k, .slice adA A.length cA, .slice adB B.length cB] 26 (0, 0)), Anyt, Blk p (.cells (pairC a m h h' x y r r') 45 (0, 0)), S2 a m k (MM) h t (HH) h' t' (H1), D2 x y k (mN n) r (hN A) r' (hN B), Blk Bo (.cells #[.int .i64 1, .int .i64 N, .bool two, .slice oad oW.length ocap] 34 (0, 0)), Blk Bb (.cells (bc d).toArray 5 (0, 0))]) := g5; clear g5; have pc5 : v5.cell? ⟨p, 0, none⟩ = some (.pointer (some ⟨a, 0, none⟩)) := box_cell (T5.out.cells 2 rfl) 0 rfl; have hcv2 := run_row_text (T5.out.cells 6 rfl) hd) | (go_at_call 33; refine (HWR.out _ Bb d hd T5.out).mono ?_; rintro e v6 ⟨E, M', rfl, tw6, g6⟩; have TW6 := hid tw6; have hcv6 := run_row_text (Things.cells g6 6 rfl) hd; have T6 : Hid (Things W v6 [Blk W.heap.size (.cells #[.int .i64 n, .int .i64 k, .slice adA A.length cA, .slice adB B.length cB] 26 (0, 0)), Anyt, Blk p (.cells (pairC a m h h' x y r r') 45 (0, 0)), S2 a m k (M') h t (HH) h' t' (H1), D2 x y k (mN n) r (hN A) r' (hN B), Blk Bo (.cells #[.int .i64 1, .int .i64 N, .bool two, .slice oad oW.length ocap] 34 (0, 0))]) := Things.less (ts := [Blk W.heap.size (.cells #[.int .i64 n, .int .i64 k, .slice adA A.length cA, .slice adB B.length cB] 26 (0, 0)), Anyt, Blk p (.cells (pairC a m h h' x y r r') 45 (0, 0)), S2 a m k (M') h t (HH) h' t' (H1), D2 x y k (mN n) r (hN A) r' (hN B), Blk Bo (.cells #[.int .i64 1, .int .i64 N, .bool two, .slice oad oW.length ocap] 34 (0, 0))]) g6; clear tw6 g6; have pc6 : v6.cell? ⟨p, 0, none⟩ = some (.pointer (some ⟨a, 0, none⟩)) := box_cell (T6.out.cells 2 rfl) 0 rfl))
                · clear TD T5 HWR HTA
                  have TE2 : Hid (Things W _ [Blk W.heap.size (.cells #[.int .i64 n, .int .i64 k, .slice adA A.length cA, .slice adB B.length cB] 26 (0, 0)), Anyt, Blk p (.cells (pairC a m h h' x y r r') 45 (0, 0)), S2 a m k (M') h t (HH) h' t' (H1), D2 x y k (mN n) r (hN A) r' (hN B)]) := Things.less (ts := [Blk W.heap.size (.cells #[.int .i64 n, .int .i64 k, .slice adA A.length cA, .slice adB B.length cB] 26 (0, 0)), Anyt, Blk p (.cells (pairC a m h h' x y r r') 45 (0, 0)), S2 a m k (M') h t (HH) h' t' (H1), D2 x y k (mN n) r (hN A) r' (hN B)]) T6.out
                  go_wp2
                  go_roundw
                  case rel => exact ⟨j + 1, M', HH, H1, by omega, by go_num, (TW6.out.less (by omega) (by omega)), TE2⟩
                  case measure => simp [intOf]; omega
          · clear HW
            have TE2 : Hid (Things W _ [Blk W.heap.size (.cells #[.int .i64 n, .int .i64 k, .slice adA A.length cA, .slice adB B.length cB] 26 (0, 0)), Anyt, Blk p (.cells (pairC a m h h' x y r r') 45 (0, 0)), S2 a m k (MM) h t (HH) h' t' (H1), D2 x y k (mN n) r (hN A) r' (hN B)]) := Things.less (ts := [Blk W.heap.size (.cells #[.int .i64 n, .int .i64 k, .slice adA A.length cA, .slice adB B.length cB] 26 (0, 0)), Anyt, Blk p (.cells (pairC a m h h' x y r r') 45 (0, 0)), S2 a m k (MM) h t (HH) h' t' (H1), D2 x y k (mN n) r (hN A) r' (hN B)]) T2.out
            go_wp2
            go_roundw
            case rel => exact ⟨j + 1, MM, HH, H1, by omega, by go_num, (TM.out.less (by omega) (by omega)), TE2⟩
            case measure => simp [intOf]; omega
        · have hkd : (kd == 1) = false := by simp [hk]
          have HBL := hid fun (w : World) (q : Things W w [Blk W.heap.size (.cells #[.int .i64 n, .int .i64 k, .slice adA A.length cA, .slice adB B.length cB] 26 (0, 0)), Anyt, Blk p (.cells (pairC a m h h' x y r r') 45 (0, 0)), S2 a m k (M) h t (H0) h' t' (H1), D2 x y k (mN n) r (hN A) r' (hN B), Blk wr.heap.size (.cells #[.int .i64 kd, .int .i64 N, .bool two, .slice oad oW.length ocap] 34 (0, 0))]) => t_blocks q GR.out 3 rfl TW.out.tw (by omega)
          go_wp2_with fail
          refine (HBL.out _ TB.out).mono ?_
          rintro e v1 ⟨lad, lcap, rfl, g1⟩
          have T1 : Hid (Things W v1 [Blk W.heap.size (.cells #[.int .i64 n, .int .i64 k, .slice adA A.length cA, .slice adB B.length cB] 26 (0, 0)), Anyt, Blk p (.cells (pairC a m h h' x y r r') 45 (0, 0)), S2 a m k (M) h t (H0) h' t' (H1), D2 x y k (mN n) r (hN A) r' (hN B), Blk wr.heap.size (.cells #[.int .i64 kd, .int .i64 N, .bool two, .slice oad oW.length ocap] 34 (0, 0)), Lv lad (hBl H0.L)]) := g1
          clear g1 TB HBL hkd hk
          have HMB := hid fun (z : Int) (hz : z ∈ hBl H0.L) => (mem_hBl TW.out.tw.ok.nd TW.out.tw.ok.at_).1 hz
          have hbl := hBl_len H0.L
          have b1 : v1.cell? ⟨wr.heap.size, 1, none⟩ = some (.int .i64 N) := box_cell (T1.out.cells 5 rfl) 1 rfl
          cases hB : hBl H0.L with
          | nil =>
            have T1' : Hid (Things W v1 [Blk W.heap.size (.cells #[.int .i64 n, .int .i64 k, .slice adA A.length cA, .slice adB B.length cB] 26 (0, 0)), Anyt, Blk p (.cells (pairC a m h h' x y r r') 45 (0, 0)), S2 a m k (M) h t (H0) h' t' (H1), D2 x y k (mN n) r (hN A) r' (hN B), Blk wr.heap.size (.cells #[.int .i64 kd, .int .i64 N, .bool two, .slice oad oW.length ocap] 34 (0, 0))]) := Things.less (ts := [Blk W.heap.size (.cells #[.int .i64 n, .int .i64 k, .slice adA A.length cA, .slice adB B.length cB] 26 (0, 0)), Anyt, Blk p (.cells (pairC a m h h' x y r r') 45 (0, 0)), S2 a m k (M) h t (H0) h' t' (H1), D2 x y k (mN n) r (hN A) r' (hN B), Blk wr.heap.size (.cells #[.int .i64 kd, .int .i64 N, .bool two, .slice oad oW.length ocap] 34 (0, 0))]) T1.out
            clear T1 HMB hbl
            have TE2 : Hid (Things W _ [Blk W.heap.size (.cells #[.int .i64 n, .int .i64 k, .slice adA A.length cA, .slice adB B.length cB] 26 (0, 0)), Anyt, Blk p (.cells (pairC a m h h' x y r r') 45 (0, 0)), S2 a m k (M) h t (H0) h' t' (H1), D2 x y k (mN n) r (hN A) r' (hN B)]) := Things.less (ts := [Blk W.heap.size (.cells #[.int .i64 n, .int .i64 k, .slice adA A.length cA, .slice adB B.length cB] 26 (0, 0)), Anyt, Blk p (.cells (pairC a m h h' x y r r') 45 (0, 0)), S2 a m k (M) h t (H0) h' t' (H1), D2 x y k (mN n) r (hN A) r' (hN B)]) T1'.out
            go_wp2
            go_roundw
            case rel => exact ⟨j + 1, M, H0, H1, by omega, by go_num, (TW.out.less (by omega) (by omega)), TE2⟩
            case measure => simp [intOf]; omega
          | cons z0 zr =>
            rw [← hB]
            have h0 : 0 < (hBl H0.L).length := by rw [hB]; simp
            obtain ⟨ix, hix, hixl⟩ := modu N (hBl H0.L).length _ rfl h0 hbl
            obtain ⟨lb0, loff, rfl, hlb, hlc⟩ := (T1.out.nums 6 rfl) ix hixl
            obtain ⟨cc, ss, jj, hhad, hat⟩ := HMB.out (hBl H0.L)[ix] (List.getElem_mem hixl)
            rw [hat] at hlc
            obtain ⟨hpt, hcc, hss⟩ := hhad.there TW.out.tw.ok
            have hF0 := findR_of hpt
            have hi64 : I64 (adI cc ss jj) := by have := hpt.inside; have := unitI_range cc (by omega) (by omega); exact ⟨by omega, by omega⟩
            have hfr : hFr M H0 cc ss jj 0 = hF M H0 cc ss jj := by unfold hFr; rw [if_pos rfl, Int.toNat_natCast, Int.toNat_natCast]
            have HFR := hid fun (w : World) (q : Things W w [Blk W.heap.size (.cells #[.int .i64 n, .int .i64 k, .slice adA A.length cA, .slice adB B.length cB] 26 (0, 0)), Anyt, Blk p (.cells (pairC a m h h' x y r r') 45 (0, 0)), S2 a m k (M) h t (H0) h' t' (H1), D2 x y k (mN n) r (hN A) r' (hN B), Blk wr.heap.size (.cells #[.int .i64 kd, .int .i64 N, .bool two, .slice oad oW.length ocap] 34 (0, 0))]) => t_free q GR.out 3 rfl TW.out.tw (by omega) hF0 hi64
            have TF := hid (TW.out.free hhad)
            rw [hfr] at HFR
            have T1' : Hid (Things W v1 [Blk W.heap.size (.cells #[.int .i64 n, .int .i64 k, .slice adA A.length cA, .slice adB B.length cB] 26 (0, 0)), Anyt, Blk p (.cells (pairC a m h h' x y r r') 45 (0, 0)), S2 a m k (M) h t (H0) h' t' (H1), D2 x y k (mN n) r (hN A) r' (hN B), Blk wr.heap.size (.cells #[.int .i64 kd, .int .i64 N, .bool two, .slice oad oW.length ocap] 34 (0, 0))]) := Things.less (ts := [Blk W.heap.size (.cells #[.int .i64 n, .int .i64 k, .slice adA A.length cA, .slice adB B.length cB] 26 (0, 0)), Anyt, Blk p (.cells (pairC a m h h' x y r r') 45 (0, 0)), S2 a m k (M) h t (H0) h' t' (H1), D2 x y k (mN n) r (hN A) r' (hN B), Blk wr.heap.size (.cells #[.int .i64 kd, .int .i64 N, .bool two, .slice oad oW.length ocap] 34 (0, 0))]) T1.out
            clear T1 HMB hat hpt hF0 hi64 hfr hhad hB
            have h0i : (0 : Int) < ((hBl H0.L).length : Int) := by omega
            generalize adI cc ss jj = za at *
            generalize (hBl H0.L).length = bl at *
            go_wp2_with fail
            refine (HFR.out _ T1'.out).mono ?_
            rintro e v3 ⟨rfl, g3⟩
            have T4 : Hid (Things W v3 [Blk W.heap.size (.cells #[.int .i64 n, .int .i64 k, .slice adA A.length cA, .slice adB B.length cB] 26 (0, 0)), Anyt, Blk p (.cells (pairC a m h h' x y r r') 45 (0, 0)), S2 a m k ((hF M H0 cc ss jj).1) h t ((hF M H0 cc ss jj).2.1) h' t' (H1), D2 x y k (mN n) r (hN A) r' (hN B), Blk wr.heap.size (.cells #[.int .i64 kd, .int .i64 N, .bool two, .slice oad oW.length ocap] 34 (0, 0))]) := g3
            clear g3 T1' HFR
            have TE2 : Hid (Things W _ [Blk W.heap.size (.cells #[.int .i64 n, .int .i64 k, .slice adA A.length cA, .slice adB B.length cB] 26 (0, 0)), Anyt, Blk p (.cells (pairC a m h h' x y r r') 45 (0, 0)), S2 a m k ((hF M H0 cc ss jj).1) h t ((hF M H0 cc ss jj).2.1) h' t' (H1), D2 x y k (mN n) r (hN A) r' (hN B)]) := Things.less (ts := [Blk W.heap.size (.cells #[.int .i64 n, .int .i64 k, .slice adA A.length cA, .slice adB B.length cB] 26 (0, 0)), Anyt, Blk p (.cells (pairC a m h h' x y r r') 45 (0, 0)), S2 a m k ((hF M H0 cc ss jj).1) h t ((hF M H0 cc ss jj).2.1) h' t' (H1), D2 x y k (mN n) r (hN A) r' (hN B)]) T4.out
            go_wp2
            go_roundw
            case rel => exact ⟨j + 1, (hF M H0 cc ss jj).1, (hF M H0 cc ss jj).2.1, H1, by omega, by go_num, (TF.out.less (by omega) (by omega)), TE2⟩
            case measure => simp [intOf]; omega
      · have r0 : (j : Int).tmod 2 = 1 := by rw [Int.tmod_eq_emod_of_nonneg (by omega)]; omega
        have T0 : Hid (Things W wr [Blk W.heap.size (.cells #[.int .i64 n, .int .i64 k, .slice adA A.length cA, .slice adB B.length cB] 26 (0, 0)), Anyt, Blk p (.cells (pairC a m h h' x y r r') 45 (0, 0)), S2 a m k (M) h' t' (H1) h t (H0), D2 x y k (mN n) r (hN A) r' (hN B)]) := T.out.swap2 3 rfl
        have TW : Hid (Cln n k (60 * j) j M H1 H0) := HI.out.swap
        have TB : Hid (Things W (wr.alloc (.cells #[.int .i64 kd, .int .i64 N, .bool two, .slice oad oW.length ocap] 34)) [Blk W.heap.size (.cells #[.int .i64 n, .int .i64 k, .slice adA A.length cA, .slice adB B.length cB] 26 (0, 0)), Anyt, Blk p (.cells (pairC a m h h' x y r r') 45 (0, 0)), S2 a m k (M) h' t' (H1) h t (H0), D2 x y k (mN n) r (hN A) r' (hN B), Blk wr.heap.size (.cells #[.int .i64 kd, .int .i64 N, .bool two, .slice oad oW.length ocap] 34 (0, 0))]) := T0.out.blk _
        have pb : (wr.alloc (.cells #[.int .i64 kd, .int .i64 N, .bool two, .slice oad oW.length ocap] 34)).cell? ⟨p, 3, none⟩ = some (.pointer (some ⟨h', 0, none⟩)) := box_cell (TB.out.cells 2 rfl) 3 rfl
        clear HI T T0
        by_cases hk : kd = 1
        · subst hk
          have HW := hid (hM_had TW.out.tw.ok TW.out.tw.ms (hM_ways (fun _ => id) TW.out.tw.ok TW.out.tw.ms N : MWay (fun q => Cq.inW k H1.W q = true) k M H1 N (hM k M H1 N)))
          have TM := hid (TW.out.malloc N)
          have HMA := hid fun (w : World) (q : Things W w [Blk W.heap.size (.cells #[.int .i64 n, .int .i64 k, .slice adA A.length cA, .slice adB B.length cB] 26 (0, 0)), Anyt, Blk p (.cells (pairC a m h h' x y r r') 45 (0, 0)), S2 a m k (M) h' t' (H1) h t (H0), D2 x y k (mN n) r (hN A) r' (hN B), Blk wr.heap.size (.cells #[.int .i64 1, .int .i64 N, .bool two, .slice oad oW.length ocap] 34 (0, 0))]) => t_malloc q GR.out 3 rfl TW.out.tw (by omega) i2
          go_wp2_with fail
          refine (HMA.out _ TB.out).mono ?_
          rintro e v2 ⟨rfl, g2⟩
          have T2 : Hid (Things W v2 [Blk W.heap.size (.cells #[.int .i64 n, .int .i64 k, .slice adA A.length cA, .slice adB B.length cB] 26 (0, 0)), Anyt, Blk p (.cells (pairC a m h h' x y r r') 45 (0, 0)), S2 a m k ((hM k M H1 N).1) h' t' ((hM k M H1 N).2.1) h t (H0), D2 x y k (mN n) r (hN A) r' (hN B), Blk wr.heap.size (.cells #[.int .i64 1, .int .i64 N, .bool two, .slice oad oW.length ocap] 34 (0, 0))]) := g2
          clear g2 TB HMA
          generalize hM k M H1 N = rr at *
          obtain ⟨MM, HH, av, ev⟩ := rr
          simp only at *
          by_cases he : ev = 0
          · subst he
            generalize wr.heap.size = Bo at *
            obtain ⟨-, cc, ss, jj, hg⟩ := HW.out.resolve_left fun e => e.1 rfl
            have hat := hg.at_
            have hhad : HadB HH.L cc ss jj := (hg.had cc ss jj).2 (.inr ⟨rfl, rfl, rfl⟩)
            clear hg HW
            obtain ⟨hpt, hcc, hss⟩ := hhad.there TM.out.tw.ok
            have hF0 := findR_of hpt
            have hun := unitI_range cc (by omega) (by omega)
            have hi64 : I64 (adI cc ss jj) := by have := hpt.inside; exact ⟨by omega, by omega⟩
            have HHU : Hid (hUs HH cc ss jj 0 = (unitI cc, 0)) := had_us TM.out.tw.ok hhad
            rw [← hat] at hF0 hi64
            have HUS := hid fun (w : World) (q : Things W w [Blk W.heap.size (.cells #[.int .i64 n, .int .i64 k, .slice adA A.length cA, .slice adB B.length cB] 26 (0, 0)), Anyt, Blk p (.cells (pairC a m h h' x y r r') 45 (0, 0)), S2 a m k (MM) h' t' (HH) h t (H0), D2 x y k (mN n) r (hN A) r' (hN B), Blk Bo (.cells #[.int .i64 1, .int .i64 N, .bool two, .slice oad oW.length ocap] 34 (0, 0))]) => t_usable q GR.out 3 rfl TM.out.tw (by omega) hF0 hi64
            rw [HHU.out] at HUS
            obtain ⟨u, hu⟩ : ∃ u : Nat, unitI cc = (u : Int) := ⟨(unitI cc).toNat, by omega⟩
            rw [hu] at HUS hun
            have HWR : Hid (∀ (w : World) (Bb : Nat) (d : List UInt8), d.length = u → Things W w [Blk W.heap.size (.cells #[.int .i64 n, .int .i64 k, .slice adA A.length cA, .slice adB B.length cB] 26 (0, 0)), Anyt, Blk p (.cells (pairC a m h h' x y r r') 45 (0, 0)), S2 a m k (MM) h' t' (HH) h t (H0), D2 x y k (mN n) r (hN A) r' (hN B), Blk Bo (.cells #[.int .i64 1, .int .i64 N, .bool two, .slice oad oW.length ocap] 34 (0, 0)), Blk Bb (.cells (bc d).toArray 5 (0, 0))] → Calls Tryz.prog 33 #[.pointer (some ⟨a, 0, none⟩), .pointer (some ⟨t', 0, none⟩), .int .i64 av, .string ⟨d.toArray⟩] w fun e w' => ∃ (E : Int) (M' : Ms), e = .returned (.int .i64 E) ∧ Cln n k (60 * j + 22) (j + 1) M' HH H0 ∧ Things W w' [Blk W.heap.size (.cells #[.int .i64 n, .int .i64 k, .slice adA A.length cA, .slice adB B.length cB] 26 (0, 0)), Anyt, Blk p (.cells (pairC a m h h' x y r r') 45 (0, 0)), S2 a m k (M') h' t' (HH) h t (H0), D2 x y k (mN n) r (hN A) r' (hN B), Blk Bo (.cells #[.int .i64 1, .int .i64 N, .bool two, .slice oad oW.length ocap] 34 (0, 0)), Blk Bb (.cells (bc d).toArray 5 (0, 0))]) := fun w Bb d hd q => by
              have hsz : (⟨d.toArray⟩ : ByteArray).size = u := by simp [ByteArray.size, hd]
              refine (t_write q 3 rfl TM.out.tw (by omega) hi64 ⟨d.toArray⟩ (by rw [hsz]; omega)).mono ?_
              rintro e w' ⟨rfl, g⟩
              rw [hsz] at g
              have tw := TM.out.wrote hhad (ds := d) (by rw [hu, hd]; rfl)
              rw [← hat, hu] at tw
              exact ⟨_, _, rfl, tw, g⟩
            have HTA := hid fun (w : World) (ts : List (World → (Nat → Prop) → Prop)) (q : Things W w ts) (hj : ts[3]? = some (S2 a m k (MM) h' t' (HH) h t (H0))) => t_table q 3 hj
            clear HHU hpt hF0 hcc hss hhad hat TM
            go_wp2_with fail
            refine (HUS.out _ T2.out).mono ?_
            rintro e v3 ⟨rfl, g3⟩
            have T3 := hid g3
            clear g3 T2 HUS
            have hmk := run_make_bytes v3 u (by omega)
            have T4 : Hid (Things W (v3.alloc (.cells (bc (zs u)).toArray 5)) [Blk W.heap.size (.cells #[.int .i64 n, .int .i64 k, .slice adA A.length cA, .slice adB B.length cB] 26 (0, 0)), Anyt, Blk p (.cells (pairC a m h h' x y r r') 45 (0, 0)), S2 a m k (MM) h' t' (HH) h t (H0), D2 x y k (mN n) r (hN A) r' (hN B), Blk Bo (.cells #[.int .i64 1, .int .i64 N, .bool two, .slice oad oW.length ocap] 34 (0, 0)), Blk v3.heap.size (.cells (bc (zs u)).toArray 5 (0, 0))]) := T3.out.blk _
            have HZL : Hid ((zs u).length = u) := zs_length u
            generalize zs u = zz at *
            go_wp2
            clear T3 hmk
            generalize v3.alloc (.cells (bc zz).toArray 5) = v4 at T4 ⊢
            generalize v3.heap.size = Bb at T4 ⊢
            go_loopw [76] (fun i wr => ∃ (z : Nat) (d : List UInt8), z ≤ u ∧ i = .int .i64 z ∧ d.length = u ∧ Hid (Things W wr [Blk W.heap.size (.cells #[.int .i64 n, .int .i64 k, .slice adA A.length cA, .slice adB B.length cB] 26 (0, 0)), Anyt, Blk p (.cells (pairC a m h h' x y r r') 45 (0, 0)), S2 a m k (MM) h' t' (HH) h t (H0), D2 x y k (mN n) r (hN A) r' (hN B), Blk Bo (.cells #[.int .i64 1, .int .i64 N, .bool two, .slice oad oW.length ocap] 34 (0, 0)), Blk Bb (.cells (bc d).toArray 5 (0, 0))])) (fun i _ => u - (intOf i).toNat)
            case atStart => exact ⟨0, zz, by omega, rfl, HZL.out, T4⟩
            case round =>
              obtain ⟨z, d, hz, rfl, hd, TL⟩ := hrel
              clear T4 HZL
              by_cases hlm : z < u
              · have hc := row_cell (TL.out.cells 6 rfl) z (by omega)
                have hfz := row_frozen (TL.out.cells 6 rfl) z
                have TS : Hid (Things W (wr.setCell ⟨Bb, z, none⟩ (.int .u8 255)) [Blk W.heap.size (.cells #[.int .i64 n, .int .i64 k, .slice adA A.length cA, .slice adB B.length cB] 26 (0, 0)), Anyt, Blk p (.cells (pairC a m h h' x y r r') 45 (0, 0)), S2 a m k (MM) h' t' (HH) h t (H0), D2 x y k (mN n) r (hN A) r' (hN B), Blk Bo (.cells #[.int .i64 1, .int .i64 N, .bool two, .slice oad oW.length ocap] 34 (0, 0)), Blk Bb (.cells (bc (d.set z 255)).toArray 5 (0, 0))]) := by
                  have := TL.out.setAt 6 rfl z (.int .u8 (((255 : UInt8).toNat : Nat) : Int))
                  rw [bc_set] at this
                  exact this
                generalize d[z].toNat = old at hc
                go_wp2
                go_roundw
                case rel => exact ⟨z + 1, d.set z 255, by omega, by go_num, by rw [List.length_set]; exact hd, TS⟩
                case measure => simp [intOf]; omega
              · obtain rfl : u = z := by omega
                have TD : Hid (Things W wr.drew [Blk W.heap.size (.cells #[.int .i64 n, .int .i64 k, .slice adA A.length cA, .slice adB B.length cB] 26 (0, 0)), Anyt, Blk p (.cells (pairC a m h h' x y r r') 45 (0, 0)), S2 a m k (MM) h' t' (HH) h t (H0), D2 x y k (mN n) r (hN A) r' (hN B), Blk Bo (.cells #[.int .i64 1, .int .i64 N, .bool two, .slice oad oW.length ocap] 34 (0, 0)), Blk Bb (.cells (bc d).toArray 5 (0, 0))]) := TL.out.kept (Fr.refl _ _).drew
                have pc : wr.drew.cell? ⟨p, 0, none⟩ = some (.pointer (some ⟨a, 0, none⟩)) := box_cell (TD.out.cells 2 rfl) 0 rfl
                have hcv := run_row_text (TD.out.cells 6 rfl) hd
                clear hlm TL
                go_wp2_with fail
                go_region_held3 (fun w' => w'.cell? ⟨p, 0, none⟩ = some (.pointer (some ⟨a, 0, none⟩)) ∧ (convert 65 9 (.slice (some ⟨Bb, 0, none⟩) u u)).run Tryz.prog w' = .ok (.string ⟨d.toArray⟩) w') (first | exact ⟨by assumption, by assumption⟩ | go_keep) (first | (refine conv_arm rfl (.tmp 90) _ _ rfl rfl hcv ?_) | (refine conv_arm rfl (.tmp 90) _ _ rfl rfl hcv2 ?_) | (go_at_call 17; refine (HTA.out _ _ TD.out rfl).mono ?_; rintro e v5 ⟨rfl, g5⟩; have T5 : Hid (Things W v5 [Blk W.heap.size (.cells #[.int .i64 n, .int .i64 k, .slice adA A.length cA, .slice adB B.length cB] 26 (0, 0)), Anyt, Blk p (.cells (pairC a m h h' x y r r') 45 (0, 0)), S2 a m k (MM) h' t' (HH) h t (H0), D2 x y k (mN n) r (hN A) r' (hN B), Blk Bo (.cells #[.int .i64 1, .int .i64 N, .bool two, .slice oad oW.length ocap] 34 (0, 0)), Blk Bb (.cells (bc d).toArray 5 (0, 0))]) := g5; clear g5; have pc5 : v5.cell? ⟨p, 0, none⟩ = some (.pointer (some ⟨a, 0, none⟩)) := box_cell (T5.out.cells 2 rfl) 0 rfl; have hcv2 := run_row_text (T5.out.cells 6 rfl) hd) | (go_at_call 33; refine (HWR.out _ Bb d hd T5.out).mono ?_; rintro e v6 ⟨E, M', rfl, tw6, g6⟩; have TW6 := hid tw6; have hcv6 := run_row_text (Things.cells g6 6 rfl) hd; have T6 : Hid (Things W v6 [Blk W.heap.size (.cells #[.int .i64 n, .int .i64 k, .slice adA A.length cA, .slice adB B.length cB] 26 (0, 0)), Anyt, Blk p (.cells (pairC a m h h' x y r r') 45 (0, 0)), S2 a m k (M') h' t' (HH) h t (H0), D2 x y k (mN n) r (hN A) r' (hN B), Blk Bo (.cells #[.int .i64 1, .int .i64 N, .bool two, .slice oad oW.length ocap] 34 (0, 0))]) := Things.less (ts := [Blk W.heap.size (.cells #[.int .i64 n, .int .i64 k, .slice adA A.length cA, .slice adB B.length cB] 26 (0, 0)), Anyt, Blk p (.cells (pairC a m h h' x y r r') 45 (0, 0)), S2 a m k (M') h' t' (HH) h t (H0), D2 x y k (mN n) r (hN A) r' (hN B), Blk Bo (.cells #[.int .i64 1, .int .i64 N, .bool two, .slice oad oW.length ocap] 34 (0, 0))]) g6; clear tw6 g6; have pc6 : v6.cell? ⟨p, 0, none⟩ = some (.pointer (some ⟨a, 0, none⟩)) := box_cell (T6.out.cells 2 rfl) 0 rfl))
                · clear TD T5 HWR HTA
                  have TE2 : Hid (Things W _ [Blk W.heap.size (.cells #[.int .i64 n, .int .i64 k, .slice adA A.length cA, .slice adB B.length cB] 26 (0, 0)), Anyt, Blk p (.cells (pairC a m h h' x y r r') 45 (0, 0)), S2 a m k (M') h t (H0) h' t' (HH), D2 x y k (mN n) r (hN A) r' (hN B)]) := Things.swap2 (ts := [Blk W.heap.size (.cells #[.int .i64 n, .int .i64 k, .slice adA A.length cA, .slice adB B.length cB] 26 (0, 0)), Anyt, Blk p (.cells (pairC a m h h' x y r r') 45 (0, 0)), S2 a m k (M') h' t' (HH) h t (H0), D2 x y k (mN n) r (hN A) r' (hN B)]) (Things.less (ts := [Blk W.heap.size (.cells #[.int .i64 n, .int .i64 k, .slice adA A.length cA, .slice adB B.length cB] 26 (0, 0)), Anyt, Blk p (.cells (pairC a m h h' x y r r') 45 (0, 0)), S2 a m k (M') h' t' (HH) h t (H0), D2 x y k (mN n) r (hN A) r' (hN B)]) T6.out) 3 rfl
                  go_wp2
                  go_roundw
                  case rel => exact ⟨j + 1, M', H0, HH, by omega, by go_num, (TW6.out.less (by omega) (by omega)).swap, TE2⟩
                  case measure => simp [intOf]; omega
          · clear HW
            have TE2 : Hid (Things W _ [Blk W.heap.size (.cells #[.int .i64 n, .int .i64 k, .slice adA A.length cA, .slice adB B.length cB] 26 (0, 0)), Anyt, Blk p (.cells (pairC a m h h' x y r r') 45 (0, 0)), S2 a m k (MM) h t (H0) h' t' (HH), D2 x y k (mN n) r (hN A) r' (hN B)]) := Things.swap2 (ts := [Blk W.heap.size (.cells #[.int .i64 n, .int .i64 k, .slice adA A.length cA, .slice adB B.length cB] 26 (0, 0)), Anyt, Blk p (.cells (pairC a m h h' x y r r') 45 (0, 0)), S2 a m k (MM) h' t' (HH) h t (H0), D2 x y k (mN n) r (hN A) r' (hN B)]) (Things.less (ts := [Blk W.heap.size (.cells #[.int .i64 n, .int .i64 k, .slice adA A.length cA, .slice adB B.length cB] 26 (0, 0)), Anyt, Blk p (.cells (pairC a m h h' x y r r') 45 (0, 0)), S2 a m k (MM) h' t' (HH) h t (H0), D2 x y k (mN n) r (hN A) r' (hN B)]) T2.out) 3 rfl
            go_wp2
            go_roundw
            case rel => exact ⟨j + 1, MM, H0, HH, by omega, by go_num, (TM.out.less (by omega) (by omega)).swap, TE2⟩
            case measure => simp [intOf]; omega
        · have hkd : (kd == 1) = false := by simp [hk]
          have HBL := hid fun (w : World) (q : Things W w [Blk W.heap.size (.cells #[.int .i64 n, .int .i64 k, .slice adA A.length cA, .slice adB B.length cB] 26 (0, 0)), Anyt, Blk p (.cells (pairC a m h h' x y r r') 45 (0, 0)), S2 a m k (M) h' t' (H1) h t (H0), D2 x y k (mN n) r (hN A) r' (hN B), Blk wr.heap.size (.cells #[.int .i64 kd, .int .i64 N, .bool two, .slice oad oW.length ocap] 34 (0, 0))]) => t_blocks q GR.out 3 rfl TW.out.tw (by omega)
          go_wp2_with fail
          refine (HBL.out _ TB.out).mono ?_
          rintro e v1 ⟨lad, lcap, rfl, g1⟩
          have T1 : Hid (Things W v1 [Blk W.heap.size (.cells #[.int .i64 n, .int .i64 k, .slice adA A.length cA, .slice adB B.length cB] 26 (0, 0)), Anyt, Blk p (.cells (pairC a m h h' x y r r') 45 (0, 0)), S2 a m k (M) h' t' (H1) h t (H0), D2 x y k (mN n) r (hN A) r' (hN B), Blk wr.heap.size (.cells #[.int .i64 kd, .int .i64 N, .bool two, .slice oad oW.length ocap] 34 (0, 0)), Lv lad (hBl H1.L)]) := g1
          clear g1 TB HBL hkd hk
          have HMB := hid fun (z : Int) (hz : z ∈ hBl H1.L) => (mem_hBl TW.out.tw.ok.nd TW.out.tw.ok.at_).1 hz
          have hbl := hBl_len H1.L
          have b1 : v1.cell? ⟨wr.heap.size, 1, none⟩ = some (.int .i64 N) := box_cell (T1.out.cells 5 rfl) 1 rfl
          cases hB : hBl H1.L with
          | nil =>
            have T1' : Hid (Things W v1 [Blk W.heap.size (.cells #[.int .i64 n, .int .i64 k, .slice adA A.length cA, .slice adB B.length cB] 26 (0, 0)), Anyt, Blk p (.cells (pairC a m h h' x y r r') 45 (0, 0)), S2 a m k (M) h' t' (H1) h t (H0), D2 x y k (mN n) r (hN A) r' (hN B), Blk wr.heap.size (.cells #[.int .i64 kd, .int .i64 N, .bool two, .slice oad oW.length ocap] 34 (0, 0))]) := Things.less (ts := [Blk W.heap.size (.cells #[.int .i64 n, .int .i64 k, .slice adA A.length cA, .slice adB B.length cB] 26 (0, 0)), Anyt, Blk p (.cells (pairC a m h h' x y r r') 45 (0, 0)), S2 a m k (M) h' t' (H1) h t (H0), D2 x y k (mN n) r (hN A) r' (hN B), Blk wr.heap.size (.cells #[.int .i64 kd, .int .i64 N, .bool two, .slice oad oW.length ocap] 34 (0, 0))]) T1.out
            clear T1 HMB hbl
            have TE2 : Hid (Things W _ [Blk W.heap.size (.cells #[.int .i64 n, .int .i64 k, .slice adA A.length cA, .slice adB B.length cB] 26 (0, 0)), Anyt, Blk p (.cells (pairC a m h h' x y r r') 45 (0, 0)), S2 a m k (M) h t (H0) h' t' (H1), D2 x y k (mN n) r (hN A) r' (hN B)]) := Things.swap2 (ts := [Blk W.heap.size (.cells #[.int .i64 n, .int .i64 k, .slice adA A.length cA, .slice adB B.length cB] 26 (0, 0)), Anyt, Blk p (.cells (pairC a m h h' x y r r') 45 (0, 0)), S2 a m k (M) h' t' (H1) h t (H0), D2 x y k (mN n) r (hN A) r' (hN B)]) (Things.less (ts := [Blk W.heap.size (.cells #[.int .i64 n, .int .i64 k, .slice adA A.length cA, .slice adB B.length cB] 26 (0, 0)), Anyt, Blk p (.cells (pairC a m h h' x y r r') 45 (0, 0)), S2 a m k (M) h' t' (H1) h t (H0), D2 x y k (mN n) r (hN A) r' (hN B)]) T1'.out) 3 rfl
            go_wp2
            go_roundw
            case rel => exact ⟨j + 1, M, H0, H1, by omega, by go_num, (TW.out.less (by omega) (by omega)).swap, TE2⟩
            case measure => simp [intOf]; omega
          | cons z0 zr =>
            rw [← hB]
            have h0 : 0 < (hBl H1.L).length := by rw [hB]; simp
            obtain ⟨ix, hix, hixl⟩ := modu N (hBl H1.L).length _ rfl h0 hbl
            obtain ⟨lb0, loff, rfl, hlb, hlc⟩ := (T1.out.nums 6 rfl) ix hixl
            obtain ⟨cc, ss, jj, hhad, hat⟩ := HMB.out (hBl H1.L)[ix] (List.getElem_mem hixl)
            rw [hat] at hlc
            obtain ⟨hpt, hcc, hss⟩ := hhad.there TW.out.tw.ok
            have hF0 := findR_of hpt
            have hi64 : I64 (adI cc ss jj) := by have := hpt.inside; have := unitI_range cc (by omega) (by omega); exact ⟨by omega, by omega⟩
            have hfr : hFr M H1 cc ss jj 0 = hF M H1 cc ss jj := by unfold hFr; rw [if_pos rfl, Int.toNat_natCast, Int.toNat_natCast]
            have HFR := hid fun (w : World) (q : Things W w [Blk W.heap.size (.cells #[.int .i64 n, .int .i64 k, .slice adA A.length cA, .slice adB B.length cB] 26 (0, 0)), Anyt, Blk p (.cells (pairC a m h h' x y r r') 45 (0, 0)), S2 a m k (M) h' t' (H1) h t (H0), D2 x y k (mN n) r (hN A) r' (hN B), Blk wr.heap.size (.cells #[.int .i64 kd, .int .i64 N, .bool two, .slice oad oW.length ocap] 34 (0, 0))]) => t_free q GR.out 3 rfl TW.out.tw (by omega) hF0 hi64
            have TF := hid (TW.out.free hhad)
            rw [hfr] at HFR
            have T1' : Hid (Things W v1 [Blk W.heap.size (.cells #[.int .i64 n, .int .i64 k, .slice adA A.length cA, .slice adB B.length cB] 26 (0, 0)), Anyt, Blk p (.cells (pairC a m h h' x y r r') 45 (0, 0)), S2 a m k (M) h' t' (H1) h t (H0), D2 x y k (mN n) r (hN A) r' (hN B), Blk wr.heap.size (.cells #[.int .i64 kd, .int .i64 N, .bool two, .slice oad oW.length ocap] 34 (0, 0))]) := Things.less (ts := [Blk W.heap.size (.cells #[.int .i64 n, .int .i64 k, .slice adA A.length cA, .slice adB B.length cB] 26 (0, 0)), Anyt, Blk p (.cells (pairC a m h h' x y r r') 45 (0, 0)), S2 a m k (M) h' t' (H1) h t (H0), D2 x y k (mN n) r (hN A) r' (hN B), Blk wr.heap.size (.cells #[.int .i64 kd, .int .i64 N, .bool two, .slice oad oW.length ocap] 34 (0, 0))]) T1.out
            clear T1 HMB hat hpt hF0 hi64 hfr hhad hB
            have h0i : (0 : Int) < ((hBl H1.L).length : Int) := by omega
            generalize adI cc ss jj = za at *
            generalize (hBl H1.L).length = bl at *
            go_wp2_with fail
            refine (HFR.out _ T1'.out).mono ?_
            rintro e v3 ⟨rfl, g3⟩
            have T4 : Hid (Things W v3 [Blk W.heap.size (.cells #[.int .i64 n, .int .i64 k, .slice adA A.length cA, .slice adB B.length cB] 26 (0, 0)), Anyt, Blk p (.cells (pairC a m h h' x y r r') 45 (0, 0)), S2 a m k ((hF M H1 cc ss jj).1) h' t' ((hF M H1 cc ss jj).2.1) h t (H0), D2 x y k (mN n) r (hN A) r' (hN B), Blk wr.heap.size (.cells #[.int .i64 kd, .int .i64 N, .bool two, .slice oad oW.length ocap] 34 (0, 0))]) := g3
            clear g3 T1' HFR
            have TE2 : Hid (Things W _ [Blk W.heap.size (.cells #[.int .i64 n, .int .i64 k, .slice adA A.length cA, .slice adB B.length cB] 26 (0, 0)), Anyt, Blk p (.cells (pairC a m h h' x y r r') 45 (0, 0)), S2 a m k ((hF M H1 cc ss jj).1) h t (H0) h' t' ((hF M H1 cc ss jj).2.1), D2 x y k (mN n) r (hN A) r' (hN B)]) := Things.swap2 (ts := [Blk W.heap.size (.cells #[.int .i64 n, .int .i64 k, .slice adA A.length cA, .slice adB B.length cB] 26 (0, 0)), Anyt, Blk p (.cells (pairC a m h h' x y r r') 45 (0, 0)), S2 a m k ((hF M H1 cc ss jj).1) h' t' ((hF M H1 cc ss jj).2.1) h t (H0), D2 x y k (mN n) r (hN A) r' (hN B)]) (Things.less (ts := [Blk W.heap.size (.cells #[.int .i64 n, .int .i64 k, .slice adA A.length cA, .slice adB B.length cB] 26 (0, 0)), Anyt, Blk p (.cells (pairC a m h h' x y r r') 45 (0, 0)), S2 a m k ((hF M H1 cc ss jj).1) h' t' ((hF M H1 cc ss jj).2.1) h t (H0), D2 x y k (mN n) r (hN A) r' (hN B)]) T4.out) 3 rfl
            go_wp2
            go_roundw
            case rel => exact ⟨j + 1, (hF M H1 cc ss jj).1, H0, (hF M H1 cc ss jj).2.1, by omega, by go_num, (TF.out.less (by omega) (by omega)).swap, TE2⟩
            case measure => simp [intOf]; omega
end Go.Proofs.YtihaifnenjngpaaGreatDoor
