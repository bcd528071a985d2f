/-
  No call of a heap touches a byte that isn't in a page that it holds, or held; heaps of windows apart are nothing to each other: the law's walk.
-/
import Derived.Test.YtihaifnenjngpaaGreatDoorHpLaws
import Derived.Test.YtihaifnenjngpaaGreatDoorHpOwnCall
import Derived.Test.YtihaifnenjngpaaGreatDoorHpMade5
import Derived.Test.YtihaifnenjngpaaGreatDoorPaRefA
import Derived.Test.YtihaifnenjngpaaGreatDoorCqApp
import Derived.Deep.RegionHeld3
import Derived.Deep.DeepCutAuto
namespace Go.Proofs.YtihaifnenjngpaaGreatDoor
open Go.RowKit
open An

set_option maxRecDepth 20000 in
set_option maxHeartbeats 4000000 in
theorem own_walk {W : World} (gr : G17 W) {c : C17} {sad : Option Addr} {cap : Nat} {l : List O17} (hc : CfgH W c) (ho : OpsH W sad l) (hmax : l.length ≤ maxLen) : Calls Tryz.prog 5 #[c.val, .slice sad l.length cap] W fun e w' => e = .returned (.bool true) ∧ Nw W w' := by
  have GR := hid gr
  have HO := hid ho
  have HCF := hid hc
  have HA : Hid (∀ w, Nw W w → Calls Tryz.prog 9 #[] w fun e w' => e = .returned (.bool true) ∧ Fr (fun _ => False) w w') := fun w h => (awake_any (Nw.start w) (gr.fr h.fr)).mono fun e w' ⟨h1, h2⟩ => ⟨h1, h2.fr⟩
  have hmax' := hmax
  unfold maxLen at hmax'
  obtain ⟨P, K, adA, cA, A, adB, cB, B⟩ := c
  have T0 : Hid (Things W (W.alloc (.cells #[.int .i64 P, .int .i64 K, .slice adA A.length cA, .slice adB B.length cB] 26)) [Blk W.heap.size (.cells #[.int .i64 P, .int .i64 K, .slice adA A.length cA, .slice adB B.length cB] 26 (0, 0))]) := (Things.start (Nw.start W)).blk _
  by_cases ok : Cq.Cfg P K
  case neg =>
    have HM := hid fun (w : World) (ts : List (World → (Nat → Prop) → Prop)) (q : Things W w ts) => made_no q (c := ⟨P, K, adA, cA, A, adB, cB, B⟩) ok
    clear gr hc ho ok hmax
    unfold C17.val at HM ⊢
    simp only at HM ⊢
    go_enter Tryz.func5, Tryz.ntmps5
    have TD := hid (T0.out.kept (Fr.refl _ _).drew)
    have fa0 : (W.alloc (.cells #[.int .i64 P, .int .i64 K, .slice adA A.length cA, .slice adB B.length cB] 26)).drew.cell? ⟨W.heap.size, 0, none⟩ = some (.int .i64 P) := box_cell (TD.out.cells 0 rfl) 0 rfl
    have fa1 : (W.alloc (.cells #[.int .i64 P, .int .i64 K, .slice adA A.length cA, .slice adB B.length cB] 26)).drew.cell? ⟨W.heap.size, 1, none⟩ = some (.int .i64 K) := box_cell (TD.out.cells 0 rfl) 1 rfl
    have fa2 : (W.alloc (.cells #[.int .i64 P, .int .i64 K, .slice adA A.length cA, .slice adB B.length cB] 26)).drew.cell? ⟨W.heap.size, 2, none⟩ = some (.slice adA A.length cA) := box_cell (TD.out.cells 0 rfl) 2 rfl
    have fa3 : (W.alloc (.cells #[.int .i64 P, .int .i64 K, .slice adA A.length cA, .slice adB B.length cB] 26)).drew.cell? ⟨W.heap.size, 3, none⟩ = some (.slice adB B.length cB) := box_cell (TD.out.cells 0 rfl) 3 rfl
    clear T0
    go_wp2_with fail
    go_region_held3 (fun w' => w'.cell? ⟨W.heap.size, 0, none⟩ = some (.int .i64 P) ∧ w'.cell? ⟨W.heap.size, 1, none⟩ = some (.int .i64 K) ∧ w'.cell? ⟨W.heap.size, 2, none⟩ = some (.slice adA A.length cA) ∧ w'.cell? ⟨W.heap.size, 3, none⟩ = some (.slice adB B.length cB)) (first | exact ⟨by assumption, by assumption, by assumption, by assumption⟩ | go_keep) (first | (go_at_call 11; refine (HM.out _ _ T1.out).mono ?_; rintro e w2 ⟨rfl, h2⟩; have T2 := hid h2; clear h2; have fc0 : w2.cell? ⟨W.heap.size, 0, none⟩ = some (.int .i64 P) := box_cell (T2.out.cells 0 rfl) 0 rfl; have fc1 : w2.cell? ⟨W.heap.size, 1, none⟩ = some (.int .i64 K) := box_cell (T2.out.cells 0 rfl) 1 rfl; have fc2 : w2.cell? ⟨W.heap.size, 2, none⟩ = some (.slice adA A.length cA) := box_cell (T2.out.cells 0 rfl) 2 rfl; have fc3 : w2.cell? ⟨W.heap.size, 3, none⟩ = some (.slice adB B.length cB) := box_cell (T2.out.cells 0 rfl) 3 rfl) | (go_at_call 11; refine (HM.out _ _ TD.out).mono ?_; rintro e w1 ⟨rfl, h1⟩; have T1 := hid h1; clear h1; have fb0 : w1.cell? ⟨W.heap.size, 0, none⟩ = some (.int .i64 P) := box_cell (T1.out.cells 0 rfl) 0 rfl; have fb1 : w1.cell? ⟨W.heap.size, 1, none⟩ = some (.int .i64 K) := box_cell (T1.out.cells 0 rfl) 1 rfl; have fb2 : w1.cell? ⟨W.heap.size, 2, none⟩ = some (.slice adA A.length cA) := box_cell (T1.out.cells 0 rfl) 2 rfl; have fb3 : w1.cell? ⟨W.heap.size, 3, none⟩ = some (.slice adB B.length cB) := box_cell (T1.out.cells 0 rfl) 3 rfl))
    have N1 := hid T2.out.nw
    clear T2 T1 TD HM
    go_wp2_with fail
    refine (HA.out _ N1.out).mono ?_
    rintro e w3 ⟨rfl, h2⟩
    have N2 := hid (N1.out.kept h2)
    clear h2
    go_wp2_with fail
    refine (HA.out _ N2.out).mono ?_
    rintro e w4 ⟨rfl, h3⟩
    go_wp2
    go_ret
    exact ⟨by simp, N2.out.kept h3⟩
  obtain ⟨n, rfl⟩ : ∃ n : Nat, P = (n : Int) := ⟨P.toNat, by have := ok.2.2.1; omega⟩
  obtain ⟨k, rfl⟩ : ∃ k : Nat, K = (k : Int) := ⟨K.toNat, by have := ok.1; omega⟩
  have hmm := @run_makeMap Tryz.prog
  have HM := hid fun (w : World) (X0 : World → (Nat → Prop) → Prop) (q : Things W w [X0]) => made1 q gr hc ok
  have HLG : Hid (∀ w, Nw W w → Calls Tryz.prog 10 #[C17.val ⟨n, k, adA, cA, A, adB, cB, B⟩, .slice sad l.length cap] w fun e w' => LongR ⟨n, k, adA, cA, A, adB, cB, B⟩ l e ∧ Fr (fun _ => False) w w') := fun w h => long_any (ho.fr h.fr) (hc.fr h.fr) hmax
  have HM5 := hid fun (w : World) (X0 X1 X2 X3 X4 : World → (Nat → Prop) → Prop) (q : Things W w [X0, X1, X2, X3, X4]) => made5 q gr hc ok
  have HT2 := hid (two_new ok hc.la hc.lb)
  have HNA : Hid (∀ w, Nw W w → NumsAt w adA A ∧ NumsAt w adB B) := fun w h => ⟨hc.a.fr h.fr, hc.b.fr h.fr⟩
  have hla := hc.la
  have hlb := hc.lb
  clear gr hc ho hmax
  unfold C17.val at HM HM5 HLG ⊢
  simp only at HM HM5 HLG ⊢
  go_enter Tryz.func5, Tryz.ntmps5
  have TD := hid (T0.out.kept (Fr.refl _ _).drew)
  have fa0 : (W.alloc (.cells #[.int .i64 n, .int .i64 k, .slice adA A.length cA, .slice adB B.length cB] 26)).drew.cell? ⟨W.heap.size, 0, none⟩ = some (.int .i64 n) := box_cell (TD.out.cells 0 rfl) 0 rfl
  have fa1 : (W.alloc (.cells #[.int .i64 n, .int .i64 k, .slice adA A.length cA, .slice adB B.length cB] 26)).drew.cell? ⟨W.heap.size, 1, none⟩ = some (.int .i64 k) := box_cell (TD.out.cells 0 rfl) 1 rfl
  have fa2 : (W.alloc (.cells #[.int .i64 n, .int .i64 k, .slice adA A.length cA, .slice adB B.length cB] 26)).drew.cell? ⟨W.heap.size, 2, none⟩ = some (.slice adA A.length cA) := box_cell (TD.out.cells 0 rfl) 2 rfl
  have fa3 : (W.alloc (.cells #[.int .i64 n, .int .i64 k, .slice adA A.length cA, .slice adB B.length cB] 26)).drew.cell? ⟨W.heap.size, 3, none⟩ = some (.slice adB B.length cB) := box_cell (TD.out.cells 0 rfl) 3 rfl
  clear T0
  go_wp2_with fail
  go_region_held3 (fun w' => w'.cell? ⟨W.heap.size, 0, none⟩ = some (.int .i64 n) ∧ w'.cell? ⟨W.heap.size, 1, none⟩ = some (.int .i64 k) ∧ w'.cell? ⟨W.heap.size, 2, none⟩ = some (.slice adA A.length cA) ∧ w'.cell? ⟨W.heap.size, 3, none⟩ = some (.slice adB B.length cB)) (first | exact ⟨by assumption, by assumption, by assumption, by assumption⟩ | go_keep) (first | (go_at_call 11; refine (HM5.out _ _ _ _ _ _ T1.out).mono ?_; rintro e w1' ⟨p2, a2, m2, h2, t2, h2', t2', x2, y2, r2, r2', rfl, g1⟩; have T1' : Hid (Things W w1' [Blk W.heap.size (.cells #[.int .i64 n, .int .i64 k, .slice adA A.length cA, .slice adB B.length cB] 26 (0, 0)), Anyt, Blk p (.cells (pairC a m h h' x y r r') 45 (0, 0)), S2 a m k (mN n) h t (hN A) h' t' (hN B), D2 x y k (mN n) r (hN A) r' (hN B), Anyt, Blk p2 (.cells (pairC a2 m2 h2 h2' x2 y2 r2 r2') 45 (0, 0)), S2 a2 m2 k (mN n) h2 t2 (hN A) h2' t2' (hN B), D2 x2 y2 k (mN n) r2 (hN A) r2' (hN B)]) := g1; clear g1; have fc0 : w1'.cell? ⟨W.heap.size, 0, none⟩ = some (.int .i64 n) := box_cell (T1'.out.cells 0 rfl) 0 rfl; have fc1 : w1'.cell? ⟨W.heap.size, 1, none⟩ = some (.int .i64 k) := box_cell (T1'.out.cells 0 rfl) 1 rfl; have fc2 : w1'.cell? ⟨W.heap.size, 2, none⟩ = some (.slice adA A.length cA) := box_cell (T1'.out.cells 0 rfl) 2 rfl; have fc3 : w1'.cell? ⟨W.heap.size, 3, none⟩ = some (.slice adB B.length cB) := box_cell (T1'.out.cells 0 rfl) 3 rfl) | (go_at_call 11; refine (HM.out _ _ TD.out).mono ?_; rintro e w1 ⟨p, a, m, h, t, h', t', x, y, r, r', rfl, h1⟩; have T1 : Hid (Things W w1 [Blk W.heap.size (.cells #[.int .i64 n, .int .i64 k, .slice adA A.length cA, .slice adB B.length cB] 26 (0, 0)), Anyt, Blk p (.cells (pairC a m h h' x y r r') 45 (0, 0)), S2 a m k (mN n) h t (hN A) h' t' (hN B), D2 x y k (mN n) r (hN A) r' (hN B)]) := h1; clear h1; have fb0 : w1.cell? ⟨W.heap.size, 0, none⟩ = some (.int .i64 n) := box_cell (T1.out.cells 0 rfl) 0 rfl; have fb1 : w1.cell? ⟨W.heap.size, 1, none⟩ = some (.int .i64 k) := box_cell (T1.out.cells 0 rfl) 1 rfl; have fb2 : w1.cell? ⟨W.heap.size, 2, none⟩ = some (.slice adA A.length cA) := box_cell (T1.out.cells 0 rfl) 2 rfl; have fb3 : w1.cell? ⟨W.heap.size, 3, none⟩ = some (.slice adB B.length cB) := box_cell (T1.out.cells 0 rfl) 3 rfl))
  clear HM HM5 TD T1 fa0 fa1 fa2 fa3 fb0 fb1 fb2 fb3 fc0 fc1 fc2 fc3
  go_wp2_with fail
  refine (HA.out _ T1'.out.nw).mono ?_
  rintro e w2 ⟨rfl, g2⟩
  have T2 := hid (T1'.out.kept g2)
  have b0 : w2.cell? ⟨W.heap.size, 0, none⟩ = some (.int .i64 n) := box_cell (T2.out.cells 0 rfl) 0 rfl
  have b1 : w2.cell? ⟨W.heap.size, 1, none⟩ = some (.int .i64 k) := box_cell (T2.out.cells 0 rfl) 1 rfl
  have b2 : w2.cell? ⟨W.heap.size, 2, none⟩ = some (.slice adA A.length cA) := box_cell (T2.out.cells 0 rfl) 2 rfl
  have b3 : w2.cell? ⟨W.heap.size, 3, none⟩ = some (.slice adB B.length cB) := box_cell (T2.out.cells 0 rfl) 3 rfl
  clear g2 T1'
  go_wp2_with fail
  refine (HLG.out _ T2.out.nw).mono ?_
  rintro e w3 ⟨⟨b, rfl, hsh⟩, g3⟩
  have T3 := hid (T2.out.kept g3)
  clear g3 T2 HLG b0 b1 b2 b3
  cases b with
  | true =>
    go_wp2_with fail
    refine (HA.out _ T3.out.nw).mono ?_
    rintro e w4 ⟨rfl, g4⟩
    go_wp2
    go_ret
    exact ⟨by simp, T3.out.nw.kept g4⟩
  | false =>
    have HSH := hid (hsh rfl)
    clear hsh HA
    have b2 : w3.cell? ⟨W.heap.size, 2, none⟩ = some (.slice adA A.length cA) := box_cell (T3.out.cells 0 rfl) 2 rfl
    have HD0 : Hid (∀ v (hv : v < 0) (hv2 : v < A.length), ∀ y ∈ B, A[v] ≠ y) := fun v hv => by omega
    go_wp2
    go_loopw [50] (fun i wr => ∃ z : Nat, z ≤ A.length ∧ i = .int .i64 z ∧ Hid (∀ v (hv : v < z) (hv2 : v < A.length), ∀ y ∈ B, A[v] ≠ y) ∧ Hid (Things W wr [Blk W.heap.size (.cells #[.int .i64 n, .int .i64 k, .slice adA A.length cA, .slice adB B.length cB] 26 (0, 0)), Anyt, Blk p (.cells (pairC a m h h' x y r r') 45 (0, 0)), S2 a m k (mN n) h t (hN A) h' t' (hN B), D2 x y k (mN n) r (hN A) r' (hN B), Anyt, Blk p2 (.cells (pairC a2 m2 h2 h2' x2 y2 r2 r2') 45 (0, 0)), S2 a2 m2 k (mN n) h2 t2 (hN A) h2' t2' (hN B), D2 x2 y2 k (mN n) r2 (hN A) r2' (hN B)])) (fun i _ => A.length - (intOf i).toNat)
    case atStart => exact ⟨0, by omega, rfl, HD0, T3⟩
    case round =>
      clear T3 b2 HD0
      obtain ⟨z, hz, rfl, HD, T⟩ := hrel
      by_cases hlt : z < A.length
      · obtain ⟨bb, off, rfl, hbb, hc1⟩ := (HNA.out _ T.out.nw).1 z hlt
        have b3 : wr.cell? ⟨W.heap.size, 3, none⟩ = some (.slice adB B.length cB) := box_cell (T.out.cells 0 rfl) 3 rfl
        have HD1 : Hid ((∀ y ∈ B, A[z] ≠ y) → ∀ v (hv : v < z + 1) (hv2 : v < A.length), ∀ y ∈ B, A[v] ≠ y) := fun h v hv hv2 => by
          by_cases e : v = z
          · subst e; exact h
          · exact HD.out v (by omega) hv2
        have HE0 : Hid (∀ v (hv : v < 0) (hv2 : v < B.length), A[z] ≠ B[v]) := fun v hv => by omega
        clear HD HSH HO HT2
        generalize A[z] = xa at *
        go_wp2
        go_loopw [57] (fun i wr => ∃ u : Nat, u ≤ B.length ∧ i = .int .i64 u ∧ Hid (∀ v (hv : v < u) (hv2 : v < B.length), xa ≠ B[v]) ∧ Hid (Things W wr [Blk W.heap.size (.cells #[.int .i64 n, .int .i64 k, .slice (some ⟨bb, off, none⟩) A.length cA, .slice adB B.length cB] 26 (0, 0)), Anyt, Blk p (.cells (pairC a m h h' x y r r') 45 (0, 0)), S2 a m k (mN n) h t (hN A) h' t' (hN B), D2 x y k (mN n) r (hN A) r' (hN B), Anyt, Blk p2 (.cells (pairC a2 m2 h2 h2' x2 y2 r2 r2') 45 (0, 0)), S2 a2 m2 k (mN n) h2 t2 (hN A) h2' t2' (hN B), D2 x2 y2 k (mN n) r2 (hN A) r2' (hN B)])) (fun i _ => B.length - (intOf i).toNat)
        case atStart => exact ⟨0, by omega, rfl, HE0, T⟩
        case round =>
          clear T HE0 b3 hc1
          obtain ⟨u, hu, rfl, HE, T⟩ := hrel
          by_cases hlu : u < B.length
          · obtain ⟨b2, off2, rfl, hbb2, hc2⟩ := (HNA.out _ T.out.nw).2 u hlu
            have HE1 : Hid (xa ≠ B[u] → ∀ v (hv : v < u + 1) (hv2 : v < B.length), xa ≠ B[v]) := fun h v hv hv2 => by
              by_cases e : v = u
              · subst e; exact h
              · exact HE.out v (by omega) hv2
            clear HE HD1
            generalize B[u] = yb at *
            by_cases he : xa = yb
            · subst he
              clear HE1
              go_wp2
              go_ret
              exact ⟨by simp, T.out.nw⟩
            · have heq : (xa == yb) = false := by simp [he]
              have HE2 := hid (HE1.out he)
              clear HE1 he
              go_wp2
              go_roundw
              case rel => exact ⟨u + 1, by omega, by go_num, HE2, T⟩
              case measure => simp [intOf]; omega
          · obtain rfl : u = B.length := by omega
            have HD2 := hid (HD1.out fun y hy => by
              obtain ⟨v, hv, rfl⟩ := List.mem_iff_getElem.1 hy
              exact HE.out v hv hv)
            clear HD1 HE
            go_wp2
            go_roundw
            case rel => exact ⟨z + 1, by omega, by go_num, HD2, T⟩
            case measure => simp [intOf]; omega
      · obtain rfl : z = A.length := by omega
        have AP : Hid (Apr n k 0 0 (mN n) (hN A) (hN B) (mN n) (hN B) A B) := Apr.new HT2.out fun x hx y hy => by
          obtain ⟨v, hv, rfl⟩ := List.mem_iff_getElem.1 hx
          exact HD.out v hv hv y hy
        have hn512 : n ≤ 512 := by have := HSH.out.P; simp only at this; omega
        have hlen : l.length ≤ 250 := HSH.out.len
        clear HD HT2 HSH hmax'
        have AP0 : Hid (Apr n k 600 0 (mN n) (hN A) (hN B) (mN n) (hN B) A B) := AP.out.less (by omega) (by omega)
        clear AP
        go_wp2
        go_loopw [68] (fun i wr => ∃ (j : Nat) (M : Ms) (H H1 : Hp) (M2 : Ms), j ≤ l.length ∧ i = .int .i64 j ∧ Hid (Apr n k 600 (600 * j) M H H1 M2 (hN B) A B) ∧ Hid (Things W wr [Blk W.heap.size (.cells #[.int .i64 n, .int .i64 k, .slice adA A.length cA, .slice adB B.length cB] 26 (0, 0)), Anyt, Blk p (.cells (pairC a m h h' x y r r') 45 (0, 0)), S2 a m k (M) h t (H) h' t' (H1), D2 x y k (mN n) r (hN A) r' (hN B), Anyt, Blk p2 (.cells (pairC a2 m2 h2 h2' x2 y2 r2 r2') 45 (0, 0)), S2 a2 m2 k (M2) h2 t2 (H) h2' t2' (hN B), D2 x2 y2 k (mN n) r2 (hN A) r2' (hN B)])) (fun i _ => l.length - (intOf i).toNat)
        case atStart => exact ⟨0, _, _, _, _, by omega, rfl, AP0, T⟩
        case round =>
          clear AP0 T
          obtain ⟨j, M, H, H1, M2, hj, rfl, AP, T⟩ := hrel
          by_cases hlt : j < l.length
          case neg =>
            obtain rfl : l.length = j := by omega
            have pa2 : wr.cell? ⟨p, 2, none⟩ = some (.pointer (some ⟨h, 0, none⟩)) := box_cell (T.out.cells 2 rfl) 2 rfl
            have TD := hid (T.out.kept (Fr.refl _ _).drew)
            have d2 : wr.drew.cell? ⟨p, 2, none⟩ = some (.pointer (some ⟨h, 0, none⟩)) := box_cell (TD.out.cells 2 rfl) 2 rfl
            have d3 : wr.drew.cell? ⟨p2, 2, none⟩ = some (.pointer (some ⟨h2, 0, none⟩)) := box_cell (TD.out.cells 6 rfl) 2 rfl
            have HB1 := hid fun (w : World) (g : Things W w [Blk W.heap.size (.cells #[.int .i64 n, .int .i64 k, .slice adA A.length cA, .slice adB B.length cB] 26 (0, 0)), Anyt, Blk p (.cells (pairC a m h h' x y r r') 45 (0, 0)), S2 a m k (M) h t (H) h' t' (H1), D2 x y k (mN n) r (hN A) r' (hN B), Anyt, Blk p2 (.cells (pairC a2 m2 h2 h2' x2 y2 r2 r2') 45 (0, 0)), S2 a2 m2 k (M2) h2 t2 (H) h2' t2' (hN B), D2 x2 y2 k (mN n) r2 (hN A) r2' (hN B)]) => t_blocks g GR.out 3 rfl AP.out.tw (by omega)
            have HB2 := hid fun (w : World) (ad : Option Addr) (g : Things W w ([Blk W.heap.size (.cells #[.int .i64 n, .int .i64 k, .slice adA A.length cA, .slice adB B.length cB] 26 (0, 0)), Anyt, Blk p (.cells (pairC a m h h' x y r r') 45 (0, 0)), S2 a m k (M) h t (H) h' t' (H1), D2 x y k (mN n) r (hN A) r' (hN B), Anyt, Blk p2 (.cells (pairC a2 m2 h2 h2' x2 y2 r2 r2') 45 (0, 0)), S2 a2 m2 k (M2) h2 t2 (H) h2' t2' (hN B), D2 x2 y2 k (mN n) r2 (hN A) r2' (hN B)] ++ [Lv ad (hBl H.L)])) => t_blocks g GR.out 7 rfl AP.out.tq (by omega)
            have hbl := hBl_len H.L
            have HSM : Hid (∀ (w : World) (za zb : Option Addr) (c1 c2 : Nat), Things W w ([Blk W.heap.size (.cells #[.int .i64 n, .int .i64 k, .slice adA A.length cA, .slice adB B.length cB] 26 (0, 0)), Anyt, Blk p (.cells (pairC a m h h' x y r r') 45 (0, 0)), S2 a m k (M) h t (H) h' t' (H1), D2 x y k (mN n) r (hN A) r' (hN B), Anyt, Blk p2 (.cells (pairC a2 m2 h2 h2' x2 y2 r2 r2') 45 (0, 0)), S2 a2 m2 k (M2) h2 t2 (H) h2' t2' (hN B), D2 x2 y2 k (mN n) r2 (hN A) r2' (hN B)] ++ [Lv za (hBl H.L)] ++ [Lv zb (hBl H.L)]) → Calls Tryz.prog 15 #[.slice za (hBl H.L).length c1, .slice zb (hBl H.L).length c2] w fun e w' => e = .returned (.bool true) ∧ Things W w' ([Blk W.heap.size (.cells #[.int .i64 n, .int .i64 k, .slice adA A.length cA, .slice adB B.length cB] 26 (0, 0)), Anyt, Blk p (.cells (pairC a m h h' x y r r') 45 (0, 0)), S2 a m k (M) h t (H) h' t' (H1), D2 x y k (mN n) r (hN A) r' (hN B), Anyt, Blk p2 (.cells (pairC a2 m2 h2 h2' x2 y2 r2 r2') 45 (0, 0)), S2 a2 m2 k (M2) h2 t2 (H) h2' t2' (hN B), D2 x2 y2 k (mN n) r2 (hN A) r2' (hN B)] ++ [Lv za (hBl H.L)] ++ [Lv zb (hBl H.L)])) := fun w za zb c1 c2 g => (same_big c1 c2 (g.nums 9 rfl) (g.nums 10 rfl) hbl).mono fun _ _ ⟨he, f⟩ => ⟨he, g.kept f⟩
            clear T AP hbl pa2
            generalize hBl H.L = LB at *
            generalize LB.length = lb at *
            go_wp2_with fail
            go_region_held3 (fun w' => w'.cell? ⟨p, 2, none⟩ = some (.pointer (some ⟨h, 0, none⟩)) ∧ w'.cell? ⟨p2, 2, none⟩ = some (.pointer (some ⟨h2, 0, none⟩))) (first | exact ⟨by assumption, by assumption⟩ | go_keep) (first | (go_at_call 15; refine (HSM.out _ _ _ _ _ Z2.out).mono ?_; rintro e z3 ⟨rfl, g3⟩; have Z3 := hid g3; have e2 := box_cell (Things.cells g3 2 rfl) 2 rfl; have e3 := box_cell (Things.cells g3 6 rfl) 2 rfl; clear g3) | (go_at_call 22; refine (HB2.out _ _ Z1.out).mono ?_; rintro e z2 ⟨ad2, cap2, rfl, g2⟩; have Z2 := hid g2; have c2 := box_cell (Things.cells g2 2 rfl) 2 rfl; have c3 := box_cell (Things.cells g2 6 rfl) 2 rfl; clear g2) | (go_at_call 22; refine (HB1.out _ TD.out).mono ?_; rintro e z1 ⟨ad1, cap1, rfl, g1⟩; have Z1 := hid g1; have b2 := box_cell (Things.cells g1 2 rfl) 2 rfl; have b3 := box_cell (Things.cells g1 6 rfl) 2 rfl; clear g1))
            clear e2 e3 c2 c3 b2 b3 d2 d3
            go_wp2
            go_ret
            exact ⟨by simp, Z3.out.nw⟩
          obtain ⟨bb, off, rfl, hbb, hc1, hc2, hc3, hc4, i1, i2, hnw, hwl⟩ := HO.out.fr T.out.nw.fr j hlt
          generalize l[j] = o at hc1 hc2 hc3 hc4 i1 i2 hnw hwl
          obtain ⟨kd, N, two, oad, ocap, oW⟩ := o
          simp only at hc1 hc2 hc3 hc4 i1 i2 hnw hwl
          clear hnw hwl HO
          by_cases hk5 : kd = 5
          · subst hk5
            have TB : Hid (Things W (wr.alloc (.cells #[.int .i64 5, .int .i64 N, .bool two, .slice oad oW.length ocap] 34)) [Blk W.heap.size (.cells #[.int .i64 n, .int .i64 k, .slice adA A.length cA, .slice adB B.length cB] 26 (0, 0)), Anyt, Blk p (.cells (pairC a m h h' x y r r') 45 (0, 0)), S2 a m k (M) h t (H) h' t' (H1), D2 x y k (mN n) r (hN A) r' (hN B), Anyt, Blk p2 (.cells (pairC a2 m2 h2 h2' x2 y2 r2 r2') 45 (0, 0)), S2 a2 m2 k (M2) h2 t2 (H) h2' t2' (hN B), D2 x2 y2 k (mN n) r2 (hN A) r2' (hN B)]) := Things.less (ts := [Blk W.heap.size (.cells #[.int .i64 n, .int .i64 k, .slice adA A.length cA, .slice adB B.length cB] 26 (0, 0)), Anyt, Blk p (.cells (pairC a m h h' x y r r') 45 (0, 0)), S2 a m k (M) h t (H) h' t' (H1), D2 x y k (mN n) r (hN A) r' (hN B), Anyt, Blk p2 (.cells (pairC a2 m2 h2 h2' x2 y2 r2 r2') 45 (0, 0)), S2 a2 m2 k (M2) h2 t2 (H) h2' t2' (hN B), D2 x2 y2 k (mN n) r2 (hN A) r2' (hN B)]) (T.out.blk _)
            have AP2 : Hid (Apr n k 600 (600 * (j + 1)) M H H1 M2 (hN B) A B) := AP.out.less (by omega) (by omega)
            clear T AP
            go_wp2
            go_roundw
            case rel => exact ⟨j + 1, M, H, H1, M2, by omega, by go_num, AP2, TB⟩
            case measure => simp [intOf]; omega
          have hkd5 : (kd == 5) = false := by simp [hk5]
          clear hk5
          cases two with
          | false =>
            as_aux_lemma =>
              have T0 : Hid (Things W wr [Blk W.heap.size (.cells #[.int .i64 n, .int .i64 k, .slice adA A.length cA, .slice adB B.length cB] 26 (0, 0)), Anyt, Blk p (.cells (pairC a m h h' x y r r') 45 (0, 0)), S2 a m k (M) h t (H) h' t' (H1), D2 x y k (mN n) r (hN A) r' (hN B), Anyt, Blk p2 (.cells (pairC a2 m2 h2 h2' x2 y2 r2 r2') 45 (0, 0)), S2 a2 m2 k (M2) h2 t2 (H) h2' t2' (hN B), D2 x2 y2 k (mN n) r2 (hN A) r2' (hN B)]) := T
              have HTW : Hid (Two k 600 M H H1) := AP.out.tw
              have HKV : Hid (∀ v ∈ H.T.map Prod.fst, I64 v ∧ ∃ q : Nat, tbF H.T v = (q : Int) ∧ q < 4096 ∧ Cq.inW k H.W q = true ∧ Pgs H.T q) := fun v hv => HTW.out.of hv
              have hkl : (H.T.map Prod.fst).length ≤ 512 := by have := HTW.out.ok.tp.few; have := AP.out.n1; rw [List.length_map]; omega
              have TB : Hid (Things W (wr.alloc (.cells #[.int .i64 kd, .int .i64 N, .bool false, .slice oad oW.length ocap] 34)) [Blk W.heap.size (.cells #[.int .i64 n, .int .i64 k, .slice adA A.length cA, .slice adB B.length cB] 26 (0, 0)), Anyt, Blk p (.cells (pairC a m h h' x y r r') 45 (0, 0)), S2 a m k (M) h t (H) h' t' (H1), D2 x y k (mN n) r (hN A) r' (hN B), Anyt, Blk p2 (.cells (pairC a2 m2 h2 h2' x2 y2 r2 r2') 45 (0, 0)), S2 a2 m2 k (M2) h2 t2 (H) h2' t2' (hN B), D2 x2 y2 k (mN n) r2 (hN A) r2' (hN B), Blk wr.heap.size (.cells #[.int .i64 kd, .int .i64 N, .bool false, .slice oad oW.length ocap] 34 (0, 0))]) := T0.out.blk _
              have TC : Hid (Things W ((wr.alloc (.cells #[.int .i64 kd, .int .i64 N, .bool false, .slice oad oW.length ocap] 34)).alloc (.map #[] 0)) [Blk W.heap.size (.cells #[.int .i64 n, .int .i64 k, .slice adA A.length cA, .slice adB B.length cB] 26 (0, 0)), Anyt, Blk p (.cells (pairC a m h h' x y r r') 45 (0, 0)), S2 a m k (M) h t (H) h' t' (H1), D2 x y k (mN n) r (hN A) r' (hN B), Anyt, Blk p2 (.cells (pairC a2 m2 h2 h2' x2 y2 r2 r2') 45 (0, 0)), S2 a2 m2 k (M2) h2 t2 (H) h2' t2' (hN B), D2 x2 y2 k (mN n) r2 (hN A) r2' (hN B), Blk wr.heap.size (.cells #[.int .i64 kd, .int .i64 N, .bool false, .slice oad oW.length ocap] 34 (0, 0)), Mp (wr.heap.size + 1) 0 []]) := by
                have := TB.out.set
                rw [World.size_alloc] at this
                exact this
              clear T T0 TB
              have pc2 : ((wr.alloc (.cells #[.int .i64 kd, .int .i64 N, .bool false, .slice oad oW.length ocap] 34)).alloc (.map #[] 0)).cell? ⟨p, 2, none⟩ = some (.pointer (some ⟨h, 0, none⟩)) := box_cell (TC.out.cells 2 rfl) 2 rfl
              have HTB := hid fun (w : World) (g : Things W w [Blk W.heap.size (.cells #[.int .i64 n, .int .i64 k, .slice adA A.length cA, .slice adB B.length cB] 26 (0, 0)), Anyt, Blk p (.cells (pairC a m h h' x y r r') 45 (0, 0)), S2 a m k (M) h t (H) h' t' (H1), D2 x y k (mN n) r (hN A) r' (hN B), Anyt, Blk p2 (.cells (pairC a2 m2 h2 h2' x2 y2 r2 r2') 45 (0, 0)), S2 a2 m2 k (M2) h2 t2 (H) h2' t2' (hN B), D2 x2 y2 k (mN n) r2 (hN A) r2' (hN B), Blk wr.heap.size (.cells #[.int .i64 kd, .int .i64 N, .bool false, .slice oad oW.length ocap] 34 (0, 0)), Mp (wr.heap.size + 1) 0 []]) => t_table g 3 rfl
              have HAL := hid fun (w : World) (g : Things W w [Blk W.heap.size (.cells #[.int .i64 n, .int .i64 k, .slice adA A.length cA, .slice adB B.length cB] 26 (0, 0)), Anyt, Blk p (.cells (pairC a m h h' x y r r') 45 (0, 0)), S2 a m k (M) h t (H) h' t' (H1), D2 x y k (mN n) r (hN A) r' (hN B), Anyt, Blk p2 (.cells (pairC a2 m2 h2 h2' x2 y2 r2 r2') 45 (0, 0)), S2 a2 m2 k (M2) h2 t2 (H) h2' t2' (hN B), D2 x2 y2 k (mN n) r2 (hN A) r2' (hN B), Blk wr.heap.size (.cells #[.int .i64 kd, .int .i64 N, .bool false, .slice oad oW.length ocap] 34 (0, 0)), Mp (wr.heap.size + 1) 0 []]) => t_all g 3 rfl HTW.out
              go_wp2_with fail
              refine (HTB.out _ TC.out).mono ?_
              rintro e v1 ⟨rfl, g1⟩
              have T1 := hid g1
              clear g1 TC HTB
              generalize wr.heap.size + 1 = Bm at *
              generalize wr.heap.size = Bo at *
              go_wp2_with fail
              refine (HAL.out _ T1.out).mono ?_
              rintro e v2 ⟨kad, kcap, rfl, g2⟩
              have T2 : Hid (Things W v2 [Blk W.heap.size (.cells #[.int .i64 n, .int .i64 k, .slice adA A.length cA, .slice adB B.length cB] 26 (0, 0)), Anyt, Blk p (.cells (pairC a m h h' x y r r') 45 (0, 0)), S2 a m k (M) h t (H) h' t' (H1), D2 x y k (mN n) r (hN A) r' (hN B), Anyt, Blk p2 (.cells (pairC a2 m2 h2 h2' x2 y2 r2 r2') 45 (0, 0)), S2 a2 m2 k (M2) h2 t2 (H) h2' t2' (hN B), D2 x2 y2 k (mN n) r2 (hN A) r2' (hN B), Blk Bo (.cells #[.int .i64 kd, .int .i64 N, .bool false, .slice oad oW.length ocap] 34 (0, 0)), Mp Bm 0 [], Lv kad (H.T.map Prod.fst)]) := g2
              clear g2 T1 HAL pc2
              generalize hKL : H.T.map Prod.fst = KL at *
              have HKLE := hid hKL
              clear hKL
              go_wp2
              go_loopw [87] (fun i wr => ∃ (z : Nat) (ml : List Int), z ≤ KL.length ∧ i = .int .i64 z ∧ Hid ((∀ u (hu : u < z) (hu2 : u < KL.length), tbF H.T KL[u] ∈ ml) ∧ ∀ e ∈ ([] : List Int), e ∈ ml) ∧ Hid (Things W wr [Blk W.heap.size (.cells #[.int .i64 n, .int .i64 k, .slice adA A.length cA, .slice adB B.length cB] 26 (0, 0)), Anyt, Blk p (.cells (pairC a m h h' x y r r') 45 (0, 0)), S2 a m k (M) h t (H) h' t' (H1), D2 x y k (mN n) r (hN A) r' (hN B), Anyt, Blk p2 (.cells (pairC a2 m2 h2 h2' x2 y2 r2 r2') 45 (0, 0)), S2 a2 m2 k (M2) h2 t2 (H) h2' t2' (hN B), D2 x2 y2 k (mN n) r2 (hN A) r2' (hN B), Blk Bo (.cells #[.int .i64 kd, .int .i64 N, .bool false, .slice oad oW.length ocap] 34 (0, 0)), Mp Bm (0 + z) ml, Lv kad KL])) (fun i _ => KL.length - (intOf i).toNat)
              case atStart => exact ⟨0, ([] : List Int), by omega, rfl, ⟨fun u hu => by omega, fun e => id⟩, T2⟩
              case round =>
                clear T2
                obtain ⟨z, ml, hz, rfl, HM, T⟩ := hrel
                by_cases hlt : z < KL.length
                · as_aux_lemma =>
                    obtain ⟨kb, koff, rfl, hkb, hkc⟩ := T.out.nums 11 rfl z hlt
                    obtain ⟨hv, q, hq1, hq2, _, _⟩ := HKV.out KL[z] (List.getElem_mem hlt)
                    have HM2 : Hid ((∀ u (hu : u < z + 1) (hu2 : u < KL.length), tbF H.T KL[u] ∈ (q : Int) :: ml) ∧ ∀ e ∈ ([] : List Int), e ∈ (q : Int) :: ml) := by
                      refine ⟨fun u hu hu2 => ?_, fun e he => List.mem_cons_of_mem _ (HM.out.2 e he)⟩
                      by_cases e : u = z
                      · subst e; rw [hq1]; exact List.mem_cons_self ..
                      · exact List.mem_cons_of_mem _ (HM.out.1 u (by omega) hu2)
                    have HTB := hid fun (w : World) (g : Things W w [Blk W.heap.size (.cells #[.int .i64 n, .int .i64 k, .slice adA A.length cA, .slice adB B.length cB] 26 (0, 0)), Anyt, Blk p (.cells (pairC a m h h' x y r r') 45 (0, 0)), S2 a m k (M) h t (H) h' t' (H1), D2 x y k (mN n) r (hN A) r' (hN B), Anyt, Blk p2 (.cells (pairC a2 m2 h2 h2' x2 y2 r2 r2') 45 (0, 0)), S2 a2 m2 k (M2) h2 t2 (H) h2' t2' (hN B), D2 x2 y2 k (mN n) r2 (hN A) r2' (hN B), Blk Bo (.cells #[.int .i64 kd, .int .i64 N, .bool false, .slice oad oW.length ocap] 34 (0, 0)), Mp Bm (0 + z) ml, Lv (some ⟨kb, koff, none⟩) KL]) => t_table g 3 rfl
                    have HFI := hid fun (w : World) (g : Things W w [Blk W.heap.size (.cells #[.int .i64 n, .int .i64 k, .slice adA A.length cA, .slice adB B.length cB] 26 (0, 0)), Anyt, Blk p (.cells (pairC a m h h' x y r r') 45 (0, 0)), S2 a m k (M) h t (H) h' t' (H1), D2 x y k (mN n) r (hN A) r' (hN B), Anyt, Blk p2 (.cells (pairC a2 m2 h2 h2' x2 y2 r2 r2') 45 (0, 0)), S2 a2 m2 k (M2) h2 t2 (H) h2' t2' (hN B), D2 x2 y2 k (mN n) r2 (hN A) r2' (hN B), Blk Bo (.cells #[.int .i64 kd, .int .i64 N, .bool false, .slice oad oW.length ocap] 34 (0, 0)), Mp Bm (0 + z) ml, Lv (some ⟨kb, koff, none⟩) KL]) => t_find g 3 rfl HTW.out hv
                    rw [hq1] at HFI
                    have HUP : Hid (∀ w1, Things W w1 [Blk W.heap.size (.cells #[.int .i64 n, .int .i64 k, .slice adA A.length cA, .slice adB B.length cB] 26 (0, 0)), Anyt, Blk p (.cells (pairC a m h h' x y r r') 45 (0, 0)), S2 a m k (M) h t (H) h' t' (H1), D2 x y k (mN n) r (hN A) r' (hN B), Anyt, Blk p2 (.cells (pairC a2 m2 h2 h2' x2 y2 r2 r2') 45 (0, 0)), S2 a2 m2 k (M2) h2 t2 (H) h2' t2' (hN B), D2 x2 y2 k (mN n) r2 (hN A) r2' (hN B), Blk Bo (.cells #[.int .i64 kd, .int .i64 N, .bool false, .slice oad oW.length ocap] 34 (0, 0)), Mp Bm (0 + z) ml, Lv (some ⟨kb, koff, none⟩) KL] → ∃ w', (Instr.mapUpdate 79 (.map (some Bm)) (.int .i64 (q : Int)) (.bool true)).run Tryz.prog w1 = .ok () w' ∧ Things W w' [Blk W.heap.size (.cells #[.int .i64 n, .int .i64 k, .slice adA A.length cA, .slice adB B.length cB] 26 (0, 0)), Anyt, Blk p (.cells (pairC a m h h' x y r r') 45 (0, 0)), S2 a m k (M) h t (H) h' t' (H1), D2 x y k (mN n) r (hN A) r' (hN B), Anyt, Blk p2 (.cells (pairC a2 m2 h2 h2' x2 y2 r2 r2') 45 (0, 0)), S2 a2 m2 k (M2) h2 t2 (H) h2' t2' (hN B), D2 x2 y2 k (mN n) r2 (hN A) r2' (hN B), Blk Bo (.cells #[.int .i64 kd, .int .i64 N, .bool false, .slice oad oW.length ocap] 34 (0, 0)), Mp Bm (0 + (z + 1)) ((q : Int) :: ml), Lv (some ⟨kb, koff, none⟩) KL]) := fun w1 g => Things.store g 10 rfl (by unfold maxLen; omega) (wf_small (by omega) (by omega))
                    have pc2 : wr.cell? ⟨p, 2, none⟩ = some (.pointer (some ⟨h, 0, none⟩)) := box_cell (T.out.cells 2 rfl) 2 rfl
                    clear HM hv hq1
                    generalize KL[z] = vz at *
                    generalize (q : Int) = qi at *
                    go_wp2_with fail
                    refine (HTB.out _ T.out).mono ?_
                    rintro e u1 ⟨rfl, g1⟩
                    have U1 := hid g1
                    clear g1 T HTB
                    go_wp2_with fail
                    refine (HFI.out _ U1.out).mono ?_
                    rintro e u2 ⟨rfl, g2⟩
                    obtain ⟨u3, hru, g3⟩ := HUP.out _ g2
                    have U3 := hid g3
                    clear g2 g3 U1 HFI HUP
                    go_wp2
                    go_roundw
                    case rel => exact ⟨z + 1, _, by omega, by go_num, HM2, U3⟩
                    case measure => simp [intOf]; omega
                · obtain rfl : KL.length = z := by omega
                  as_aux_lemma =>
                    have HMM : Hid (∀ v ∈ KL, tbF H.T v ∈ ml) := fun v hv => by
                      obtain ⟨u, hu, rfl⟩ := List.mem_iff_getElem.1 hv
                      exact HM.out.1 u hu hu
                    have T3 : Hid (Things W wr [Blk W.heap.size (.cells #[.int .i64 n, .int .i64 k, .slice adA A.length cA, .slice adB B.length cB] 26 (0, 0)), Anyt, Blk p (.cells (pairC a m h h' x y r r') 45 (0, 0)), S2 a m k (M) h t (H) h' t' (H1), D2 x y k (mN n) r (hN A) r' (hN B), Anyt, Blk p2 (.cells (pairC a2 m2 h2 h2' x2 y2 r2 r2') 45 (0, 0)), S2 a2 m2 k (M2) h2 t2 (H) h2' t2' (hN B), D2 x2 y2 k (mN n) r2 (hN A) r2' (hN B), Blk Bo (.cells #[.int .i64 kd, .int .i64 N, .bool false, .slice oad oW.length ocap] 34 (0, 0)), Mp Bm (0 + KL.length) ml]) := Things.less (ts := [Blk W.heap.size (.cells #[.int .i64 n, .int .i64 k, .slice adA A.length cA, .slice adB B.length cB] 26 (0, 0)), Anyt, Blk p (.cells (pairC a m h h' x y r r') 45 (0, 0)), S2 a m k (M) h t (H) h' t' (H1), D2 x y k (mN n) r (hN A) r' (hN B), Anyt, Blk p2 (.cells (pairC a2 m2 h2 h2' x2 y2 r2 r2') 45 (0, 0)), S2 a2 m2 k (M2) h2 t2 (H) h2' t2' (hN B), D2 x2 y2 k (mN n) r2 (hN A) r2' (hN B), Blk Bo (.cells #[.int .i64 kd, .int .i64 N, .bool false, .slice oad oW.length ocap] 34 (0, 0)), Mp Bm (0 + KL.length) ml]) T.out
                    clear T HM
                    obtain ⟨nn, hnn⟩ : ∃ nn, nn = 0 + KL.length := ⟨_, rfl⟩
                    rw [← hnn] at T3
                    have hnn2 : nn ≤ 512 := by omega
                    clear hnn
                    have pa0 : wr.cell? ⟨p, 0, none⟩ = some (.pointer (some ⟨a, 0, none⟩)) := box_cell (T3.out.cells 2 rfl) 0 rfl
                    have HFG := hid fun (w : World) (g : Things W w [Blk W.heap.size (.cells #[.int .i64 n, .int .i64 k, .slice adA A.length cA, .slice adB B.length cB] 26 (0, 0)), Anyt, Blk p (.cells (pairC a m h h' x y r r') 45 (0, 0)), S2 a m k (M) h t (H) h' t' (H1), D2 x y k (mN n) r (hN A) r' (hN B), Anyt, Blk p2 (.cells (pairC a2 m2 h2 h2' x2 y2 r2 r2') 45 (0, 0)), S2 a2 m2 k (M2) h2 t2 (H) h2' t2' (hN B), D2 x2 y2 k (mN n) r2 (hN A) r2' (hN B), Blk Bo (.cells #[.int .i64 kd, .int .i64 N, .bool false, .slice oad oW.length ocap] 34 (0, 0)), Mp Bm nn ml]) => t_forget g 3 rfl
                    go_wp2_with fail
                    refine (HFG.out _ T3.out).mono ?_
                    rintro e v4 ⟨rfl, g4⟩
                    have T4 : Hid (Things W v4 [Blk W.heap.size (.cells #[.int .i64 n, .int .i64 k, .slice adA A.length cA, .slice adB B.length cB] 26 (0, 0)), Anyt, Blk p (.cells (pairC a m h h' x y r r') 45 (0, 0)), S2 a m k (⟨M.has, M.bs, []⟩) h t (H) h' t' (H1), D2 x y k (mN n) r (hN A) r' (hN B), Anyt, Blk p2 (.cells (pairC a2 m2 h2 h2' x2 y2 r2 r2') 45 (0, 0)), S2 a2 m2 k (M2) h2 t2 (H) h2' t2' (hN B), D2 x2 y2 k (mN n) r2 (hN A) r2' (hN B), Blk Bo (.cells #[.int .i64 kd, .int .i64 N, .bool false, .slice oad oW.length ocap] 34 (0, 0)), Mp Bm nn ml]) := g4
                    have AF := hid AP.out.forget
                    have HTF : Hid (Two k 0 ⟨M.has, M.bs, []⟩ H H1) := AF.out.tw
                    clear g4 T3 HFG pa0 HTW
                    have pc2 : v4.cell? ⟨p, 2, none⟩ = some (.pointer (some ⟨h, 0, none⟩)) := box_cell (T4.out.cells 2 rfl) 2 rfl
                    have ob0 : v4.cell? ⟨Bo, 0, none⟩ = some (.int .i64 kd) := box_cell (T4.out.cells 9 rfl) 0 rfl
                    have ob1 : v4.cell? ⟨Bo, 1, none⟩ = some (.int .i64 N) := box_cell (T4.out.cells 9 rfl) 1 rfl
                    have HBL := hid fun (w : World) (g : Things W w [Blk W.heap.size (.cells #[.int .i64 n, .int .i64 k, .slice adA A.length cA, .slice adB B.length cB] 26 (0, 0)), Anyt, Blk p (.cells (pairC a m h h' x y r r') 45 (0, 0)), S2 a m k (⟨M.has, M.bs, []⟩) h t (H) h' t' (H1), D2 x y k (mN n) r (hN A) r' (hN B), Anyt, Blk p2 (.cells (pairC a2 m2 h2 h2' x2 y2 r2 r2') 45 (0, 0)), S2 a2 m2 k (M2) h2 t2 (H) h2' t2' (hN B), D2 x2 y2 k (mN n) r2 (hN A) r2' (hN B), Blk Bo (.cells #[.int .i64 kd, .int .i64 N, .bool false, .slice oad oW.length ocap] 34 (0, 0)), Mp Bm nn ml]) => t_blocks g GR.out 3 rfl HTF.out (by omega)
                    go_wp2_with fail
                    refine (HBL.out _ T4.out).mono ?_
                    rintro e v5 ⟨lad, lcap, rfl, g5⟩
                    have T5 : Hid (Things W v5 [Blk W.heap.size (.cells #[.int .i64 n, .int .i64 k, .slice adA A.length cA, .slice adB B.length cB] 26 (0, 0)), Anyt, Blk p (.cells (pairC a m h h' x y r r') 45 (0, 0)), S2 a m k (⟨M.has, M.bs, []⟩) h t (H) h' t' (H1), D2 x y k (mN n) r (hN A) r' (hN B), Anyt, Blk p2 (.cells (pairC a2 m2 h2 h2' x2 y2 r2 r2') 45 (0, 0)), S2 a2 m2 k (M2) h2 t2 (H) h2' t2' (hN B), D2 x2 y2 k (mN n) r2 (hN A) r2' (hN B), Blk Bo (.cells #[.int .i64 kd, .int .i64 N, .bool false, .slice oad oW.length ocap] 34 (0, 0)), Mp Bm nn ml, Lv lad (hBl H.L)]) := g5
                    have HMB := hid fun (z : Int) (hz : z ∈ hBl H.L) => (mem_hBl HTF.out.ok.nd HTF.out.ok.at_).1 hz
                    have HTH := hid fun (c s j : Nat) (hb : HadB H.L c s j) => hb.there HTF.out.ok
                    have hbl := hBl_len H.L
                    clear g5 T4 HBL pc2 ob0 ob1
                    have ob0 : v5.cell? ⟨Bo, 0, none⟩ = some (.int .i64 kd) := box_cell (T5.out.cells 9 rfl) 0 rfl
                    have ob1 : v5.cell? ⟨Bo, 1, none⟩ = some (.int .i64 N) := box_cell (T5.out.cells 9 rfl) 1 rfl
                    generalize hbl0 : (hBl H.L).length = bl at *
                    have HBE := hid hbl0
                    clear hbl0
                    go_upto_region 30 with fail
                    go_cut [123] (fun bv wx => ∃ b : Bool, bv = .bool b ∧ wx = v5 ∧ Hid (b = true → kd = 3 ∧ 0 < bl))
                    case first =>
                      by_cases hk3 : kd = 3
                      · have hkd3 : (kd == 3) = true := by simp [hk3]
                        have HR : Hid (decide (0 < bl) = true → kd = 3 ∧ 0 < bl) := fun e => ⟨hk3, of_decide_eq_true e⟩
                        clear hk3 HBE T5 HMB HTH hbl
                        go_wp2_with fail
                        go_meet
                        exact ⟨_, rfl, rfl, HR⟩
                      · have hkd3 : (kd == 3) = false := by simp [hk3]
                        clear hk3 HBE T5 HMB HTH hbl
                        go_wp2_with fail
                        go_meet
                        exact ⟨false, rfl, rfl, fun e => by cases e⟩
                    case rest =>
                    obtain ⟨b, rfl, hwx, HR⟩ := hcut
                    subst hwx
                    go_upto_if 123 with fail
                    go_cut [17] (fun nv wx => ∃ N' : Int, nv = .int .i64 N' ∧ Hid (I64 N') ∧ Hid (Things W wx [Blk W.heap.size (.cells #[.int .i64 n, .int .i64 k, .slice adA A.length cA, .slice adB B.length cB] 26 (0, 0)), Anyt, Blk p (.cells (pairC a m h h' x y r r') 45 (0, 0)), S2 a m k (⟨M.has, M.bs, []⟩) h t (H) h' t' (H1), D2 x y k (mN n) r (hN A) r' (hN B), Anyt, Blk p2 (.cells (pairC a2 m2 h2 h2' x2 y2 r2 r2') 45 (0, 0)), S2 a2 m2 k (M2) h2 t2 (H) h2' t2' (hN B), D2 x2 y2 k (mN n) r2 (hN A) r2' (hN B), Blk Bo (.cells #[.int .i64 kd, .int .i64 N, .bool false, .slice oad oW.length ocap] 34 (0, 0)), Mp Bm nn ml]))
                    case first =>
                      have T6 : Hid (Things W _ [Blk W.heap.size (.cells #[.int .i64 n, .int .i64 k, .slice adA A.length cA, .slice adB B.length cB] 26 (0, 0)), Anyt, Blk p (.cells (pairC a m h h' x y r r') 45 (0, 0)), S2 a m k (⟨M.has, M.bs, []⟩) h t (H) h' t' (H1), D2 x y k (mN n) r (hN A) r' (hN B), Anyt, Blk p2 (.cells (pairC a2 m2 h2 h2' x2 y2 r2 r2') 45 (0, 0)), S2 a2 m2 k (M2) h2 t2 (H) h2' t2' (hN B), D2 x2 y2 k (mN n) r2 (hN A) r2' (hN B), Blk Bo (.cells #[.int .i64 kd, .int .i64 N, .bool false, .slice oad oW.length ocap] 34 (0, 0)), Mp Bm nn ml]) := Things.less (ts := [Blk W.heap.size (.cells #[.int .i64 n, .int .i64 k, .slice adA A.length cA, .slice adB B.length cB] 26 (0, 0)), Anyt, Blk p (.cells (pairC a m h h' x y r r') 45 (0, 0)), S2 a m k (⟨M.has, M.bs, []⟩) h t (H) h' t' (H1), D2 x y k (mN n) r (hN A) r' (hN B), Anyt, Blk p2 (.cells (pairC a2 m2 h2 h2' x2 y2 r2 r2') 45 (0, 0)), S2 a2 m2 k (M2) h2 t2 (H) h2' t2' (hN B), D2 x2 y2 k (mN n) r2 (hN A) r2' (hN B), Blk Bo (.cells #[.int .i64 kd, .int .i64 N, .bool false, .slice oad oW.length ocap] 34 (0, 0)), Mp Bm nn ml]) T5.out
                      cases b with
                      | false =>
                        clear T5 HMB HTH hbl HR HBE
                        go_wp2_with fail
                        go_meet
                        exact ⟨_, rfl, i2, T6⟩
                      | true =>
                        obtain ⟨hk3, h0⟩ := HR.out rfl
                        obtain ⟨ix, hix, hixl⟩ := modu N bl _ rfl h0 hbl
                        have hix2 : ix < (hBl H.L).length := by rw [HBE.out]; exact hixl
                        obtain ⟨lb0, loff, rfl, hlb, hlc⟩ := (T5.out.nums 11 rfl) ix hix2
                        obtain ⟨cc, ss, jj, hhad, hat⟩ := HMB.out (hBl H.L)[ix] (List.getElem_mem hix2)
                        rw [hat] at hlc
                        obtain ⟨hpt, hcc, hss⟩ := HTH.out _ _ _ hhad
                        have hi64 : Hid (I64 (adI cc ss jj)) := by have := hpt.inside; have := unitI_range cc (by omega) (by omega); exact ⟨by omega, by omega⟩
                        have h0i : (0 : Int) < (bl : Int) := by omega
                        clear T5 HMB HTH hat hpt hhad HR HBE hcc hss hk3 hix2
                        generalize adI cc ss jj = za at *
                        go_wp2_with fail
                        go_meet
                        exact ⟨_, rfl, hi64, T6⟩
                    case rest =>
                      clear T5 HMB HTH hbl ob0 ob1 HR HBE
                      obtain ⟨N', rfl, hN', T6⟩ := hcut
                      as_aux_lemma =>
                        obtain ⟨cc, ss, jj, EE, hfr⟩ := findR_some N'
                        have HCA := hid fun (w : World) (g : Things W w [Blk W.heap.size (.cells #[.int .i64 n, .int .i64 k, .slice adA A.length cA, .slice adB B.length cB] 26 (0, 0)), Anyt, Blk p (.cells (pairC a m h h' x y r r') 45 (0, 0)), S2 a m k (⟨M.has, M.bs, []⟩) h t (H) h' t' (H1), D2 x y k (mN n) r (hN A) r' (hN B), Anyt, Blk p2 (.cells (pairC a2 m2 h2 h2' x2 y2 r2 r2') 45 (0, 0)), S2 a2 m2 k (M2) h2 t2 (H) h2' t2' (hN B), D2 x2 y2 k (mN n) r2 (hN A) r2' (hN B), Blk Bo (.cells #[.int .i64 kd, .int .i64 N, .bool false, .slice oad oW.length ocap] 34 (0, 0)), Mp Bm nn ml]) => t_call g GR.out 3 rfl HTF.out (by omega) (kd := kd) hN'.out hfr
                        have A1 := AF.out.one kd N' cc ss jj EE
                        have AQ := hid A1.2
                        have HCQ := hid fun (w : World) (ts : List (World → (Nat → Prop) → Prop)) (g : Things W w ts) (hj : ts[7]? = some (S2 a2 m2 k (M2) h2 t2 (H) h2' t2' (hN B))) => t_call g GR.out 7 hj AP.out.tq (by omega) (kd := kd) hN'.out hfr
                        rw [← A1.1] at HCQ
                        clear A1
                        generalize (hCa k M2 H kd N' cc ss jj EE).1 = Mq at *
                        have HTO : Hid (∀ sp ∈ (hCa k ⟨M.has, M.bs, []⟩ H kd N' cc ss jj EE).1.ss, InP H.T sp) := fun sp hsp => (hCa_touch (fun _ => id) HTF.out.ok HTF.out.ms kd N' cc ss jj EE sp hsp).resolve_left (by simp)
                        have HTP : Hid (TpOk (fun q => Cq.inW k H.W q = true) M.has H.T ∧ M.has.length ≤ 512) := ⟨HTF.out.ok.tp, by have := AP.out.n1; omega⟩
                        clear hN' hfr AF HTF AP
                        generalize hCa k ⟨M.has, M.bs, []⟩ H kd N' cc ss jj EE = rr at *
                        obtain ⟨Mc, Hn, av, ev⟩ := rr
                        simp only at *
                        have TD := hid (T6.out.kept (Fr.refl _ _).drew)
                        have pd2 : wc.drew.cell? ⟨p, 2, none⟩ = some (.pointer (some ⟨h, 0, none⟩)) := box_cell (TD.out.cells 2 rfl) 2 rfl
                        have od0 : wc.drew.cell? ⟨Bo, 0, none⟩ = some (.int .i64 kd) := box_cell (TD.out.cells 9 rfl) 0 rfl
                        clear T6
                        go_wp2_with fail
                        go_region_held3 (fun w' => w'.cell? ⟨p, 2, none⟩ = some (.pointer (some ⟨h, 0, none⟩)) ∧ w'.cell? ⟨Bo, 0, none⟩ = some (.int .i64 kd)) (first | exact ⟨by assumption, by assumption⟩ | go_keep) (first | (go_at_call 37; refine (HCA.out _ TD.out).mono ?_; rintro e v7 ⟨rfl, g7⟩; have T7 : Hid (Things W v7 [Blk W.heap.size (.cells #[.int .i64 n, .int .i64 k, .slice adA A.length cA, .slice adB B.length cB] 26 (0, 0)), Anyt, Blk p (.cells (pairC a m h h' x y r r') 45 (0, 0)), S2 a m k (Mc) h t (Hn) h' t' (H1), D2 x y k (mN n) r (hN A) r' (hN B), Anyt, Blk p2 (.cells (pairC a2 m2 h2 h2' x2 y2 r2 r2') 45 (0, 0)), S2 a2 m2 k (M2) h2 t2 (H) h2' t2' (hN B), D2 x2 y2 k (mN n) r2 (hN A) r2' (hN B), Blk Bo (.cells #[.int .i64 kd, .int .i64 N, .bool false, .slice oad oW.length ocap] 34 (0, 0)), Mp Bm nn ml]) := g7; clear g7; have pe2 : v7.cell? ⟨p, 2, none⟩ = some (.pointer (some ⟨h, 0, none⟩)) := box_cell (T7.out.cells 2 rfl) 2 rfl; have oe0 : v7.cell? ⟨Bo, 0, none⟩ = some (.int .i64 kd) := box_cell (T7.out.cells 9 rfl) 0 rfl))
                        clear TD HCA oe0
                        have HTN : Hid (Two k 600 Mc Hn H1) := AQ.out.tw.less (by omega)
                        have HKN : Hid (∀ v ∈ Hn.T.map Prod.fst, I64 v ∧ ∃ q : Nat, tbF Hn.T v = (q : Int) ∧ q < 4096 ∧ Cq.inW k Hn.W q = true ∧ Pgs Hn.T q) := fun v hv => HTN.out.of hv
                        have hkn : (Hn.T.map Prod.fst).length ≤ 512 := by have := HTN.out.ok.tp.few; have := AQ.out.n1; rw [List.length_map]; omega
                        have HTB := hid fun (w : World) (g : Things W w [Blk W.heap.size (.cells #[.int .i64 n, .int .i64 k, .slice adA A.length cA, .slice adB B.length cB] 26 (0, 0)), Anyt, Blk p (.cells (pairC a m h h' x y r r') 45 (0, 0)), S2 a m k (Mc) h t (Hn) h' t' (H1), D2 x y k (mN n) r (hN A) r' (hN B), Anyt, Blk p2 (.cells (pairC a2 m2 h2 h2' x2 y2 r2 r2') 45 (0, 0)), S2 a2 m2 k (M2) h2 t2 (H) h2' t2' (hN B), D2 x2 y2 k (mN n) r2 (hN A) r2' (hN B), Blk Bo (.cells #[.int .i64 kd, .int .i64 N, .bool false, .slice oad oW.length ocap] 34 (0, 0)), Mp Bm nn ml]) => t_table g 3 rfl
                        have HAL := hid fun (w : World) (g : Things W w [Blk W.heap.size (.cells #[.int .i64 n, .int .i64 k, .slice adA A.length cA, .slice adB B.length cB] 26 (0, 0)), Anyt, Blk p (.cells (pairC a m h h' x y r r') 45 (0, 0)), S2 a m k (Mc) h t (Hn) h' t' (H1), D2 x y k (mN n) r (hN A) r' (hN B), Anyt, Blk p2 (.cells (pairC a2 m2 h2 h2' x2 y2 r2 r2') 45 (0, 0)), S2 a2 m2 k (M2) h2 t2 (H) h2' t2' (hN B), D2 x2 y2 k (mN n) r2 (hN A) r2' (hN B), Blk Bo (.cells #[.int .i64 kd, .int .i64 N, .bool false, .slice oad oW.length ocap] 34 (0, 0)), Mp Bm nn ml]) => t_all g 3 rfl HTN.out
                        go_wp2_with fail
                        refine (HTB.out _ T7.out).mono ?_
                        rintro e v8 ⟨rfl, g8⟩
                        have T8 := hid g8
                        clear g8 T7 HTB pe2
                        go_wp2_with fail
                        refine (HAL.out _ T8.out).mono ?_
                        rintro e v9 ⟨kad2, kcap2, rfl, g9⟩
                        have T9 : Hid (Things W v9 [Blk W.heap.size (.cells #[.int .i64 n, .int .i64 k, .slice adA A.length cA, .slice adB B.length cB] 26 (0, 0)), Anyt, Blk p (.cells (pairC a m h h' x y r r') 45 (0, 0)), S2 a m k (Mc) h t (Hn) h' t' (H1), D2 x y k (mN n) r (hN A) r' (hN B), Anyt, Blk p2 (.cells (pairC a2 m2 h2 h2' x2 y2 r2 r2') 45 (0, 0)), S2 a2 m2 k (M2) h2 t2 (H) h2' t2' (hN B), D2 x2 y2 k (mN n) r2 (hN A) r2' (hN B), Blk Bo (.cells #[.int .i64 kd, .int .i64 N, .bool false, .slice oad oW.length ocap] 34 (0, 0)), Mp Bm nn ml, Lv kad2 (Hn.T.map Prod.fst)]) := g9
                        clear g9 T8 HAL
                        generalize Hn.T.map Prod.fst = KN at *
                        go_wp2
                        go_loopw [157] (fun i wr => ∃ (z : Nat) (ml2 : List Int), z ≤ KN.length ∧ i = .int .i64 z ∧ Hid ((∀ u (hu : u < z) (hu2 : u < KN.length), tbF Hn.T KN[u] ∈ ml2) ∧ ∀ e ∈ ml, e ∈ ml2) ∧ Hid (Things W wr [Blk W.heap.size (.cells #[.int .i64 n, .int .i64 k, .slice adA A.length cA, .slice adB B.length cB] 26 (0, 0)), Anyt, Blk p (.cells (pairC a m h h' x y r r') 45 (0, 0)), S2 a m k (Mc) h t (Hn) h' t' (H1), D2 x y k (mN n) r (hN A) r' (hN B), Anyt, Blk p2 (.cells (pairC a2 m2 h2 h2' x2 y2 r2 r2') 45 (0, 0)), S2 a2 m2 k (M2) h2 t2 (H) h2' t2' (hN B), D2 x2 y2 k (mN n) r2 (hN A) r2' (hN B), Blk Bo (.cells #[.int .i64 kd, .int .i64 N, .bool false, .slice oad oW.length ocap] 34 (0, 0)), Mp Bm (nn + z) ml2, Lv kad2 KN])) (fun i _ => KN.length - (intOf i).toNat)
                        case atStart => exact ⟨0, ml, by omega, rfl, ⟨fun u hu => by omega, fun e => id⟩, T9⟩
                        case round =>
                          clear T9
                          obtain ⟨z, ml2, hz, rfl, HM, T⟩ := hrel
                          by_cases hlt : z < KN.length
                          · as_aux_lemma =>
                              obtain ⟨kb, koff, rfl, hkb, hkc⟩ := T.out.nums 11 rfl z hlt
                              obtain ⟨hv, q, hq1, hq2, _, _⟩ := HKN.out KN[z] (List.getElem_mem hlt)
                              have HM2 : Hid ((∀ u (hu : u < z + 1) (hu2 : u < KN.length), tbF Hn.T KN[u] ∈ (q : Int) :: ml2) ∧ ∀ e ∈ ml, e ∈ (q : Int) :: ml2) := by
                                refine ⟨fun u hu hu2 => ?_, fun e he => List.mem_cons_of_mem _ (HM.out.2 e he)⟩
                                by_cases e : u = z
                                · subst e; rw [hq1]; exact List.mem_cons_self ..
                                · exact List.mem_cons_of_mem _ (HM.out.1 u (by omega) hu2)
                              have HTB := hid fun (w : World) (g : Things W w [Blk W.heap.size (.cells #[.int .i64 n, .int .i64 k, .slice adA A.length cA, .slice adB B.length cB] 26 (0, 0)), Anyt, Blk p (.cells (pairC a m h h' x y r r') 45 (0, 0)), S2 a m k (Mc) h t (Hn) h' t' (H1), D2 x y k (mN n) r (hN A) r' (hN B), Anyt, Blk p2 (.cells (pairC a2 m2 h2 h2' x2 y2 r2 r2') 45 (0, 0)), S2 a2 m2 k (M2) h2 t2 (H) h2' t2' (hN B), D2 x2 y2 k (mN n) r2 (hN A) r2' (hN B), Blk Bo (.cells #[.int .i64 kd, .int .i64 N, .bool false, .slice oad oW.length ocap] 34 (0, 0)), Mp Bm (nn + z) ml2, Lv (some ⟨kb, koff, none⟩) KN]) => t_table g 3 rfl
                              have HFI := hid fun (w : World) (g : Things W w [Blk W.heap.size (.cells #[.int .i64 n, .int .i64 k, .slice adA A.length cA, .slice adB B.length cB] 26 (0, 0)), Anyt, Blk p (.cells (pairC a m h h' x y r r') 45 (0, 0)), S2 a m k (Mc) h t (Hn) h' t' (H1), D2 x y k (mN n) r (hN A) r' (hN B), Anyt, Blk p2 (.cells (pairC a2 m2 h2 h2' x2 y2 r2 r2') 45 (0, 0)), S2 a2 m2 k (M2) h2 t2 (H) h2' t2' (hN B), D2 x2 y2 k (mN n) r2 (hN A) r2' (hN B), Blk Bo (.cells #[.int .i64 kd, .int .i64 N, .bool false, .slice oad oW.length ocap] 34 (0, 0)), Mp Bm (nn + z) ml2, Lv (some ⟨kb, koff, none⟩) KN]) => t_find g 3 rfl HTN.out hv
                              rw [hq1] at HFI
                              have HUP : Hid (∀ w1, Things W w1 [Blk W.heap.size (.cells #[.int .i64 n, .int .i64 k, .slice adA A.length cA, .slice adB B.length cB] 26 (0, 0)), Anyt, Blk p (.cells (pairC a m h h' x y r r') 45 (0, 0)), S2 a m k (Mc) h t (Hn) h' t' (H1), D2 x y k (mN n) r (hN A) r' (hN B), Anyt, Blk p2 (.cells (pairC a2 m2 h2 h2' x2 y2 r2 r2') 45 (0, 0)), S2 a2 m2 k (M2) h2 t2 (H) h2' t2' (hN B), D2 x2 y2 k (mN n) r2 (hN A) r2' (hN B), Blk Bo (.cells #[.int .i64 kd, .int .i64 N, .bool false, .slice oad oW.length ocap] 34 (0, 0)), Mp Bm (nn + z) ml2, Lv (some ⟨kb, koff, none⟩) KN] → ∃ w', (Instr.mapUpdate 79 (.map (some Bm)) (.int .i64 (q : Int)) (.bool true)).run Tryz.prog w1 = .ok () w' ∧ Things W w' [Blk W.heap.size (.cells #[.int .i64 n, .int .i64 k, .slice adA A.length cA, .slice adB B.length cB] 26 (0, 0)), Anyt, Blk p (.cells (pairC a m h h' x y r r') 45 (0, 0)), S2 a m k (Mc) h t (Hn) h' t' (H1), D2 x y k (mN n) r (hN A) r' (hN B), Anyt, Blk p2 (.cells (pairC a2 m2 h2 h2' x2 y2 r2 r2') 45 (0, 0)), S2 a2 m2 k (M2) h2 t2 (H) h2' t2' (hN B), D2 x2 y2 k (mN n) r2 (hN A) r2' (hN B), Blk Bo (.cells #[.int .i64 kd, .int .i64 N, .bool false, .slice oad oW.length ocap] 34 (0, 0)), Mp Bm (nn + (z + 1)) ((q : Int) :: ml2), Lv (some ⟨kb, koff, none⟩) KN]) := fun w1 g => Things.store g 10 rfl (by unfold maxLen; omega) (wf_small (by omega) (by omega))
                              have pc2 : wr.cell? ⟨p, 2, none⟩ = some (.pointer (some ⟨h, 0, none⟩)) := box_cell (T.out.cells 2 rfl) 2 rfl
                              clear HM hv hq1
                              generalize KN[z] = vz at *
                              generalize (q : Int) = qi at *
                              go_wp2_with fail
                              refine (HTB.out _ T.out).mono ?_
                              rintro e u1 ⟨rfl, g1⟩
                              have U1 := hid g1
                              clear g1 T HTB
                              go_wp2_with fail
                              refine (HFI.out _ U1.out).mono ?_
                              rintro e u2 ⟨rfl, g2⟩
                              obtain ⟨u3, hru, g3⟩ := HUP.out _ g2
                              have U3 := hid g3
                              clear g2 g3 U1 HFI HUP
                              go_wp2
                              go_roundw
                              case rel => exact ⟨z + 1, _, by omega, by go_num, HM2, U3⟩
                              case measure => simp [intOf]; omega
                          · obtain rfl : KN.length = z := by omega
                            as_aux_lemma =>
                              have HMN : Hid (∀ v ∈ KL, tbF H.T v ∈ ml2) := fun v hv => HM.out.2 _ (HMM.out v hv)
                              have T10 : Hid (Things W wr [Blk W.heap.size (.cells #[.int .i64 n, .int .i64 k, .slice adA A.length cA, .slice adB B.length cB] 26 (0, 0)), Anyt, Blk p (.cells (pairC a m h h' x y r r') 45 (0, 0)), S2 a m k (Mc) h t (Hn) h' t' (H1), D2 x y k (mN n) r (hN A) r' (hN B), Anyt, Blk p2 (.cells (pairC a2 m2 h2 h2' x2 y2 r2 r2') 45 (0, 0)), S2 a2 m2 k (M2) h2 t2 (H) h2' t2' (hN B), D2 x2 y2 k (mN n) r2 (hN A) r2' (hN B), Blk Bo (.cells #[.int .i64 kd, .int .i64 N, .bool false, .slice oad oW.length ocap] 34 (0, 0)), Mp Bm (nn + KN.length) ml2]) := Things.less (ts := [Blk W.heap.size (.cells #[.int .i64 n, .int .i64 k, .slice adA A.length cA, .slice adB B.length cB] 26 (0, 0)), Anyt, Blk p (.cells (pairC a m h h' x y r r') 45 (0, 0)), S2 a m k (Mc) h t (Hn) h' t' (H1), D2 x y k (mN n) r (hN A) r' (hN B), Anyt, Blk p2 (.cells (pairC a2 m2 h2 h2' x2 y2 r2 r2') 45 (0, 0)), S2 a2 m2 k (M2) h2 t2 (H) h2' t2' (hN B), D2 x2 y2 k (mN n) r2 (hN A) r2' (hN B), Blk Bo (.cells #[.int .i64 kd, .int .i64 N, .bool false, .slice oad oW.length ocap] 34 (0, 0)), Mp Bm (nn + KN.length) ml2]) T.out
                              clear T HM HMM
                              have hss : Mc.ss.length ≤ 1000002 := by have := HTN.out.ss; omega
                              have HTC := hid fun (w : World) (g : Things W w [Blk W.heap.size (.cells #[.int .i64 n, .int .i64 k, .slice adA A.length cA, .slice adB B.length cB] 26 (0, 0)), Anyt, Blk p (.cells (pairC a m h h' x y r r') 45 (0, 0)), S2 a m k (Mc) h t (Hn) h' t' (H1), D2 x y k (mN n) r (hN A) r' (hN B), Anyt, Blk p2 (.cells (pairC a2 m2 h2 h2' x2 y2 r2 r2') 45 (0, 0)), S2 a2 m2 k (M2) h2 t2 (H) h2' t2' (hN B), D2 x2 y2 k (mN n) r2 (hN A) r2' (hN B), Blk Bo (.cells #[.int .i64 kd, .int .i64 N, .bool false, .slice oad oW.length ocap] 34 (0, 0)), Mp Bm (nn + KN.length) ml2]) => t_touched g 3 rfl hss
                              have pa0 : wr.cell? ⟨p, 0, none⟩ = some (.pointer (some ⟨a, 0, none⟩)) := box_cell (T10.out.cells 2 rfl) 0 rfl
                              go_wp2_with fail
                              refine (HTC.out _ T10.out).mono ?_
                              rintro e v11 ⟨sad, scap, rfl, g11⟩
                              have T11 : Hid (Things W v11 [Blk W.heap.size (.cells #[.int .i64 n, .int .i64 k, .slice adA A.length cA, .slice adB B.length cB] 26 (0, 0)), Anyt, Blk p (.cells (pairC a m h h' x y r r') 45 (0, 0)), S2 a m k (Mc) h t (Hn) h' t' (H1), D2 x y k (mN n) r (hN A) r' (hN B), Anyt, Blk p2 (.cells (pairC a2 m2 h2 h2' x2 y2 r2 r2') 45 (0, 0)), S2 a2 m2 k (M2) h2 t2 (H) h2' t2' (hN B), D2 x2 y2 k (mN n) r2 (hN A) r2' (hN B), Blk Bo (.cells #[.int .i64 kd, .int .i64 N, .bool false, .slice oad oW.length ocap] 34 (0, 0)), Mp Bm (nn + KN.length) ml2, Sv sad Mc.ss]) := g11
                              clear g11 T10 HTC pa0
                              have HSL := hid hss
                              clear hss
                              go_wp2
                              go_loopw [178] (fun i wr => ∃ z : Nat, z ≤ Mc.ss.length ∧ i = .int .i64 z ∧ Hid (Things W wr [Blk W.heap.size (.cells #[.int .i64 n, .int .i64 k, .slice adA A.length cA, .slice adB B.length cB] 26 (0, 0)), Anyt, Blk p (.cells (pairC a m h h' x y r r') 45 (0, 0)), S2 a m k (Mc) h t (Hn) h' t' (H1), D2 x y k (mN n) r (hN A) r' (hN B), Anyt, Blk p2 (.cells (pairC a2 m2 h2 h2' x2 y2 r2 r2') 45 (0, 0)), S2 a2 m2 k (M2) h2 t2 (H) h2' t2' (hN B), D2 x2 y2 k (mN n) r2 (hN A) r2' (hN B), Blk Bo (.cells #[.int .i64 kd, .int .i64 N, .bool false, .slice oad oW.length ocap] 34 (0, 0)), Mp Bm (nn + KN.length) ml2, Sv sad Mc.ss])) (fun i _ => Mc.ss.length - (intOf i).toNat)
                              case atStart => exact ⟨0, by omega, rfl, T11⟩
                              case round =>
                                clear T11
                                obtain ⟨z, hz, rfl, T⟩ := hrel
                                by_cases hlt : z < Mc.ss.length
                                · as_aux_lemma =>
                                    obtain ⟨sb, soff, rfl, hsb, s1, s2, s3⟩ := T.out.sps 11 rfl z hlt
                                    obtain ⟨q, e1, e2, e3, e4, e5, e6, e7⟩ := own_mem HTP.out.1 (fun v hv => HMN.out v (HKLE.out ▸ hv)) (HTO.out Mc.ss[z] (List.getElem_mem hlt))
                                    have hqs : q < 4096 := by have := HTP.out.2; omega
                                    have hss2 := HSL.out
                                    have TS : Hid (Things W (wr.alloc (.cells #[.int .i64 (Mc.ss[z]).1, .int .i64 (Mc.ss[z]).2.1, .bool (Mc.ss[z]).2.2] 83)) ([Blk W.heap.size (.cells #[.int .i64 n, .int .i64 k, .slice adA A.length cA, .slice adB B.length cB] 26 (0, 0)), Anyt, Blk p (.cells (pairC a m h h' x y r r') 45 (0, 0)), S2 a m k (Mc) h t (Hn) h' t' (H1), D2 x y k (mN n) r (hN A) r' (hN B), Anyt, Blk p2 (.cells (pairC a2 m2 h2 h2' x2 y2 r2 r2') 45 (0, 0)), S2 a2 m2 k (M2) h2 t2 (H) h2' t2' (hN B), D2 x2 y2 k (mN n) r2 (hN A) r2' (hN B), Blk Bo (.cells #[.int .i64 kd, .int .i64 N, .bool false, .slice oad oW.length ocap] 34 (0, 0)), Mp Bm (nn + KN.length) ml2, Sv (some ⟨sb, soff, none⟩) Mc.ss] ++ [Blk wr.heap.size (.cells #[.int .i64 (Mc.ss[z]).1, .int .i64 (Mc.ss[z]).2.1, .bool (Mc.ss[z]).2.2] 83 (0, 0))])) := T.out.blk _
                                    have lk := TS.out.look 10 rfl (x := (q : Int)) (wf_small (by omega) (by omega))
                                    rw [decide_eq_true e3] at lk
                                    clear T e3
                                    generalize (Mc.ss[z]).1 = sp1 at *
                                    generalize (Mc.ss[z]).2.1 = sp2 at *
                                    generalize (Mc.ss[z]).2.2 = sp3 at *
                                    generalize hrm : sp1.tmod 512 = rm at *
                                    have k1 : IntKind.i64.wrap (q : Int) = q := by rw [IntKind.wrap_i64]; omega
                                    have k2 : IntKind.i64.wrap (rm + sp2) = rm + sp2 := by rw [IntKind.wrap_i64]; omega
                                    have k3 : IntKind.i64.wrap rm = rm := by rw [IntKind.wrap_i64]; omega
                                    have k4 : ¬ (512 : Int) < rm + sp2 := by omega
                                    generalize hsm : rm + sp2 = sm at *
                                    clear hqs e2 e4 e5 e6 e7
                                    generalize (q : Int) = qi at *
                                    go_wp2
                                    have TE : Hid (Things W _ [Blk W.heap.size (.cells #[.int .i64 n, .int .i64 k, .slice adA A.length cA, .slice adB B.length cB] 26 (0, 0)), Anyt, Blk p (.cells (pairC a m h h' x y r r') 45 (0, 0)), S2 a m k (Mc) h t (Hn) h' t' (H1), D2 x y k (mN n) r (hN A) r' (hN B), Anyt, Blk p2 (.cells (pairC a2 m2 h2 h2' x2 y2 r2 r2') 45 (0, 0)), S2 a2 m2 k (M2) h2 t2 (H) h2' t2' (hN B), D2 x2 y2 k (mN n) r2 (hN A) r2' (hN B), Blk Bo (.cells #[.int .i64 kd, .int .i64 N, .bool false, .slice oad oW.length ocap] 34 (0, 0)), Mp Bm (nn + KN.length) ml2, Sv (some ⟨sb, soff, none⟩) Mc.ss]) := Things.less (ts := [Blk W.heap.size (.cells #[.int .i64 n, .int .i64 k, .slice adA A.length cA, .slice adB B.length cB] 26 (0, 0)), Anyt, Blk p (.cells (pairC a m h h' x y r r') 45 (0, 0)), S2 a m k (Mc) h t (Hn) h' t' (H1), D2 x y k (mN n) r (hN A) r' (hN B), Anyt, Blk p2 (.cells (pairC a2 m2 h2 h2' x2 y2 r2 r2') 45 (0, 0)), S2 a2 m2 k (M2) h2 t2 (H) h2' t2' (hN B), D2 x2 y2 k (mN n) r2 (hN A) r2' (hN B), Blk Bo (.cells #[.int .i64 kd, .int .i64 N, .bool false, .slice oad oW.length ocap] 34 (0, 0)), Mp Bm (nn + KN.length) ml2, Sv (some ⟨sb, soff, none⟩) Mc.ss]) TS.out
                                    clear TS lk
                                    go_roundw
                                    case rel => exact ⟨z + 1, by omega, by go_num, TE⟩
                                    case measure => simp [intOf]; omega
                                · obtain rfl : Mc.ss.length = z := by omega
                                  have T12 : Hid (Things W wr [Blk W.heap.size (.cells #[.int .i64 n, .int .i64 k, .slice adA A.length cA, .slice adB B.length cB] 26 (0, 0)), Anyt, Blk p (.cells (pairC a m h h' x y r r') 45 (0, 0)), S2 a m k (Mc) h t (Hn) h' t' (H1), D2 x y k (mN n) r (hN A) r' (hN B), Anyt, Blk p2 (.cells (pairC a2 m2 h2 h2' x2 y2 r2 r2') 45 (0, 0)), S2 a2 m2 k (M2) h2 t2 (H) h2' t2' (hN B), D2 x2 y2 k (mN n) r2 (hN A) r2' (hN B), Blk Bo (.cells #[.int .i64 kd, .int .i64 N, .bool false, .slice oad oW.length ocap] 34 (0, 0)), Mp Bm (nn + KN.length) ml2]) := Things.less (ts := [Blk W.heap.size (.cells #[.int .i64 n, .int .i64 k, .slice adA A.length cA, .slice adB B.length cB] 26 (0, 0)), Anyt, Blk p (.cells (pairC a m h h' x y r r') 45 (0, 0)), S2 a m k (Mc) h t (Hn) h' t' (H1), D2 x y k (mN n) r (hN A) r' (hN B), Anyt, Blk p2 (.cells (pairC a2 m2 h2 h2' x2 y2 r2 r2') 45 (0, 0)), S2 a2 m2 k (M2) h2 t2 (H) h2' t2' (hN B), D2 x2 y2 k (mN n) r2 (hN A) r2' (hN B), Blk Bo (.cells #[.int .i64 kd, .int .i64 N, .bool false, .slice oad oW.length ocap] 34 (0, 0)), Mp Bm (nn + KN.length) ml2]) T.out
                                  clear T HTO HTP HMN HSL HKV HKN
                                  have T12b := T12
                                  have HCR := hid fun (w : World) (g : Things W w [Blk W.heap.size (.cells #[.int .i64 n, .int .i64 k, .slice adA A.length cA, .slice adB B.length cB] 26 (0, 0)), Anyt, Blk p (.cells (pairC a m h h' x y r r') 45 (0, 0)), S2 a m k (Mc) h t (Hn) h' t' (H1), D2 x y k (mN n) r (hN A) r' (hN B), Anyt, Blk p2 (.cells (pairC a2 m2 h2 h2' x2 y2 r2 r2') 45 (0, 0)), S2 a2 m2 k (M2) h2 t2 (H) h2' t2' (hN B), D2 x2 y2 k (mN n) r2 (hN A) r2' (hN B), Blk Bo (.cells #[.int .i64 kd, .int .i64 N, .bool false, .slice oad oW.length ocap] 34 (0, 0)), Mp Bm (nn + KN.length) ml2]) => HCQ.out w _ g rfl
                                  have TD := hid (T12.out.kept (Fr.refl _ _).drew)
                                  have pq2 : wr.drew.cell? ⟨p2, 2, none⟩ = some (.pointer (some ⟨h2, 0, none⟩)) := box_cell (TD.out.cells 6 rfl) 2 rfl
                                  have od0 : wr.drew.cell? ⟨Bo, 0, none⟩ = some (.int .i64 kd) := box_cell (TD.out.cells 9 rfl) 0 rfl
                                  clear T12 HCQ
                                  go_wp2_with fail
                                  go_region_held3 (fun w' => w'.cell? ⟨p2, 2, none⟩ = some (.pointer (some ⟨h2, 0, none⟩)) ∧ w'.cell? ⟨Bo, 0, none⟩ = some (.int .i64 kd)) (first | exact ⟨by assumption, by assumption⟩ | go_keep) (first | (go_at_call 37; refine (HCR.out _ TD.out).mono ?_; rintro e v13 ⟨rfl, g13⟩; have T13 : Hid (Things W v13 [Blk W.heap.size (.cells #[.int .i64 n, .int .i64 k, .slice adA A.length cA, .slice adB B.length cB] 26 (0, 0)), Anyt, Blk p (.cells (pairC a m h h' x y r r') 45 (0, 0)), S2 a m k (Mc) h t (Hn) h' t' (H1), D2 x y k (mN n) r (hN A) r' (hN B), Anyt, Blk p2 (.cells (pairC a2 m2 h2 h2' x2 y2 r2 r2') 45 (0, 0)), S2 a2 m2 k (Mq) h2 t2 (Hn) h2' t2' (hN B), D2 x2 y2 k (mN n) r2 (hN A) r2' (hN B), Blk Bo (.cells #[.int .i64 kd, .int .i64 N, .bool false, .slice oad oW.length ocap] 34 (0, 0)), Mp Bm (nn + KN.length) ml2]) := g13; clear g13; have pr2 : v13.cell? ⟨p2, 2, none⟩ = some (.pointer (some ⟨h2, 0, none⟩)) := box_cell (T13.out.cells 6 rfl) 2 rfl; have or0 : v13.cell? ⟨Bo, 0, none⟩ = some (.int .i64 kd) := box_cell (T13.out.cells 9 rfl) 0 rfl))
                                  clear TD HCR pq2 od0 pr2 or0
                                  as_aux_lemma =>
                                    have AR : Hid (Apr n k 600 (600 * (j + 1)) Mc Hn H1 Mq (hN B) A B) := AQ.out.less (by omega) (by omega)
                                    clear AQ HTN
                                    have hAB := HNA.out
                                    have x0 := fun w => (ix2 (.slice adA A.length cA) (.slice adB B.length cB) w).1
                                    have x1 := fun w => (ix2 (.slice adA A.length cA) (.slice adB B.length cB) w).2
                                    clear hAB
                                    go_wp2
                                    go_loopw [220] (fun i wr => ∃ z : Nat, z ≤ 2 ∧ i = .int .i64 z ∧ Hid (Things W wr [Blk W.heap.size (.cells #[.int .i64 n, .int .i64 k, .slice adA A.length cA, .slice adB B.length cB] 26 (0, 0)), Anyt, Blk p (.cells (pairC a m h h' x y r r') 45 (0, 0)), S2 a m k (Mc) h t (Hn) h' t' (H1), D2 x y k (mN n) r (hN A) r' (hN B), Anyt, Blk p2 (.cells (pairC a2 m2 h2 h2' x2 y2 r2 r2') 45 (0, 0)), S2 a2 m2 k (Mq) h2 t2 (Hn) h2' t2' (hN B), D2 x2 y2 k (mN n) r2 (hN A) r2' (hN B), Blk Bo (.cells #[.int .i64 kd, .int .i64 N, .bool false, .slice oad oW.length ocap] 34 (0, 0)), Mp Bm (nn + KN.length) ml2])) (fun i _ => 2 - (intOf i).toNat)
                                    case atStart => exact ⟨0, by omega, rfl, T13⟩
                                    case round =>
                                      clear T13
                                      obtain ⟨z, hz, rfl, T⟩ := hrel
                                      have h3 : z = 0 ∨ z = 1 ∨ z = 2 := by omega
                                      rcases h3 with rfl | rfl | rfl
                                      · as_aux_lemma =>
                                          have T0 : Hid (Things W wr [Blk W.heap.size (.cells #[.int .i64 n, .int .i64 k, .slice adA A.length cA, .slice adB B.length cB] 26 (0, 0)), Anyt, Blk p (.cells (pairC a m h h' x y r r') 45 (0, 0)), S2 a m k (Mc) h t (Hn) h' t' (H1), D2 x y k (mN n) r (hN A) r' (hN B), Anyt, Blk p2 (.cells (pairC a2 m2 h2 h2' x2 y2 r2 r2') 45 (0, 0)), S2 a2 m2 k (Mq) h2 t2 (Hn) h2' t2' (hN B), D2 x2 y2 k (mN n) r2 (hN A) r2' (hN B), Blk Bo (.cells #[.int .i64 kd, .int .i64 N, .bool false, .slice oad oW.length ocap] 34 (0, 0)), Mp Bm (nn + KN.length) ml2]) := T
                                          have HTX : Hid (Two k 600 Mc Hn H1) := AR.out.tw
                                          have HKX : Hid (∀ v ∈ (Hn).T.map Prod.fst, I64 v ∧ ∃ q : Nat, tbF (Hn).T v = (q : Int) ∧ q < 4096 ∧ Cq.inW k A q = true) := fun v hv => by
                                            obtain ⟨ka1, q, ka2, ka3, ka4, _⟩ := HTX.out.of hv
                                            rw [AR.out.wA] at ka4
                                            exact ⟨ka1, q, ka2, ka3, ka4⟩
                                          have hkx : ((Hn).T.map Prod.fst).length ≤ 512 := by have := HTX.out.ok.tp.few; have := AR.out.n1; rw [List.length_map]; omega
                                          have f2 : wr.cell? ⟨W.heap.size, 2, none⟩ = some (.slice adA A.length cA) := box_cell (T0.out.cells 0 rfl) 2 rfl
                                          have f3 : wr.cell? ⟨W.heap.size, 3, none⟩ = some (.slice adB B.length cB) := box_cell (T0.out.cells 0 rfl) 3 rfl
                                          have pz : wr.cell? ⟨p, 2, none⟩ = some (.pointer (some ⟨h, 0, none⟩)) := box_cell (T0.out.cells 2 rfl) 2 rfl
                                          have HTB := hid fun (w : World) (g : Things W w [Blk W.heap.size (.cells #[.int .i64 n, .int .i64 k, .slice adA A.length cA, .slice adB B.length cB] 26 (0, 0)), Anyt, Blk p (.cells (pairC a m h h' x y r r') 45 (0, 0)), S2 a m k (Mc) h t (Hn) h' t' (H1), D2 x y k (mN n) r (hN A) r' (hN B), Anyt, Blk p2 (.cells (pairC a2 m2 h2 h2' x2 y2 r2 r2') 45 (0, 0)), S2 a2 m2 k (Mq) h2 t2 (Hn) h2' t2' (hN B), D2 x2 y2 k (mN n) r2 (hN A) r2' (hN B), Blk Bo (.cells #[.int .i64 kd, .int .i64 N, .bool false, .slice oad oW.length ocap] 34 (0, 0)), Mp Bm (nn + KN.length) ml2]) => t_table g 3 rfl
                                          have HAL := hid fun (w : World) (g : Things W w [Blk W.heap.size (.cells #[.int .i64 n, .int .i64 k, .slice adA A.length cA, .slice adB B.length cB] 26 (0, 0)), Anyt, Blk p (.cells (pairC a m h h' x y r r') 45 (0, 0)), S2 a m k (Mc) h t (Hn) h' t' (H1), D2 x y k (mN n) r (hN A) r' (hN B), Anyt, Blk p2 (.cells (pairC a2 m2 h2 h2' x2 y2 r2 r2') 45 (0, 0)), S2 a2 m2 k (Mq) h2 t2 (Hn) h2' t2' (hN B), D2 x2 y2 k (mN n) r2 (hN A) r2' (hN B), Blk Bo (.cells #[.int .i64 kd, .int .i64 N, .bool false, .slice oad oW.length ocap] 34 (0, 0)), Mp Bm (nn + KN.length) ml2]) => t_all g 3 rfl HTX.out
                                          clear T
                                          go_wp2_with fail
                                          refine (HTB.out _ T0.out).mono ?_
                                          rintro e u1 ⟨rfl, g1⟩
                                          have U1 := hid g1
                                          clear g1 T0 HTB f2 f3 pz
                                          go_wp2_with fail
                                          refine (HAL.out _ U1.out).mono ?_
                                          rintro e u2 ⟨xad, xcap, rfl, g2⟩
                                          have U2 : Hid (Things W u2 ([Blk W.heap.size (.cells #[.int .i64 n, .int .i64 k, .slice adA A.length cA, .slice adB B.length cB] 26 (0, 0)), Anyt, Blk p (.cells (pairC a m h h' x y r r') 45 (0, 0)), S2 a m k (Mc) h t (Hn) h' t' (H1), D2 x y k (mN n) r (hN A) r' (hN B), Anyt, Blk p2 (.cells (pairC a2 m2 h2 h2' x2 y2 r2 r2') 45 (0, 0)), S2 a2 m2 k (Mq) h2 t2 (Hn) h2' t2' (hN B), D2 x2 y2 k (mN n) r2 (hN A) r2' (hN B), Blk Bo (.cells #[.int .i64 kd, .int .i64 N, .bool false, .slice oad oW.length ocap] 34 (0, 0)), Mp Bm (nn + KN.length) ml2] ++ [Lv xad ((Hn).T.map Prod.fst)])) := g2
                                          clear g2 U1 HAL
                                          generalize (Hn).T.map Prod.fst = KX at *
                                          go_wp2
                                          go_loopw [239] (fun i wr => ∃ u : Nat, u ≤ KX.length ∧ i = .int .i64 u ∧ Hid (Things W wr ([Blk W.heap.size (.cells #[.int .i64 n, .int .i64 k, .slice adA A.length cA, .slice adB B.length cB] 26 (0, 0)), Anyt, Blk p (.cells (pairC a m h h' x y r r') 45 (0, 0)), S2 a m k (Mc) h t (Hn) h' t' (H1), D2 x y k (mN n) r (hN A) r' (hN B), Anyt, Blk p2 (.cells (pairC a2 m2 h2 h2' x2 y2 r2 r2') 45 (0, 0)), S2 a2 m2 k (Mq) h2 t2 (Hn) h2' t2' (hN B), D2 x2 y2 k (mN n) r2 (hN A) r2' (hN B), Blk Bo (.cells #[.int .i64 kd, .int .i64 N, .bool false, .slice oad oW.length ocap] 34 (0, 0)), Mp Bm (nn + KN.length) ml2] ++ [Lv xad KX]))) (fun i _ => KX.length - (intOf i).toNat)
                                          case atStart => exact ⟨0, by omega, rfl, U2⟩
                                          case round =>
                                            clear U2
                                            obtain ⟨u, hu, rfl, T⟩ := hrel
                                            by_cases hlu : u < KX.length
                                            · obtain ⟨xb, xoff, rfl, hxb, hxc⟩ := T.out.nums 11 rfl u hlu
                                              obtain ⟨hv, q, ka2, ka3, ka4⟩ := HKX.out KX[u] (List.getElem_mem hlu)
                                              have HTB := hid fun (w : World) (g : Things W w ([Blk W.heap.size (.cells #[.int .i64 n, .int .i64 k, .slice adA A.length cA, .slice adB B.length cB] 26 (0, 0)), Anyt, Blk p (.cells (pairC a m h h' x y r r') 45 (0, 0)), S2 a m k (Mc) h t (Hn) h' t' (H1), D2 x y k (mN n) r (hN A) r' (hN B), Anyt, Blk p2 (.cells (pairC a2 m2 h2 h2' x2 y2 r2 r2') 45 (0, 0)), S2 a2 m2 k (Mq) h2 t2 (Hn) h2' t2' (hN B), D2 x2 y2 k (mN n) r2 (hN A) r2' (hN B), Blk Bo (.cells #[.int .i64 kd, .int .i64 N, .bool false, .slice oad oW.length ocap] 34 (0, 0)), Mp Bm (nn + KN.length) ml2] ++ [Lv (some ⟨xb, xoff, none⟩) KX])) => t_table g 3 rfl
                                              have HFI := hid fun (w : World) (g : Things W w ([Blk W.heap.size (.cells #[.int .i64 n, .int .i64 k, .slice adA A.length cA, .slice adB B.length cB] 26 (0, 0)), Anyt, Blk p (.cells (pairC a m h h' x y r r') 45 (0, 0)), S2 a m k (Mc) h t (Hn) h' t' (H1), D2 x y k (mN n) r (hN A) r' (hN B), Anyt, Blk p2 (.cells (pairC a2 m2 h2 h2' x2 y2 r2 r2') 45 (0, 0)), S2 a2 m2 k (Mq) h2 t2 (Hn) h2' t2' (hN B), D2 x2 y2 k (mN n) r2 (hN A) r2' (hN B), Blk Bo (.cells #[.int .i64 kd, .int .i64 N, .bool false, .slice oad oW.length ocap] 34 (0, 0)), Mp Bm (nn + KN.length) ml2] ++ [Lv (some ⟨xb, xoff, none⟩) KX])) => t_find g 3 rfl HTX.out hv
                                              rw [ka2] at HFI
                                              have HOF := hid fun (w : World) (g : Things W w ([Blk W.heap.size (.cells #[.int .i64 n, .int .i64 k, .slice adA A.length cA, .slice adB B.length cB] 26 (0, 0)), Anyt, Blk p (.cells (pairC a m h h' x y r r') 45 (0, 0)), S2 a m k (Mc) h t (Hn) h' t' (H1), D2 x y k (mN n) r (hN A) r' (hN B), Anyt, Blk p2 (.cells (pairC a2 m2 h2 h2' x2 y2 r2 r2') 45 (0, 0)), S2 a2 m2 k (Mq) h2 t2 (Hn) h2' t2' (hN B), D2 x2 y2 k (mN n) r2 (hN A) r2' (hN B), Blk Bo (.cells #[.int .i64 kd, .int .i64 N, .bool false, .slice oad oW.length ocap] 34 (0, 0)), Mp Bm (nn + KN.length) ml2] ++ [Lv (some ⟨xb, xoff, none⟩) KX])) => t_of g 4 rfl cA (HNA.out _ g.nw).1 (by unfold maxLen; omega) (p := q) (by omega)
                                              rw [ka4] at HOF
                                              have TD := hid (T.out.kept (Fr.refl _ _).drew)
                                              have d5 : wr.drew.cell? ⟨p, 5, none⟩ = some (.pointer (some ⟨y, 0, none⟩)) := box_cell (TD.out.cells 2 rfl) 5 rfl
                                              have dz : wr.drew.cell? ⟨p, 2, none⟩ = some (.pointer (some ⟨h, 0, none⟩)) := box_cell (TD.out.cells 2 rfl) 2 rfl
                                              clear T hv ka2 ka3 ka4
                                              generalize KX[u] = vx at *
                                              generalize (q : Int) = qi at *
                                              go_wp2_with fail
                                              go_region_held3 (fun w' => w'.cell? ⟨p, 5, none⟩ = some (.pointer (some ⟨y, 0, none⟩)) ∧ w'.cell? ⟨p, 2, none⟩ = some (.pointer (some ⟨h, 0, none⟩))) (first | exact ⟨by assumption, by assumption⟩ | go_keep) (first | (go_at_call 39; refine (HOF.out _ Y2.out).mono ?_; rintro e yv3 ⟨rfl, g3⟩; have Y3 := hid g3; have e5 := box_cell (Things.cells g3 2 rfl) 5 rfl; have ez := box_cell (Things.cells g3 2 rfl) 2 rfl; clear g3) | (go_at_call 20; refine (HFI.out _ Y1.out).mono ?_; rintro e yv2 ⟨rfl, g2⟩; have Y2 := hid g2; have c5 := box_cell (Things.cells g2 2 rfl) 5 rfl; have cz := box_cell (Things.cells g2 2 rfl) 2 rfl; clear g2) | (go_at_call 17; refine (HTB.out _ TD.out).mono ?_; rintro e yv1 ⟨rfl, g1⟩; have Y1 := hid g1; have b5 := box_cell (Things.cells g1 2 rfl) 5 rfl; have bz := box_cell (Things.cells g1 2 rfl) 2 rfl; clear g1))
                                              clear TD Y1 Y2 HTB HFI HOF d5 dz b5 bz c5 cz e5 ez
                                              go_wp2
                                              go_roundw
                                              case rel => exact ⟨u + 1, by omega, by go_num, Y3⟩
                                              case measure => simp [intOf]; omega
                                            · obtain rfl : u = KX.length := by omega
                                              have T1 : Hid (Things W wr [Blk W.heap.size (.cells #[.int .i64 n, .int .i64 k, .slice adA A.length cA, .slice adB B.length cB] 26 (0, 0)), Anyt, Blk p (.cells (pairC a m h h' x y r r') 45 (0, 0)), S2 a m k (Mc) h t (Hn) h' t' (H1), D2 x y k (mN n) r (hN A) r' (hN B), Anyt, Blk p2 (.cells (pairC a2 m2 h2 h2' x2 y2 r2 r2') 45 (0, 0)), S2 a2 m2 k (Mq) h2 t2 (Hn) h2' t2' (hN B), D2 x2 y2 k (mN n) r2 (hN A) r2' (hN B), Blk Bo (.cells #[.int .i64 kd, .int .i64 N, .bool false, .slice oad oW.length ocap] 34 (0, 0)), Mp Bm (nn + KN.length) ml2]) := Things.less (ts := [Blk W.heap.size (.cells #[.int .i64 n, .int .i64 k, .slice adA A.length cA, .slice adB B.length cB] 26 (0, 0)), Anyt, Blk p (.cells (pairC a m h h' x y r r') 45 (0, 0)), S2 a m k (Mc) h t (Hn) h' t' (H1), D2 x y k (mN n) r (hN A) r' (hN B), Anyt, Blk p2 (.cells (pairC a2 m2 h2 h2' x2 y2 r2 r2') 45 (0, 0)), S2 a2 m2 k (Mq) h2 t2 (Hn) h2' t2' (hN B), D2 x2 y2 k (mN n) r2 (hN A) r2' (hN B), Blk Bo (.cells #[.int .i64 kd, .int .i64 N, .bool false, .slice oad oW.length ocap] 34 (0, 0)), Mp Bm (nn + KN.length) ml2]) T.out
                                              have T2 : Hid (Things W wr [Blk W.heap.size (.cells #[.int .i64 n, .int .i64 k, .slice adA A.length cA, .slice adB B.length cB] 26 (0, 0)), Anyt, Blk p (.cells (pairC a m h h' x y r r') 45 (0, 0)), S2 a m k (Mc) h t (Hn) h' t' (H1), D2 x y k (mN n) r (hN A) r' (hN B), Anyt, Blk p2 (.cells (pairC a2 m2 h2 h2' x2 y2 r2 r2') 45 (0, 0)), S2 a2 m2 k (Mq) h2 t2 (Hn) h2' t2' (hN B), D2 x2 y2 k (mN n) r2 (hN A) r2' (hN B), Blk Bo (.cells #[.int .i64 kd, .int .i64 N, .bool false, .slice oad oW.length ocap] 34 (0, 0)), Mp Bm (nn + KN.length) ml2]) := T1
                                              clear T T1 HKX HTX
                                              go_wp2
                                              go_roundw
                                              case rel => exact ⟨1, by omega, by go_num, T2⟩
                                              case measure => simp [intOf]; try omega
                                      · as_aux_lemma =>
                                          have T0 : Hid (Things W wr [Blk W.heap.size (.cells #[.int .i64 n, .int .i64 k, .slice adA A.length cA, .slice adB B.length cB] 26 (0, 0)), Anyt, Blk p (.cells (pairC a m h h' x y r r') 45 (0, 0)), S2 a m k (Mc) h' t' (H1) h t (Hn), D2 x y k (mN n) r (hN A) r' (hN B), Anyt, Blk p2 (.cells (pairC a2 m2 h2 h2' x2 y2 r2 r2') 45 (0, 0)), S2 a2 m2 k (Mq) h2 t2 (Hn) h2' t2' (hN B), D2 x2 y2 k (mN n) r2 (hN A) r2' (hN B), Blk Bo (.cells #[.int .i64 kd, .int .i64 N, .bool false, .slice oad oW.length ocap] 34 (0, 0)), Mp Bm (nn + KN.length) ml2]) := T.out.swap2 3 rfl
                                          have HTX : Hid (Two k 600 Mc H1 Hn) := AR.out.tw.swap
                                          have HKX : Hid (∀ v ∈ (H1).T.map Prod.fst, I64 v ∧ ∃ q : Nat, tbF (H1).T v = (q : Int) ∧ q < 4096 ∧ Cq.inW k B q = true) := fun v hv => by
                                            obtain ⟨ka1, q, ka2, ka3, ka4, _⟩ := HTX.out.of hv
                                            rw [AR.out.wB] at ka4
                                            exact ⟨ka1, q, ka2, ka3, ka4⟩
                                          have hkx : ((H1).T.map Prod.fst).length ≤ 512 := by have := HTX.out.ok.tp.few; have := AR.out.n1; rw [List.length_map]; omega
                                          have f2 : wr.cell? ⟨W.heap.size, 2, none⟩ = some (.slice adA A.length cA) := box_cell (T0.out.cells 0 rfl) 2 rfl
                                          have f3 : wr.cell? ⟨W.heap.size, 3, none⟩ = some (.slice adB B.length cB) := box_cell (T0.out.cells 0 rfl) 3 rfl
                                          have pz : wr.cell? ⟨p, 3, none⟩ = some (.pointer (some ⟨h', 0, none⟩)) := box_cell (T0.out.cells 2 rfl) 3 rfl
                                          have HTB := hid fun (w : World) (g : Things W w [Blk W.heap.size (.cells #[.int .i64 n, .int .i64 k, .slice adA A.length cA, .slice adB B.length cB] 26 (0, 0)), Anyt, Blk p (.cells (pairC a m h h' x y r r') 45 (0, 0)), S2 a m k (Mc) h' t' (H1) h t (Hn), D2 x y k (mN n) r (hN A) r' (hN B), Anyt, Blk p2 (.cells (pairC a2 m2 h2 h2' x2 y2 r2 r2') 45 (0, 0)), S2 a2 m2 k (Mq) h2 t2 (Hn) h2' t2' (hN B), D2 x2 y2 k (mN n) r2 (hN A) r2' (hN B), Blk Bo (.cells #[.int .i64 kd, .int .i64 N, .bool false, .slice oad oW.length ocap] 34 (0, 0)), Mp Bm (nn + KN.length) ml2]) => t_table g 3 rfl
                                          have HAL := hid fun (w : World) (g : Things W w [Blk W.heap.size (.cells #[.int .i64 n, .int .i64 k, .slice adA A.length cA, .slice adB B.length cB] 26 (0, 0)), Anyt, Blk p (.cells (pairC a m h h' x y r r') 45 (0, 0)), S2 a m k (Mc) h' t' (H1) h t (Hn), D2 x y k (mN n) r (hN A) r' (hN B), Anyt, Blk p2 (.cells (pairC a2 m2 h2 h2' x2 y2 r2 r2') 45 (0, 0)), S2 a2 m2 k (Mq) h2 t2 (Hn) h2' t2' (hN B), D2 x2 y2 k (mN n) r2 (hN A) r2' (hN B), Blk Bo (.cells #[.int .i64 kd, .int .i64 N, .bool false, .slice oad oW.length ocap] 34 (0, 0)), Mp Bm (nn + KN.length) ml2]) => t_all g 3 rfl HTX.out
                                          clear T
                                          go_wp2_with fail
                                          refine (HTB.out _ T0.out).mono ?_
                                          rintro e u1 ⟨rfl, g1⟩
                                          have U1 := hid g1
                                          clear g1 T0 HTB f2 f3 pz
                                          go_wp2_with fail
                                          refine (HAL.out _ U1.out).mono ?_
                                          rintro e u2 ⟨xad, xcap, rfl, g2⟩
                                          have U2 : Hid (Things W u2 ([Blk W.heap.size (.cells #[.int .i64 n, .int .i64 k, .slice adA A.length cA, .slice adB B.length cB] 26 (0, 0)), Anyt, Blk p (.cells (pairC a m h h' x y r r') 45 (0, 0)), S2 a m k (Mc) h' t' (H1) h t (Hn), D2 x y k (mN n) r (hN A) r' (hN B), Anyt, Blk p2 (.cells (pairC a2 m2 h2 h2' x2 y2 r2 r2') 45 (0, 0)), S2 a2 m2 k (Mq) h2 t2 (Hn) h2' t2' (hN B), D2 x2 y2 k (mN n) r2 (hN A) r2' (hN B), Blk Bo (.cells #[.int .i64 kd, .int .i64 N, .bool false, .slice oad oW.length ocap] 34 (0, 0)), Mp Bm (nn + KN.length) ml2] ++ [Lv xad ((H1).T.map Prod.fst)])) := g2
                                          clear g2 U1 HAL
                                          generalize (H1).T.map Prod.fst = KX at *
                                          go_wp2
                                          go_loopw [239] (fun i wr => ∃ u : Nat, u ≤ KX.length ∧ i = .int .i64 u ∧ Hid (Things W wr ([Blk W.heap.size (.cells #[.int .i64 n, .int .i64 k, .slice adA A.length cA, .slice adB B.length cB] 26 (0, 0)), Anyt, Blk p (.cells (pairC a m h h' x y r r') 45 (0, 0)), S2 a m k (Mc) h' t' (H1) h t (Hn), D2 x y k (mN n) r (hN A) r' (hN B), Anyt, Blk p2 (.cells (pairC a2 m2 h2 h2' x2 y2 r2 r2') 45 (0, 0)), S2 a2 m2 k (Mq) h2 t2 (Hn) h2' t2' (hN B), D2 x2 y2 k (mN n) r2 (hN A) r2' (hN B), Blk Bo (.cells #[.int .i64 kd, .int .i64 N, .bool false, .slice oad oW.length ocap] 34 (0, 0)), Mp Bm (nn + KN.length) ml2] ++ [Lv xad KX]))) (fun i _ => KX.length - (intOf i).toNat)
                                          case atStart => exact ⟨0, by omega, rfl, U2⟩
                                          case round =>
                                            clear U2
                                            obtain ⟨u, hu, rfl, T⟩ := hrel
                                            by_cases hlu : u < KX.length
                                            · obtain ⟨xb, xoff, rfl, hxb, hxc⟩ := T.out.nums 11 rfl u hlu
                                              obtain ⟨hv, q, ka2, ka3, ka4⟩ := HKX.out KX[u] (List.getElem_mem hlu)
                                              have HTB := hid fun (w : World) (g : Things W w ([Blk W.heap.size (.cells #[.int .i64 n, .int .i64 k, .slice adA A.length cA, .slice adB B.length cB] 26 (0, 0)), Anyt, Blk p (.cells (pairC a m h h' x y r r') 45 (0, 0)), S2 a m k (Mc) h' t' (H1) h t (Hn), D2 x y k (mN n) r (hN A) r' (hN B), Anyt, Blk p2 (.cells (pairC a2 m2 h2 h2' x2 y2 r2 r2') 45 (0, 0)), S2 a2 m2 k (Mq) h2 t2 (Hn) h2' t2' (hN B), D2 x2 y2 k (mN n) r2 (hN A) r2' (hN B), Blk Bo (.cells #[.int .i64 kd, .int .i64 N, .bool false, .slice oad oW.length ocap] 34 (0, 0)), Mp Bm (nn + KN.length) ml2] ++ [Lv (some ⟨xb, xoff, none⟩) KX])) => t_table g 3 rfl
                                              have HFI := hid fun (w : World) (g : Things W w ([Blk W.heap.size (.cells #[.int .i64 n, .int .i64 k, .slice adA A.length cA, .slice adB B.length cB] 26 (0, 0)), Anyt, Blk p (.cells (pairC a m h h' x y r r') 45 (0, 0)), S2 a m k (Mc) h' t' (H1) h t (Hn), D2 x y k (mN n) r (hN A) r' (hN B), Anyt, Blk p2 (.cells (pairC a2 m2 h2 h2' x2 y2 r2 r2') 45 (0, 0)), S2 a2 m2 k (Mq) h2 t2 (Hn) h2' t2' (hN B), D2 x2 y2 k (mN n) r2 (hN A) r2' (hN B), Blk Bo (.cells #[.int .i64 kd, .int .i64 N, .bool false, .slice oad oW.length ocap] 34 (0, 0)), Mp Bm (nn + KN.length) ml2] ++ [Lv (some ⟨xb, xoff, none⟩) KX])) => t_find g 3 rfl HTX.out hv
                                              rw [ka2] at HFI
                                              have HOF := hid fun (w : World) (g : Things W w ([Blk W.heap.size (.cells #[.int .i64 n, .int .i64 k, .slice adA A.length cA, .slice adB B.length cB] 26 (0, 0)), Anyt, Blk p (.cells (pairC a m h h' x y r r') 45 (0, 0)), S2 a m k (Mc) h' t' (H1) h t (Hn), D2 x y k (mN n) r (hN A) r' (hN B), Anyt, Blk p2 (.cells (pairC a2 m2 h2 h2' x2 y2 r2 r2') 45 (0, 0)), S2 a2 m2 k (Mq) h2 t2 (Hn) h2' t2' (hN B), D2 x2 y2 k (mN n) r2 (hN A) r2' (hN B), Blk Bo (.cells #[.int .i64 kd, .int .i64 N, .bool false, .slice oad oW.length ocap] 34 (0, 0)), Mp Bm (nn + KN.length) ml2] ++ [Lv (some ⟨xb, xoff, none⟩) KX])) => t_of g 4 rfl cB (HNA.out _ g.nw).2 (by unfold maxLen; omega) (p := q) (by omega)
                                              rw [ka4] at HOF
                                              have TD := hid (T.out.kept (Fr.refl _ _).drew)
                                              have d5 : wr.drew.cell? ⟨p, 5, none⟩ = some (.pointer (some ⟨y, 0, none⟩)) := box_cell (TD.out.cells 2 rfl) 5 rfl
                                              have dz : wr.drew.cell? ⟨p, 3, none⟩ = some (.pointer (some ⟨h', 0, none⟩)) := box_cell (TD.out.cells 2 rfl) 3 rfl
                                              clear T hv ka2 ka3 ka4
                                              generalize KX[u] = vx at *
                                              generalize (q : Int) = qi at *
                                              go_wp2_with fail
                                              go_region_held3 (fun w' => w'.cell? ⟨p, 5, none⟩ = some (.pointer (some ⟨y, 0, none⟩)) ∧ w'.cell? ⟨p, 3, none⟩ = some (.pointer (some ⟨h', 0, none⟩))) (first | exact ⟨by assumption, by assumption⟩ | go_keep) (first | (go_at_call 39; refine (HOF.out _ Y2.out).mono ?_; rintro e yv3 ⟨rfl, g3⟩; have Y3 := hid g3; have e5 := box_cell (Things.cells g3 2 rfl) 5 rfl; have ez := box_cell (Things.cells g3 2 rfl) 3 rfl; clear g3) | (go_at_call 20; refine (HFI.out _ Y1.out).mono ?_; rintro e yv2 ⟨rfl, g2⟩; have Y2 := hid g2; have c5 := box_cell (Things.cells g2 2 rfl) 5 rfl; have cz := box_cell (Things.cells g2 2 rfl) 3 rfl; clear g2) | (go_at_call 17; refine (HTB.out _ TD.out).mono ?_; rintro e yv1 ⟨rfl, g1⟩; have Y1 := hid g1; have b5 := box_cell (Things.cells g1 2 rfl) 5 rfl; have bz := box_cell (Things.cells g1 2 rfl) 3 rfl; clear g1))
                                              clear TD Y1 Y2 HTB HFI HOF d5 dz b5 bz c5 cz e5 ez
                                              go_wp2
                                              go_roundw
                                              case rel => exact ⟨u + 1, by omega, by go_num, Y3⟩
                                              case measure => simp [intOf]; omega
                                            · obtain rfl : u = KX.length := by omega
                                              have T1 : Hid (Things W wr [Blk W.heap.size (.cells #[.int .i64 n, .int .i64 k, .slice adA A.length cA, .slice adB B.length cB] 26 (0, 0)), Anyt, Blk p (.cells (pairC a m h h' x y r r') 45 (0, 0)), S2 a m k (Mc) h' t' (H1) h t (Hn), D2 x y k (mN n) r (hN A) r' (hN B), Anyt, Blk p2 (.cells (pairC a2 m2 h2 h2' x2 y2 r2 r2') 45 (0, 0)), S2 a2 m2 k (Mq) h2 t2 (Hn) h2' t2' (hN B), D2 x2 y2 k (mN n) r2 (hN A) r2' (hN B), Blk Bo (.cells #[.int .i64 kd, .int .i64 N, .bool false, .slice oad oW.length ocap] 34 (0, 0)), Mp Bm (nn + KN.length) ml2]) := Things.less (ts := [Blk W.heap.size (.cells #[.int .i64 n, .int .i64 k, .slice adA A.length cA, .slice adB B.length cB] 26 (0, 0)), Anyt, Blk p (.cells (pairC a m h h' x y r r') 45 (0, 0)), S2 a m k (Mc) h' t' (H1) h t (Hn), D2 x y k (mN n) r (hN A) r' (hN B), Anyt, Blk p2 (.cells (pairC a2 m2 h2 h2' x2 y2 r2 r2') 45 (0, 0)), S2 a2 m2 k (Mq) h2 t2 (Hn) h2' t2' (hN B), D2 x2 y2 k (mN n) r2 (hN A) r2' (hN B), Blk Bo (.cells #[.int .i64 kd, .int .i64 N, .bool false, .slice oad oW.length ocap] 34 (0, 0)), Mp Bm (nn + KN.length) ml2]) T.out
                                              have T2 : Hid (Things W wr [Blk W.heap.size (.cells #[.int .i64 n, .int .i64 k, .slice adA A.length cA, .slice adB B.length cB] 26 (0, 0)), Anyt, Blk p (.cells (pairC a m h h' x y r r') 45 (0, 0)), S2 a m k (Mc) h t (Hn) h' t' (H1), D2 x y k (mN n) r (hN A) r' (hN B), Anyt, Blk p2 (.cells (pairC a2 m2 h2 h2' x2 y2 r2 r2') 45 (0, 0)), S2 a2 m2 k (Mq) h2 t2 (Hn) h2' t2' (hN B), D2 x2 y2 k (mN n) r2 (hN A) r2' (hN B), Blk Bo (.cells #[.int .i64 kd, .int .i64 N, .bool false, .slice oad oW.length ocap] 34 (0, 0)), Mp Bm (nn + KN.length) ml2]) := Things.swap2 (ts := [Blk W.heap.size (.cells #[.int .i64 n, .int .i64 k, .slice adA A.length cA, .slice adB B.length cB] 26 (0, 0)), Anyt, Blk p (.cells (pairC a m h h' x y r r') 45 (0, 0)), S2 a m k (Mc) h' t' (H1) h t (Hn), D2 x y k (mN n) r (hN A) r' (hN B), Anyt, Blk p2 (.cells (pairC a2 m2 h2 h2' x2 y2 r2 r2') 45 (0, 0)), S2 a2 m2 k (Mq) h2 t2 (Hn) h2' t2' (hN B), D2 x2 y2 k (mN n) r2 (hN A) r2' (hN B), Blk Bo (.cells #[.int .i64 kd, .int .i64 N, .bool false, .slice oad oW.length ocap] 34 (0, 0)), Mp Bm (nn + KN.length) ml2]) T1.out 3 rfl
                                              clear T T1 HKX HTX
                                              go_wp2
                                              go_roundw
                                              case rel => exact ⟨2, by omega, by go_num, T2⟩
                                              case measure => simp [intOf]; try omega
                                      · have TE : Hid (Things W wr [Blk W.heap.size (.cells #[.int .i64 n, .int .i64 k, .slice adA A.length cA, .slice adB B.length cB] 26 (0, 0)), Anyt, Blk p (.cells (pairC a m h h' x y r r') 45 (0, 0)), S2 a m k (Mc) h t (Hn) h' t' (H1), D2 x y k (mN n) r (hN A) r' (hN B), Anyt, Blk p2 (.cells (pairC a2 m2 h2 h2' x2 y2 r2 r2') 45 (0, 0)), S2 a2 m2 k (Mq) h2 t2 (Hn) h2' t2' (hN B), D2 x2 y2 k (mN n) r2 (hN A) r2' (hN B)]) := Things.less (ts := [Blk W.heap.size (.cells #[.int .i64 n, .int .i64 k, .slice adA A.length cA, .slice adB B.length cB] 26 (0, 0)), Anyt, Blk p (.cells (pairC a m h h' x y r r') 45 (0, 0)), S2 a m k (Mc) h t (Hn) h' t' (H1), D2 x y k (mN n) r (hN A) r' (hN B), Anyt, Blk p2 (.cells (pairC a2 m2 h2 h2' x2 y2 r2 r2') 45 (0, 0)), S2 a2 m2 k (Mq) h2 t2 (Hn) h2' t2' (hN B), D2 x2 y2 k (mN n) r2 (hN A) r2' (hN B)]) (Things.less (ts := [Blk W.heap.size (.cells #[.int .i64 n, .int .i64 k, .slice adA A.length cA, .slice adB B.length cB] 26 (0, 0)), Anyt, Blk p (.cells (pairC a m h h' x y r r') 45 (0, 0)), S2 a m k (Mc) h t (Hn) h' t' (H1), D2 x y k (mN n) r (hN A) r' (hN B), Anyt, Blk p2 (.cells (pairC a2 m2 h2 h2' x2 y2 r2 r2') 45 (0, 0)), S2 a2 m2 k (Mq) h2 t2 (Hn) h2' t2' (hN B), D2 x2 y2 k (mN n) r2 (hN A) r2' (hN B), Blk Bo (.cells #[.int .i64 kd, .int .i64 N, .bool false, .slice oad oW.length ocap] 34 (0, 0))]) T.out)
                                        clear T
                                        go_wp2
                                        go_roundw
                                        case rel => exact ⟨j + 1, Mc, Hn, H1, Mq, by omega, by go_num, AR, TE⟩
                                        case measure => simp [intOf]; omega
          | true =>
            as_aux_lemma =>
              have T0 : Hid (Things W wr [Blk W.heap.size (.cells #[.int .i64 n, .int .i64 k, .slice adA A.length cA, .slice adB B.length cB] 26 (0, 0)), Anyt, Blk p (.cells (pairC a m h h' x y r r') 45 (0, 0)), S2 a m k (M) h' t' (H1) h t (H), D2 x y k (mN n) r (hN A) r' (hN B), Anyt, Blk p2 (.cells (pairC a2 m2 h2 h2' x2 y2 r2 r2') 45 (0, 0)), S2 a2 m2 k (M2) h2 t2 (H) h2' t2' (hN B), D2 x2 y2 k (mN n) r2 (hN A) r2' (hN B)]) := T.out.swap2 3 rfl
              have HTW : Hid (Two k 600 M H1 H) := AP.out.tw.swap
              have HKV : Hid (∀ v ∈ H1.T.map Prod.fst, I64 v ∧ ∃ q : Nat, tbF H1.T v = (q : Int) ∧ q < 4096 ∧ Cq.inW k H1.W q = true ∧ Pgs H1.T q) := fun v hv => HTW.out.of hv
              have hkl : (H1.T.map Prod.fst).length ≤ 512 := by have := HTW.out.ok.tp.few; have := AP.out.n1; rw [List.length_map]; omega
              have TB : Hid (Things W (wr.alloc (.cells #[.int .i64 kd, .int .i64 N, .bool true, .slice oad oW.length ocap] 34)) [Blk W.heap.size (.cells #[.int .i64 n, .int .i64 k, .slice adA A.length cA, .slice adB B.length cB] 26 (0, 0)), Anyt, Blk p (.cells (pairC a m h h' x y r r') 45 (0, 0)), S2 a m k (M) h' t' (H1) h t (H), D2 x y k (mN n) r (hN A) r' (hN B), Anyt, Blk p2 (.cells (pairC a2 m2 h2 h2' x2 y2 r2 r2') 45 (0, 0)), S2 a2 m2 k (M2) h2 t2 (H) h2' t2' (hN B), D2 x2 y2 k (mN n) r2 (hN A) r2' (hN B), Blk wr.heap.size (.cells #[.int .i64 kd, .int .i64 N, .bool true, .slice oad oW.length ocap] 34 (0, 0))]) := T0.out.blk _
              have TC : Hid (Things W ((wr.alloc (.cells #[.int .i64 kd, .int .i64 N, .bool true, .slice oad oW.length ocap] 34)).alloc (.map #[] 0)) [Blk W.heap.size (.cells #[.int .i64 n, .int .i64 k, .slice adA A.length cA, .slice adB B.length cB] 26 (0, 0)), Anyt, Blk p (.cells (pairC a m h h' x y r r') 45 (0, 0)), S2 a m k (M) h' t' (H1) h t (H), D2 x y k (mN n) r (hN A) r' (hN B), Anyt, Blk p2 (.cells (pairC a2 m2 h2 h2' x2 y2 r2 r2') 45 (0, 0)), S2 a2 m2 k (M2) h2 t2 (H) h2' t2' (hN B), D2 x2 y2 k (mN n) r2 (hN A) r2' (hN B), Blk wr.heap.size (.cells #[.int .i64 kd, .int .i64 N, .bool true, .slice oad oW.length ocap] 34 (0, 0)), Mp (wr.heap.size + 1) 0 []]) := by
                have := TB.out.set
                rw [World.size_alloc] at this
                exact this
              clear T T0 TB
              have pc3 : ((wr.alloc (.cells #[.int .i64 kd, .int .i64 N, .bool true, .slice oad oW.length ocap] 34)).alloc (.map #[] 0)).cell? ⟨p, 3, none⟩ = some (.pointer (some ⟨h', 0, none⟩)) := box_cell (TC.out.cells 2 rfl) 3 rfl
              have HTB := hid fun (w : World) (g : Things W w [Blk W.heap.size (.cells #[.int .i64 n, .int .i64 k, .slice adA A.length cA, .slice adB B.length cB] 26 (0, 0)), Anyt, Blk p (.cells (pairC a m h h' x y r r') 45 (0, 0)), S2 a m k (M) h' t' (H1) h t (H), D2 x y k (mN n) r (hN A) r' (hN B), Anyt, Blk p2 (.cells (pairC a2 m2 h2 h2' x2 y2 r2 r2') 45 (0, 0)), S2 a2 m2 k (M2) h2 t2 (H) h2' t2' (hN B), D2 x2 y2 k (mN n) r2 (hN A) r2' (hN B), Blk wr.heap.size (.cells #[.int .i64 kd, .int .i64 N, .bool true, .slice oad oW.length ocap] 34 (0, 0)), Mp (wr.heap.size + 1) 0 []]) => t_table g 3 rfl
              have HAL := hid fun (w : World) (g : Things W w [Blk W.heap.size (.cells #[.int .i64 n, .int .i64 k, .slice adA A.length cA, .slice adB B.length cB] 26 (0, 0)), Anyt, Blk p (.cells (pairC a m h h' x y r r') 45 (0, 0)), S2 a m k (M) h' t' (H1) h t (H), D2 x y k (mN n) r (hN A) r' (hN B), Anyt, Blk p2 (.cells (pairC a2 m2 h2 h2' x2 y2 r2 r2') 45 (0, 0)), S2 a2 m2 k (M2) h2 t2 (H) h2' t2' (hN B), D2 x2 y2 k (mN n) r2 (hN A) r2' (hN B), Blk wr.heap.size (.cells #[.int .i64 kd, .int .i64 N, .bool true, .slice oad oW.length ocap] 34 (0, 0)), Mp (wr.heap.size + 1) 0 []]) => t_all g 3 rfl HTW.out
              go_wp2_with fail
              refine (HTB.out _ TC.out).mono ?_
              rintro e v1 ⟨rfl, g1⟩
              have T1 := hid g1
              clear g1 TC HTB
              generalize wr.heap.size + 1 = Bm at *
              generalize wr.heap.size = Bo at *
              go_wp2_with fail
              refine (HAL.out _ T1.out).mono ?_
              rintro e v2 ⟨kad, kcap, rfl, g2⟩
              have T2 : Hid (Things W v2 [Blk W.heap.size (.cells #[.int .i64 n, .int .i64 k, .slice adA A.length cA, .slice adB B.length cB] 26 (0, 0)), Anyt, Blk p (.cells (pairC a m h h' x y r r') 45 (0, 0)), S2 a m k (M) h' t' (H1) h t (H), D2 x y k (mN n) r (hN A) r' (hN B), Anyt, Blk p2 (.cells (pairC a2 m2 h2 h2' x2 y2 r2 r2') 45 (0, 0)), S2 a2 m2 k (M2) h2 t2 (H) h2' t2' (hN B), D2 x2 y2 k (mN n) r2 (hN A) r2' (hN B), Blk Bo (.cells #[.int .i64 kd, .int .i64 N, .bool true, .slice oad oW.length ocap] 34 (0, 0)), Mp Bm 0 [], Lv kad (H1.T.map Prod.fst)]) := g2
              clear g2 T1 HAL pc3
              generalize hKL : H1.T.map Prod.fst = KL at *
              have HKLE := hid hKL
              clear hKL
              go_wp2
              go_loopw [87] (fun i wr => ∃ (z : Nat) (ml : List Int), z ≤ KL.length ∧ i = .int .i64 z ∧ Hid ((∀ u (hu : u < z) (hu2 : u < KL.length), tbF H1.T KL[u] ∈ ml) ∧ ∀ e ∈ ([] : List Int), e ∈ ml) ∧ Hid (Things W wr [Blk W.heap.size (.cells #[.int .i64 n, .int .i64 k, .slice adA A.length cA, .slice adB B.length cB] 26 (0, 0)), Anyt, Blk p (.cells (pairC a m h h' x y r r') 45 (0, 0)), S2 a m k (M) h' t' (H1) h t (H), D2 x y k (mN n) r (hN A) r' (hN B), Anyt, Blk p2 (.cells (pairC a2 m2 h2 h2' x2 y2 r2 r2') 45 (0, 0)), S2 a2 m2 k (M2) h2 t2 (H) h2' t2' (hN B), D2 x2 y2 k (mN n) r2 (hN A) r2' (hN B), Blk Bo (.cells #[.int .i64 kd, .int .i64 N, .bool true, .slice oad oW.length ocap] 34 (0, 0)), Mp Bm (0 + z) ml, Lv kad KL])) (fun i _ => KL.length - (intOf i).toNat)
              case atStart => exact ⟨0, ([] : List Int), by omega, rfl, ⟨fun u hu => by omega, fun e => id⟩, T2⟩
              case round =>
                clear T2
                obtain ⟨z, ml, hz, rfl, HM, T⟩ := hrel
                by_cases hlt : z < KL.length
                · as_aux_lemma =>
                    obtain ⟨kb, koff, rfl, hkb, hkc⟩ := T.out.nums 11 rfl z hlt
                    obtain ⟨hv, q, hq1, hq2, _, _⟩ := HKV.out KL[z] (List.getElem_mem hlt)
                    have HM2 : Hid ((∀ u (hu : u < z + 1) (hu2 : u < KL.length), tbF H1.T KL[u] ∈ (q : Int) :: ml) ∧ ∀ e ∈ ([] : List Int), e ∈ (q : Int) :: ml) := by
                      refine ⟨fun u hu hu2 => ?_, fun e he => List.mem_cons_of_mem _ (HM.out.2 e he)⟩
                      by_cases e : u = z
                      · subst e; rw [hq1]; exact List.mem_cons_self ..
                      · exact List.mem_cons_of_mem _ (HM.out.1 u (by omega) hu2)
                    have HTB := hid fun (w : World) (g : Things W w [Blk W.heap.size (.cells #[.int .i64 n, .int .i64 k, .slice adA A.length cA, .slice adB B.length cB] 26 (0, 0)), Anyt, Blk p (.cells (pairC a m h h' x y r r') 45 (0, 0)), S2 a m k (M) h' t' (H1) h t (H), D2 x y k (mN n) r (hN A) r' (hN B), Anyt, Blk p2 (.cells (pairC a2 m2 h2 h2' x2 y2 r2 r2') 45 (0, 0)), S2 a2 m2 k (M2) h2 t2 (H) h2' t2' (hN B), D2 x2 y2 k (mN n) r2 (hN A) r2' (hN B), Blk Bo (.cells #[.int .i64 kd, .int .i64 N, .bool true, .slice oad oW.length ocap] 34 (0, 0)), Mp Bm (0 + z) ml, Lv (some ⟨kb, koff, none⟩) KL]) => t_table g 3 rfl
                    have HFI := hid fun (w : World) (g : Things W w [Blk W.heap.size (.cells #[.int .i64 n, .int .i64 k, .slice adA A.length cA, .slice adB B.length cB] 26 (0, 0)), Anyt, Blk p (.cells (pairC a m h h' x y r r') 45 (0, 0)), S2 a m k (M) h' t' (H1) h t (H), D2 x y k (mN n) r (hN A) r' (hN B), Anyt, Blk p2 (.cells (pairC a2 m2 h2 h2' x2 y2 r2 r2') 45 (0, 0)), S2 a2 m2 k (M2) h2 t2 (H) h2' t2' (hN B), D2 x2 y2 k (mN n) r2 (hN A) r2' (hN B), Blk Bo (.cells #[.int .i64 kd, .int .i64 N, .bool true, .slice oad oW.length ocap] 34 (0, 0)), Mp Bm (0 + z) ml, Lv (some ⟨kb, koff, none⟩) KL]) => t_find g 3 rfl HTW.out hv
                    rw [hq1] at HFI
                    have HUP : Hid (∀ w1, Things W w1 [Blk W.heap.size (.cells #[.int .i64 n, .int .i64 k, .slice adA A.length cA, .slice adB B.length cB] 26 (0, 0)), Anyt, Blk p (.cells (pairC a m h h' x y r r') 45 (0, 0)), S2 a m k (M) h' t' (H1) h t (H), D2 x y k (mN n) r (hN A) r' (hN B), Anyt, Blk p2 (.cells (pairC a2 m2 h2 h2' x2 y2 r2 r2') 45 (0, 0)), S2 a2 m2 k (M2) h2 t2 (H) h2' t2' (hN B), D2 x2 y2 k (mN n) r2 (hN A) r2' (hN B), Blk Bo (.cells #[.int .i64 kd, .int .i64 N, .bool true, .slice oad oW.length ocap] 34 (0, 0)), Mp Bm (0 + z) ml, Lv (some ⟨kb, koff, none⟩) KL] → ∃ w', (Instr.mapUpdate 79 (.map (some Bm)) (.int .i64 (q : Int)) (.bool true)).run Tryz.prog w1 = .ok () w' ∧ Things W w' [Blk W.heap.size (.cells #[.int .i64 n, .int .i64 k, .slice adA A.length cA, .slice adB B.length cB] 26 (0, 0)), Anyt, Blk p (.cells (pairC a m h h' x y r r') 45 (0, 0)), S2 a m k (M) h' t' (H1) h t (H), D2 x y k (mN n) r (hN A) r' (hN B), Anyt, Blk p2 (.cells (pairC a2 m2 h2 h2' x2 y2 r2 r2') 45 (0, 0)), S2 a2 m2 k (M2) h2 t2 (H) h2' t2' (hN B), D2 x2 y2 k (mN n) r2 (hN A) r2' (hN B), Blk Bo (.cells #[.int .i64 kd, .int .i64 N, .bool true, .slice oad oW.length ocap] 34 (0, 0)), Mp Bm (0 + (z + 1)) ((q : Int) :: ml), Lv (some ⟨kb, koff, none⟩) KL]) := fun w1 g => Things.store g 10 rfl (by unfold maxLen; omega) (wf_small (by omega) (by omega))
                    have pc3 : wr.cell? ⟨p, 3, none⟩ = some (.pointer (some ⟨h', 0, none⟩)) := box_cell (T.out.cells 2 rfl) 3 rfl
                    clear HM hv hq1
                    generalize KL[z] = vz at *
                    generalize (q : Int) = qi at *
                    go_wp2_with fail
                    refine (HTB.out _ T.out).mono ?_
                    rintro e u1 ⟨rfl, g1⟩
                    have U1 := hid g1
                    clear g1 T HTB
                    go_wp2_with fail
                    refine (HFI.out _ U1.out).mono ?_
                    rintro e u2 ⟨rfl, g2⟩
                    obtain ⟨u3, hru, g3⟩ := HUP.out _ g2
                    have U3 := hid g3
                    clear g2 g3 U1 HFI HUP
                    go_wp2
                    go_roundw
                    case rel => exact ⟨z + 1, _, by omega, by go_num, HM2, U3⟩
                    case measure => simp [intOf]; omega
                · obtain rfl : KL.length = z := by omega
                  as_aux_lemma =>
                    have HMM : Hid (∀ v ∈ KL, tbF H1.T v ∈ ml) := fun v hv => by
                      obtain ⟨u, hu, rfl⟩ := List.mem_iff_getElem.1 hv
                      exact HM.out.1 u hu hu
                    have T3 : Hid (Things W wr [Blk W.heap.size (.cells #[.int .i64 n, .int .i64 k, .slice adA A.length cA, .slice adB B.length cB] 26 (0, 0)), Anyt, Blk p (.cells (pairC a m h h' x y r r') 45 (0, 0)), S2 a m k (M) h' t' (H1) h t (H), D2 x y k (mN n) r (hN A) r' (hN B), Anyt, Blk p2 (.cells (pairC a2 m2 h2 h2' x2 y2 r2 r2') 45 (0, 0)), S2 a2 m2 k (M2) h2 t2 (H) h2' t2' (hN B), D2 x2 y2 k (mN n) r2 (hN A) r2' (hN B), Blk Bo (.cells #[.int .i64 kd, .int .i64 N, .bool true, .slice oad oW.length ocap] 34 (0, 0)), Mp Bm (0 + KL.length) ml]) := Things.less (ts := [Blk W.heap.size (.cells #[.int .i64 n, .int .i64 k, .slice adA A.length cA, .slice adB B.length cB] 26 (0, 0)), Anyt, Blk p (.cells (pairC a m h h' x y r r') 45 (0, 0)), S2 a m k (M) h' t' (H1) h t (H), D2 x y k (mN n) r (hN A) r' (hN B), Anyt, Blk p2 (.cells (pairC a2 m2 h2 h2' x2 y2 r2 r2') 45 (0, 0)), S2 a2 m2 k (M2) h2 t2 (H) h2' t2' (hN B), D2 x2 y2 k (mN n) r2 (hN A) r2' (hN B), Blk Bo (.cells #[.int .i64 kd, .int .i64 N, .bool true, .slice oad oW.length ocap] 34 (0, 0)), Mp Bm (0 + KL.length) ml]) T.out
                    clear T HM
                    obtain ⟨nn, hnn⟩ : ∃ nn, nn = 0 + KL.length := ⟨_, rfl⟩
                    rw [← hnn] at T3
                    have hnn2 : nn ≤ 512 := by omega
                    clear hnn
                    have pa0 : wr.cell? ⟨p, 0, none⟩ = some (.pointer (some ⟨a, 0, none⟩)) := box_cell (T3.out.cells 2 rfl) 0 rfl
                    have HFG := hid fun (w : World) (g : Things W w [Blk W.heap.size (.cells #[.int .i64 n, .int .i64 k, .slice adA A.length cA, .slice adB B.length cB] 26 (0, 0)), Anyt, Blk p (.cells (pairC a m h h' x y r r') 45 (0, 0)), S2 a m k (M) h' t' (H1) h t (H), D2 x y k (mN n) r (hN A) r' (hN B), Anyt, Blk p2 (.cells (pairC a2 m2 h2 h2' x2 y2 r2 r2') 45 (0, 0)), S2 a2 m2 k (M2) h2 t2 (H) h2' t2' (hN B), D2 x2 y2 k (mN n) r2 (hN A) r2' (hN B), Blk Bo (.cells #[.int .i64 kd, .int .i64 N, .bool true, .slice oad oW.length ocap] 34 (0, 0)), Mp Bm nn ml]) => t_forget g 3 rfl
                    go_wp2_with fail
                    refine (HFG.out _ T3.out).mono ?_
                    rintro e v4 ⟨rfl, g4⟩
                    have T4 : Hid (Things W v4 [Blk W.heap.size (.cells #[.int .i64 n, .int .i64 k, .slice adA A.length cA, .slice adB B.length cB] 26 (0, 0)), Anyt, Blk p (.cells (pairC a m h h' x y r r') 45 (0, 0)), S2 a m k (⟨M.has, M.bs, []⟩) h' t' (H1) h t (H), D2 x y k (mN n) r (hN A) r' (hN B), Anyt, Blk p2 (.cells (pairC a2 m2 h2 h2' x2 y2 r2 r2') 45 (0, 0)), S2 a2 m2 k (M2) h2 t2 (H) h2' t2' (hN B), D2 x2 y2 k (mN n) r2 (hN A) r2' (hN B), Blk Bo (.cells #[.int .i64 kd, .int .i64 N, .bool true, .slice oad oW.length ocap] 34 (0, 0)), Mp Bm nn ml]) := g4
                    have AF := hid AP.out.forget
                    have HTF : Hid (Two k 0 ⟨M.has, M.bs, []⟩ H1 H) := AF.out.tw.swap
                    clear g4 T3 HFG pa0 HTW
                    have pc3 : v4.cell? ⟨p, 3, none⟩ = some (.pointer (some ⟨h', 0, none⟩)) := box_cell (T4.out.cells 2 rfl) 3 rfl
                    have ob0 : v4.cell? ⟨Bo, 0, none⟩ = some (.int .i64 kd) := box_cell (T4.out.cells 9 rfl) 0 rfl
                    have ob1 : v4.cell? ⟨Bo, 1, none⟩ = some (.int .i64 N) := box_cell (T4.out.cells 9 rfl) 1 rfl
                    have HBL := hid fun (w : World) (g : Things W w [Blk W.heap.size (.cells #[.int .i64 n, .int .i64 k, .slice adA A.length cA, .slice adB B.length cB] 26 (0, 0)), Anyt, Blk p (.cells (pairC a m h h' x y r r') 45 (0, 0)), S2 a m k (⟨M.has, M.bs, []⟩) h' t' (H1) h t (H), D2 x y k (mN n) r (hN A) r' (hN B), Anyt, Blk p2 (.cells (pairC a2 m2 h2 h2' x2 y2 r2 r2') 45 (0, 0)), S2 a2 m2 k (M2) h2 t2 (H) h2' t2' (hN B), D2 x2 y2 k (mN n) r2 (hN A) r2' (hN B), Blk Bo (.cells #[.int .i64 kd, .int .i64 N, .bool true, .slice oad oW.length ocap] 34 (0, 0)), Mp Bm nn ml]) => t_blocks g GR.out 3 rfl HTF.out (by omega)
                    go_wp2_with fail
                    refine (HBL.out _ T4.out).mono ?_
                    rintro e v5 ⟨lad, lcap, rfl, g5⟩
                    have T5 : Hid (Things W v5 [Blk W.heap.size (.cells #[.int .i64 n, .int .i64 k, .slice adA A.length cA, .slice adB B.length cB] 26 (0, 0)), Anyt, Blk p (.cells (pairC a m h h' x y r r') 45 (0, 0)), S2 a m k (⟨M.has, M.bs, []⟩) h' t' (H1) h t (H), D2 x y k (mN n) r (hN A) r' (hN B), Anyt, Blk p2 (.cells (pairC a2 m2 h2 h2' x2 y2 r2 r2') 45 (0, 0)), S2 a2 m2 k (M2) h2 t2 (H) h2' t2' (hN B), D2 x2 y2 k (mN n) r2 (hN A) r2' (hN B), Blk Bo (.cells #[.int .i64 kd, .int .i64 N, .bool true, .slice oad oW.length ocap] 34 (0, 0)), Mp Bm nn ml, Lv lad (hBl H1.L)]) := g5
                    have HMB := hid fun (z : Int) (hz : z ∈ hBl H1.L) => (mem_hBl HTF.out.ok.nd HTF.out.ok.at_).1 hz
                    have HTH := hid fun (c s j : Nat) (hb : HadB H1.L c s j) => hb.there HTF.out.ok
                    have hbl := hBl_len H1.L
                    clear g5 T4 HBL pc3 ob0 ob1
                    have ob0 : v5.cell? ⟨Bo, 0, none⟩ = some (.int .i64 kd) := box_cell (T5.out.cells 9 rfl) 0 rfl
                    have ob1 : v5.cell? ⟨Bo, 1, none⟩ = some (.int .i64 N) := box_cell (T5.out.cells 9 rfl) 1 rfl
                    generalize hbl0 : (hBl H1.L).length = bl at *
                    have HBE := hid hbl0
                    clear hbl0
                    go_upto_region 30 with fail
                    go_cut [123] (fun bv wx => ∃ b : Bool, bv = .bool b ∧ wx = v5 ∧ Hid (b = true → kd = 3 ∧ 0 < bl))
                    case first =>
                      by_cases hk3 : kd = 3
                      · have hkd3 : (kd == 3) = true := by simp [hk3]
                        have HR : Hid (decide (0 < bl) = true → kd = 3 ∧ 0 < bl) := fun e => ⟨hk3, of_decide_eq_true e⟩
                        clear hk3 HBE T5 HMB HTH hbl
                        go_wp2_with fail
                        go_meet
                        exact ⟨_, rfl, rfl, HR⟩
                      · have hkd3 : (kd == 3) = false := by simp [hk3]
                        clear hk3 HBE T5 HMB HTH hbl
                        go_wp2_with fail
                        go_meet
                        exact ⟨false, rfl, rfl, fun e => by cases e⟩
                    case rest =>
                    obtain ⟨b, rfl, hwx, HR⟩ := hcut
                    subst hwx
                    go_upto_if 123 with fail
                    go_cut [17] (fun nv wx => ∃ N' : Int, nv = .int .i64 N' ∧ Hid (I64 N') ∧ Hid (Things W wx [Blk W.heap.size (.cells #[.int .i64 n, .int .i64 k, .slice adA A.length cA, .slice adB B.length cB] 26 (0, 0)), Anyt, Blk p (.cells (pairC a m h h' x y r r') 45 (0, 0)), S2 a m k (⟨M.has, M.bs, []⟩) h' t' (H1) h t (H), D2 x y k (mN n) r (hN A) r' (hN B), Anyt, Blk p2 (.cells (pairC a2 m2 h2 h2' x2 y2 r2 r2') 45 (0, 0)), S2 a2 m2 k (M2) h2 t2 (H) h2' t2' (hN B), D2 x2 y2 k (mN n) r2 (hN A) r2' (hN B), Blk Bo (.cells #[.int .i64 kd, .int .i64 N, .bool true, .slice oad oW.length ocap] 34 (0, 0)), Mp Bm nn ml]))
                    case first =>
                      have T6 : Hid (Things W _ [Blk W.heap.size (.cells #[.int .i64 n, .int .i64 k, .slice adA A.length cA, .slice adB B.length cB] 26 (0, 0)), Anyt, Blk p (.cells (pairC a m h h' x y r r') 45 (0, 0)), S2 a m k (⟨M.has, M.bs, []⟩) h' t' (H1) h t (H), D2 x y k (mN n) r (hN A) r' (hN B), Anyt, Blk p2 (.cells (pairC a2 m2 h2 h2' x2 y2 r2 r2') 45 (0, 0)), S2 a2 m2 k (M2) h2 t2 (H) h2' t2' (hN B), D2 x2 y2 k (mN n) r2 (hN A) r2' (hN B), Blk Bo (.cells #[.int .i64 kd, .int .i64 N, .bool true, .slice oad oW.length ocap] 34 (0, 0)), Mp Bm nn ml]) := Things.less (ts := [Blk W.heap.size (.cells #[.int .i64 n, .int .i64 k, .slice adA A.length cA, .slice adB B.length cB] 26 (0, 0)), Anyt, Blk p (.cells (pairC a m h h' x y r r') 45 (0, 0)), S2 a m k (⟨M.has, M.bs, []⟩) h' t' (H1) h t (H), D2 x y k (mN n) r (hN A) r' (hN B), Anyt, Blk p2 (.cells (pairC a2 m2 h2 h2' x2 y2 r2 r2') 45 (0, 0)), S2 a2 m2 k (M2) h2 t2 (H) h2' t2' (hN B), D2 x2 y2 k (mN n) r2 (hN A) r2' (hN B), Blk Bo (.cells #[.int .i64 kd, .int .i64 N, .bool true, .slice oad oW.length ocap] 34 (0, 0)), Mp Bm nn ml]) T5.out
                      cases b with
                      | false =>
                        clear T5 HMB HTH hbl HR HBE
                        go_wp2_with fail
                        go_meet
                        exact ⟨_, rfl, i2, T6⟩
                      | true =>
                        obtain ⟨hk3, h0⟩ := HR.out rfl
                        obtain ⟨ix, hix, hixl⟩ := modu N bl _ rfl h0 hbl
                        have hix2 : ix < (hBl H1.L).length := by rw [HBE.out]; exact hixl
                        obtain ⟨lb0, loff, rfl, hlb, hlc⟩ := (T5.out.nums 11 rfl) ix hix2
                        obtain ⟨cc, ss, jj, hhad, hat⟩ := HMB.out (hBl H1.L)[ix] (List.getElem_mem hix2)
                        rw [hat] at hlc
                        obtain ⟨hpt, hcc, hss⟩ := HTH.out _ _ _ hhad
                        have hi64 : Hid (I64 (adI cc ss jj)) := by have := hpt.inside; have := unitI_range cc (by omega) (by omega); exact ⟨by omega, by omega⟩
                        have h0i : (0 : Int) < (bl : Int) := by omega
                        clear T5 HMB HTH hat hpt hhad HR HBE hcc hss hk3 hix2
                        generalize adI cc ss jj = za at *
                        go_wp2_with fail
                        go_meet
                        exact ⟨_, rfl, hi64, T6⟩
                    case rest =>
                      clear T5 HMB HTH hbl ob0 ob1 HR HBE
                      obtain ⟨N', rfl, hN', T6⟩ := hcut
                      as_aux_lemma =>
                        obtain ⟨cc, ss, jj, EE, hfr⟩ := findR_some N'
                        have HCA := hid fun (w : World) (g : Things W w [Blk W.heap.size (.cells #[.int .i64 n, .int .i64 k, .slice adA A.length cA, .slice adB B.length cB] 26 (0, 0)), Anyt, Blk p (.cells (pairC a m h h' x y r r') 45 (0, 0)), S2 a m k (⟨M.has, M.bs, []⟩) h' t' (H1) h t (H), D2 x y k (mN n) r (hN A) r' (hN B), Anyt, Blk p2 (.cells (pairC a2 m2 h2 h2' x2 y2 r2 r2') 45 (0, 0)), S2 a2 m2 k (M2) h2 t2 (H) h2' t2' (hN B), D2 x2 y2 k (mN n) r2 (hN A) r2' (hN B), Blk Bo (.cells #[.int .i64 kd, .int .i64 N, .bool true, .slice oad oW.length ocap] 34 (0, 0)), Mp Bm nn ml]) => t_call g GR.out 3 rfl HTF.out (by omega) (kd := kd) hN'.out hfr
                        have AQ : Hid (Apr n k (0 + 18 + n) (600 * j) (hCa k ⟨M.has, M.bs, []⟩ H1 kd N' cc ss jj EE).1 H (hCa k ⟨M.has, M.bs, []⟩ H1 kd N' cc ss jj EE).2.1 M2 (hN B) A B) := AF.out.two kd N' cc ss jj EE
                        have HTO : Hid (∀ sp ∈ (hCa k ⟨M.has, M.bs, []⟩ H1 kd N' cc ss jj EE).1.ss, InP H1.T sp) := fun sp hsp => (hCa_touch (fun _ => id) HTF.out.ok HTF.out.ms kd N' cc ss jj EE sp hsp).resolve_left (by simp)
                        have HTP : Hid (TpOk (fun q => Cq.inW k H1.W q = true) M.has H1.T ∧ M.has.length ≤ 512) := ⟨HTF.out.ok.tp, by have := AP.out.n1; omega⟩
                        clear hN' hfr AF HTF AP
                        generalize hCa k ⟨M.has, M.bs, []⟩ H1 kd N' cc ss jj EE = rr at *
                        obtain ⟨Mc, Hn, av, ev⟩ := rr
                        simp only at *
                        have TD := hid (T6.out.kept (Fr.refl _ _).drew)
                        have pd3 : wc.drew.cell? ⟨p, 3, none⟩ = some (.pointer (some ⟨h', 0, none⟩)) := box_cell (TD.out.cells 2 rfl) 3 rfl
                        have od0 : wc.drew.cell? ⟨Bo, 0, none⟩ = some (.int .i64 kd) := box_cell (TD.out.cells 9 rfl) 0 rfl
                        clear T6
                        go_wp2_with fail
                        go_region_held3 (fun w' => w'.cell? ⟨p, 3, none⟩ = some (.pointer (some ⟨h', 0, none⟩)) ∧ w'.cell? ⟨Bo, 0, none⟩ = some (.int .i64 kd)) (first | exact ⟨by assumption, by assumption⟩ | go_keep) (first | (go_at_call 37; refine (HCA.out _ TD.out).mono ?_; rintro e v7 ⟨rfl, g7⟩; have T7 : Hid (Things W v7 [Blk W.heap.size (.cells #[.int .i64 n, .int .i64 k, .slice adA A.length cA, .slice adB B.length cB] 26 (0, 0)), Anyt, Blk p (.cells (pairC a m h h' x y r r') 45 (0, 0)), S2 a m k (Mc) h' t' (Hn) h t (H), D2 x y k (mN n) r (hN A) r' (hN B), Anyt, Blk p2 (.cells (pairC a2 m2 h2 h2' x2 y2 r2 r2') 45 (0, 0)), S2 a2 m2 k (M2) h2 t2 (H) h2' t2' (hN B), D2 x2 y2 k (mN n) r2 (hN A) r2' (hN B), Blk Bo (.cells #[.int .i64 kd, .int .i64 N, .bool true, .slice oad oW.length ocap] 34 (0, 0)), Mp Bm nn ml]) := g7; clear g7; have pe3 : v7.cell? ⟨p, 3, none⟩ = some (.pointer (some ⟨h', 0, none⟩)) := box_cell (T7.out.cells 2 rfl) 3 rfl; have oe0 : v7.cell? ⟨Bo, 0, none⟩ = some (.int .i64 kd) := box_cell (T7.out.cells 9 rfl) 0 rfl))
                        clear TD HCA oe0
                        have HTN : Hid (Two k 600 Mc Hn H) := AQ.out.tw.swap.less (by omega)
                        have HKN : Hid (∀ v ∈ Hn.T.map Prod.fst, I64 v ∧ ∃ q : Nat, tbF Hn.T v = (q : Int) ∧ q < 4096 ∧ Cq.inW k Hn.W q = true ∧ Pgs Hn.T q) := fun v hv => HTN.out.of hv
                        have hkn : (Hn.T.map Prod.fst).length ≤ 512 := by have := HTN.out.ok.tp.few; have := AQ.out.n1; rw [List.length_map]; omega
                        have HTB := hid fun (w : World) (g : Things W w [Blk W.heap.size (.cells #[.int .i64 n, .int .i64 k, .slice adA A.length cA, .slice adB B.length cB] 26 (0, 0)), Anyt, Blk p (.cells (pairC a m h h' x y r r') 45 (0, 0)), S2 a m k (Mc) h' t' (Hn) h t (H), D2 x y k (mN n) r (hN A) r' (hN B), Anyt, Blk p2 (.cells (pairC a2 m2 h2 h2' x2 y2 r2 r2') 45 (0, 0)), S2 a2 m2 k (M2) h2 t2 (H) h2' t2' (hN B), D2 x2 y2 k (mN n) r2 (hN A) r2' (hN B), Blk Bo (.cells #[.int .i64 kd, .int .i64 N, .bool true, .slice oad oW.length ocap] 34 (0, 0)), Mp Bm nn ml]) => t_table g 3 rfl
                        have HAL := hid fun (w : World) (g : Things W w [Blk W.heap.size (.cells #[.int .i64 n, .int .i64 k, .slice adA A.length cA, .slice adB B.length cB] 26 (0, 0)), Anyt, Blk p (.cells (pairC a m h h' x y r r') 45 (0, 0)), S2 a m k (Mc) h' t' (Hn) h t (H), D2 x y k (mN n) r (hN A) r' (hN B), Anyt, Blk p2 (.cells (pairC a2 m2 h2 h2' x2 y2 r2 r2') 45 (0, 0)), S2 a2 m2 k (M2) h2 t2 (H) h2' t2' (hN B), D2 x2 y2 k (mN n) r2 (hN A) r2' (hN B), Blk Bo (.cells #[.int .i64 kd, .int .i64 N, .bool true, .slice oad oW.length ocap] 34 (0, 0)), Mp Bm nn ml]) => t_all g 3 rfl HTN.out
                        go_wp2_with fail
                        refine (HTB.out _ T7.out).mono ?_
                        rintro e v8 ⟨rfl, g8⟩
                        have T8 := hid g8
                        clear g8 T7 HTB pe3
                        go_wp2_with fail
                        refine (HAL.out _ T8.out).mono ?_
                        rintro e v9 ⟨kad2, kcap2, rfl, g9⟩
                        have T9 : Hid (Things W v9 [Blk W.heap.size (.cells #[.int .i64 n, .int .i64 k, .slice adA A.length cA, .slice adB B.length cB] 26 (0, 0)), Anyt, Blk p (.cells (pairC a m h h' x y r r') 45 (0, 0)), S2 a m k (Mc) h' t' (Hn) h t (H), D2 x y k (mN n) r (hN A) r' (hN B), Anyt, Blk p2 (.cells (pairC a2 m2 h2 h2' x2 y2 r2 r2') 45 (0, 0)), S2 a2 m2 k (M2) h2 t2 (H) h2' t2' (hN B), D2 x2 y2 k (mN n) r2 (hN A) r2' (hN B), Blk Bo (.cells #[.int .i64 kd, .int .i64 N, .bool true, .slice oad oW.length ocap] 34 (0, 0)), Mp Bm nn ml, Lv kad2 (Hn.T.map Prod.fst)]) := g9
                        clear g9 T8 HAL
                        generalize Hn.T.map Prod.fst = KN at *
                        go_wp2
                        go_loopw [157] (fun i wr => ∃ (z : Nat) (ml2 : List Int), z ≤ KN.length ∧ i = .int .i64 z ∧ Hid ((∀ u (hu : u < z) (hu2 : u < KN.length), tbF Hn.T KN[u] ∈ ml2) ∧ ∀ e ∈ ml, e ∈ ml2) ∧ Hid (Things W wr [Blk W.heap.size (.cells #[.int .i64 n, .int .i64 k, .slice adA A.length cA, .slice adB B.length cB] 26 (0, 0)), Anyt, Blk p (.cells (pairC a m h h' x y r r') 45 (0, 0)), S2 a m k (Mc) h' t' (Hn) h t (H), D2 x y k (mN n) r (hN A) r' (hN B), Anyt, Blk p2 (.cells (pairC a2 m2 h2 h2' x2 y2 r2 r2') 45 (0, 0)), S2 a2 m2 k (M2) h2 t2 (H) h2' t2' (hN B), D2 x2 y2 k (mN n) r2 (hN A) r2' (hN B), Blk Bo (.cells #[.int .i64 kd, .int .i64 N, .bool true, .slice oad oW.length ocap] 34 (0, 0)), Mp Bm (nn + z) ml2, Lv kad2 KN])) (fun i _ => KN.length - (intOf i).toNat)
                        case atStart => exact ⟨0, ml, by omega, rfl, ⟨fun u hu => by omega, fun e => id⟩, T9⟩
                        case round =>
                          clear T9
                          obtain ⟨z, ml2, hz, rfl, HM, T⟩ := hrel
                          by_cases hlt : z < KN.length
                          · as_aux_lemma =>
                              obtain ⟨kb, koff, rfl, hkb, hkc⟩ := T.out.nums 11 rfl z hlt
                              obtain ⟨hv, q, hq1, hq2, _, _⟩ := HKN.out KN[z] (List.getElem_mem hlt)
                              have HM2 : Hid ((∀ u (hu : u < z + 1) (hu2 : u < KN.length), tbF Hn.T KN[u] ∈ (q : Int) :: ml2) ∧ ∀ e ∈ ml, e ∈ (q : Int) :: ml2) := by
                                refine ⟨fun u hu hu2 => ?_, fun e he => List.mem_cons_of_mem _ (HM.out.2 e he)⟩
                                by_cases e : u = z
                                · subst e; rw [hq1]; exact List.mem_cons_self ..
                                · exact List.mem_cons_of_mem _ (HM.out.1 u (by omega) hu2)
                              have HTB := hid fun (w : World) (g : Things W w [Blk W.heap.size (.cells #[.int .i64 n, .int .i64 k, .slice adA A.length cA, .slice adB B.length cB] 26 (0, 0)), Anyt, Blk p (.cells (pairC a m h h' x y r r') 45 (0, 0)), S2 a m k (Mc) h' t' (Hn) h t (H), D2 x y k (mN n) r (hN A) r' (hN B), Anyt, Blk p2 (.cells (pairC a2 m2 h2 h2' x2 y2 r2 r2') 45 (0, 0)), S2 a2 m2 k (M2) h2 t2 (H) h2' t2' (hN B), D2 x2 y2 k (mN n) r2 (hN A) r2' (hN B), Blk Bo (.cells #[.int .i64 kd, .int .i64 N, .bool true, .slice oad oW.length ocap] 34 (0, 0)), Mp Bm (nn + z) ml2, Lv (some ⟨kb, koff, none⟩) KN]) => t_table g 3 rfl
                              have HFI := hid fun (w : World) (g : Things W w [Blk W.heap.size (.cells #[.int .i64 n, .int .i64 k, .slice adA A.length cA, .slice adB B.length cB] 26 (0, 0)), Anyt, Blk p (.cells (pairC a m h h' x y r r') 45 (0, 0)), S2 a m k (Mc) h' t' (Hn) h t (H), D2 x y k (mN n) r (hN A) r' (hN B), Anyt, Blk p2 (.cells (pairC a2 m2 h2 h2' x2 y2 r2 r2') 45 (0, 0)), S2 a2 m2 k (M2) h2 t2 (H) h2' t2' (hN B), D2 x2 y2 k (mN n) r2 (hN A) r2' (hN B), Blk Bo (.cells #[.int .i64 kd, .int .i64 N, .bool true, .slice oad oW.length ocap] 34 (0, 0)), Mp Bm (nn + z) ml2, Lv (some ⟨kb, koff, none⟩) KN]) => t_find g 3 rfl HTN.out hv
                              rw [hq1] at HFI
                              have HUP : Hid (∀ w1, Things W w1 [Blk W.heap.size (.cells #[.int .i64 n, .int .i64 k, .slice adA A.length cA, .slice adB B.length cB] 26 (0, 0)), Anyt, Blk p (.cells (pairC a m h h' x y r r') 45 (0, 0)), S2 a m k (Mc) h' t' (Hn) h t (H), D2 x y k (mN n) r (hN A) r' (hN B), Anyt, Blk p2 (.cells (pairC a2 m2 h2 h2' x2 y2 r2 r2') 45 (0, 0)), S2 a2 m2 k (M2) h2 t2 (H) h2' t2' (hN B), D2 x2 y2 k (mN n) r2 (hN A) r2' (hN B), Blk Bo (.cells #[.int .i64 kd, .int .i64 N, .bool true, .slice oad oW.length ocap] 34 (0, 0)), Mp Bm (nn + z) ml2, Lv (some ⟨kb, koff, none⟩) KN] → ∃ w', (Instr.mapUpdate 79 (.map (some Bm)) (.int .i64 (q : Int)) (.bool true)).run Tryz.prog w1 = .ok () w' ∧ Things W w' [Blk W.heap.size (.cells #[.int .i64 n, .int .i64 k, .slice adA A.length cA, .slice adB B.length cB] 26 (0, 0)), Anyt, Blk p (.cells (pairC a m h h' x y r r') 45 (0, 0)), S2 a m k (Mc) h' t' (Hn) h t (H), D2 x y k (mN n) r (hN A) r' (hN B), Anyt, Blk p2 (.cells (pairC a2 m2 h2 h2' x2 y2 r2 r2') 45 (0, 0)), S2 a2 m2 k (M2) h2 t2 (H) h2' t2' (hN B), D2 x2 y2 k (mN n) r2 (hN A) r2' (hN B), Blk Bo (.cells #[.int .i64 kd, .int .i64 N, .bool true, .slice oad oW.length ocap] 34 (0, 0)), Mp Bm (nn + (z + 1)) ((q : Int) :: ml2), Lv (some ⟨kb, koff, none⟩) KN]) := fun w1 g => Things.store g 10 rfl (by unfold maxLen; omega) (wf_small (by omega) (by omega))
                              have pc3 : wr.cell? ⟨p, 3, none⟩ = some (.pointer (some ⟨h', 0, none⟩)) := box_cell (T.out.cells 2 rfl) 3 rfl
                              clear HM hv hq1
                              generalize KN[z] = vz at *
                              generalize (q : Int) = qi at *
                              go_wp2_with fail
                              refine (HTB.out _ T.out).mono ?_
                              rintro e u1 ⟨rfl, g1⟩
                              have U1 := hid g1
                              clear g1 T HTB
                              go_wp2_with fail
                              refine (HFI.out _ U1.out).mono ?_
                              rintro e u2 ⟨rfl, g2⟩
                              obtain ⟨u3, hru, g3⟩ := HUP.out _ g2
                              have U3 := hid g3
                              clear g2 g3 U1 HFI HUP
                              go_wp2
                              go_roundw
                              case rel => exact ⟨z + 1, _, by omega, by go_num, HM2, U3⟩
                              case measure => simp [intOf]; omega
                          · obtain rfl : KN.length = z := by omega
                            as_aux_lemma =>
                              have HMN : Hid (∀ v ∈ KL, tbF H1.T v ∈ ml2) := fun v hv => HM.out.2 _ (HMM.out v hv)
                              have T10 : Hid (Things W wr [Blk W.heap.size (.cells #[.int .i64 n, .int .i64 k, .slice adA A.length cA, .slice adB B.length cB] 26 (0, 0)), Anyt, Blk p (.cells (pairC a m h h' x y r r') 45 (0, 0)), S2 a m k (Mc) h' t' (Hn) h t (H), D2 x y k (mN n) r (hN A) r' (hN B), Anyt, Blk p2 (.cells (pairC a2 m2 h2 h2' x2 y2 r2 r2') 45 (0, 0)), S2 a2 m2 k (M2) h2 t2 (H) h2' t2' (hN B), D2 x2 y2 k (mN n) r2 (hN A) r2' (hN B), Blk Bo (.cells #[.int .i64 kd, .int .i64 N, .bool true, .slice oad oW.length ocap] 34 (0, 0)), Mp Bm (nn + KN.length) ml2]) := Things.less (ts := [Blk W.heap.size (.cells #[.int .i64 n, .int .i64 k, .slice adA A.length cA, .slice adB B.length cB] 26 (0, 0)), Anyt, Blk p (.cells (pairC a m h h' x y r r') 45 (0, 0)), S2 a m k (Mc) h' t' (Hn) h t (H), D2 x y k (mN n) r (hN A) r' (hN B), Anyt, Blk p2 (.cells (pairC a2 m2 h2 h2' x2 y2 r2 r2') 45 (0, 0)), S2 a2 m2 k (M2) h2 t2 (H) h2' t2' (hN B), D2 x2 y2 k (mN n) r2 (hN A) r2' (hN B), Blk Bo (.cells #[.int .i64 kd, .int .i64 N, .bool true, .slice oad oW.length ocap] 34 (0, 0)), Mp Bm (nn + KN.length) ml2]) T.out
                              clear T HM HMM
                              have hss : Mc.ss.length ≤ 1000002 := by have := HTN.out.ss; omega
                              have HTC := hid fun (w : World) (g : Things W w [Blk W.heap.size (.cells #[.int .i64 n, .int .i64 k, .slice adA A.length cA, .slice adB B.length cB] 26 (0, 0)), Anyt, Blk p (.cells (pairC a m h h' x y r r') 45 (0, 0)), S2 a m k (Mc) h' t' (Hn) h t (H), D2 x y k (mN n) r (hN A) r' (hN B), Anyt, Blk p2 (.cells (pairC a2 m2 h2 h2' x2 y2 r2 r2') 45 (0, 0)), S2 a2 m2 k (M2) h2 t2 (H) h2' t2' (hN B), D2 x2 y2 k (mN n) r2 (hN A) r2' (hN B), Blk Bo (.cells #[.int .i64 kd, .int .i64 N, .bool true, .slice oad oW.length ocap] 34 (0, 0)), Mp Bm (nn + KN.length) ml2]) => t_touched g 3 rfl hss
                              have pa0 : wr.cell? ⟨p, 0, none⟩ = some (.pointer (some ⟨a, 0, none⟩)) := box_cell (T10.out.cells 2 rfl) 0 rfl
                              go_wp2_with fail
                              refine (HTC.out _ T10.out).mono ?_
                              rintro e v11 ⟨sad, scap, rfl, g11⟩
                              have T11 : Hid (Things W v11 [Blk W.heap.size (.cells #[.int .i64 n, .int .i64 k, .slice adA A.length cA, .slice adB B.length cB] 26 (0, 0)), Anyt, Blk p (.cells (pairC a m h h' x y r r') 45 (0, 0)), S2 a m k (Mc) h' t' (Hn) h t (H), D2 x y k (mN n) r (hN A) r' (hN B), Anyt, Blk p2 (.cells (pairC a2 m2 h2 h2' x2 y2 r2 r2') 45 (0, 0)), S2 a2 m2 k (M2) h2 t2 (H) h2' t2' (hN B), D2 x2 y2 k (mN n) r2 (hN A) r2' (hN B), Blk Bo (.cells #[.int .i64 kd, .int .i64 N, .bool true, .slice oad oW.length ocap] 34 (0, 0)), Mp Bm (nn + KN.length) ml2, Sv sad Mc.ss]) := g11
                              clear g11 T10 HTC pa0
                              have HSL := hid hss
                              clear hss
                              go_wp2
                              go_loopw [178] (fun i wr => ∃ z : Nat, z ≤ Mc.ss.length ∧ i = .int .i64 z ∧ Hid (Things W wr [Blk W.heap.size (.cells #[.int .i64 n, .int .i64 k, .slice adA A.length cA, .slice adB B.length cB] 26 (0, 0)), Anyt, Blk p (.cells (pairC a m h h' x y r r') 45 (0, 0)), S2 a m k (Mc) h' t' (Hn) h t (H), D2 x y k (mN n) r (hN A) r' (hN B), Anyt, Blk p2 (.cells (pairC a2 m2 h2 h2' x2 y2 r2 r2') 45 (0, 0)), S2 a2 m2 k (M2) h2 t2 (H) h2' t2' (hN B), D2 x2 y2 k (mN n) r2 (hN A) r2' (hN B), Blk Bo (.cells #[.int .i64 kd, .int .i64 N, .bool true, .slice oad oW.length ocap] 34 (0, 0)), Mp Bm (nn + KN.length) ml2, Sv sad Mc.ss])) (fun i _ => Mc.ss.length - (intOf i).toNat)
                              case atStart => exact ⟨0, by omega, rfl, T11⟩
                              case round =>
                                clear T11
                                obtain ⟨z, hz, rfl, T⟩ := hrel
                                by_cases hlt : z < Mc.ss.length
                                · as_aux_lemma =>
                                    obtain ⟨sb, soff, rfl, hsb, s1, s2, s3⟩ := T.out.sps 11 rfl z hlt
                                    obtain ⟨q, e1, e2, e3, e4, e5, e6, e7⟩ := own_mem HTP.out.1 (fun v hv => HMN.out v (HKLE.out ▸ hv)) (HTO.out Mc.ss[z] (List.getElem_mem hlt))
                                    have hqs : q < 4096 := by have := HTP.out.2; omega
                                    have hss2 := HSL.out
                                    have TS : Hid (Things W (wr.alloc (.cells #[.int .i64 (Mc.ss[z]).1, .int .i64 (Mc.ss[z]).2.1, .bool (Mc.ss[z]).2.2] 83)) ([Blk W.heap.size (.cells #[.int .i64 n, .int .i64 k, .slice adA A.length cA, .slice adB B.length cB] 26 (0, 0)), Anyt, Blk p (.cells (pairC a m h h' x y r r') 45 (0, 0)), S2 a m k (Mc) h' t' (Hn) h t (H), D2 x y k (mN n) r (hN A) r' (hN B), Anyt, Blk p2 (.cells (pairC a2 m2 h2 h2' x2 y2 r2 r2') 45 (0, 0)), S2 a2 m2 k (M2) h2 t2 (H) h2' t2' (hN B), D2 x2 y2 k (mN n) r2 (hN A) r2' (hN B), Blk Bo (.cells #[.int .i64 kd, .int .i64 N, .bool true, .slice oad oW.length ocap] 34 (0, 0)), Mp Bm (nn + KN.length) ml2, Sv (some ⟨sb, soff, none⟩) Mc.ss] ++ [Blk wr.heap.size (.cells #[.int .i64 (Mc.ss[z]).1, .int .i64 (Mc.ss[z]).2.1, .bool (Mc.ss[z]).2.2] 83 (0, 0))])) := T.out.blk _
                                    have lk := TS.out.look 10 rfl (x := (q : Int)) (wf_small (by omega) (by omega))
                                    rw [decide_eq_true e3] at lk
                                    clear T e3
                                    generalize (Mc.ss[z]).1 = sp1 at *
                                    generalize (Mc.ss[z]).2.1 = sp2 at *
                                    generalize (Mc.ss[z]).2.2 = sp3 at *
                                    generalize hrm : sp1.tmod 512 = rm at *
                                    have k1 : IntKind.i64.wrap (q : Int) = q := by rw [IntKind.wrap_i64]; omega
                                    have k2 : IntKind.i64.wrap (rm + sp2) = rm + sp2 := by rw [IntKind.wrap_i64]; omega
                                    have k3 : IntKind.i64.wrap rm = rm := by rw [IntKind.wrap_i64]; omega
                                    have k4 : ¬ (512 : Int) < rm + sp2 := by omega
                                    generalize hsm : rm + sp2 = sm at *
                                    clear hqs e2 e4 e5 e6 e7
                                    generalize (q : Int) = qi at *
                                    go_wp2
                                    have TE : Hid (Things W _ [Blk W.heap.size (.cells #[.int .i64 n, .int .i64 k, .slice adA A.length cA, .slice adB B.length cB] 26 (0, 0)), Anyt, Blk p (.cells (pairC a m h h' x y r r') 45 (0, 0)), S2 a m k (Mc) h' t' (Hn) h t (H), D2 x y k (mN n) r (hN A) r' (hN B), Anyt, Blk p2 (.cells (pairC a2 m2 h2 h2' x2 y2 r2 r2') 45 (0, 0)), S2 a2 m2 k (M2) h2 t2 (H) h2' t2' (hN B), D2 x2 y2 k (mN n) r2 (hN A) r2' (hN B), Blk Bo (.cells #[.int .i64 kd, .int .i64 N, .bool true, .slice oad oW.length ocap] 34 (0, 0)), Mp Bm (nn + KN.length) ml2, Sv (some ⟨sb, soff, none⟩) Mc.ss]) := Things.less (ts := [Blk W.heap.size (.cells #[.int .i64 n, .int .i64 k, .slice adA A.length cA, .slice adB B.length cB] 26 (0, 0)), Anyt, Blk p (.cells (pairC a m h h' x y r r') 45 (0, 0)), S2 a m k (Mc) h' t' (Hn) h t (H), D2 x y k (mN n) r (hN A) r' (hN B), Anyt, Blk p2 (.cells (pairC a2 m2 h2 h2' x2 y2 r2 r2') 45 (0, 0)), S2 a2 m2 k (M2) h2 t2 (H) h2' t2' (hN B), D2 x2 y2 k (mN n) r2 (hN A) r2' (hN B), Blk Bo (.cells #[.int .i64 kd, .int .i64 N, .bool true, .slice oad oW.length ocap] 34 (0, 0)), Mp Bm (nn + KN.length) ml2, Sv (some ⟨sb, soff, none⟩) Mc.ss]) TS.out
                                    clear TS lk
                                    go_roundw
                                    case rel => exact ⟨z + 1, by omega, by go_num, TE⟩
                                    case measure => simp [intOf]; omega
                                · obtain rfl : Mc.ss.length = z := by omega
                                  have T12 : Hid (Things W wr [Blk W.heap.size (.cells #[.int .i64 n, .int .i64 k, .slice adA A.length cA, .slice adB B.length cB] 26 (0, 0)), Anyt, Blk p (.cells (pairC a m h h' x y r r') 45 (0, 0)), S2 a m k (Mc) h' t' (Hn) h t (H), D2 x y k (mN n) r (hN A) r' (hN B), Anyt, Blk p2 (.cells (pairC a2 m2 h2 h2' x2 y2 r2 r2') 45 (0, 0)), S2 a2 m2 k (M2) h2 t2 (H) h2' t2' (hN B), D2 x2 y2 k (mN n) r2 (hN A) r2' (hN B), Blk Bo (.cells #[.int .i64 kd, .int .i64 N, .bool true, .slice oad oW.length ocap] 34 (0, 0)), Mp Bm (nn + KN.length) ml2]) := Things.less (ts := [Blk W.heap.size (.cells #[.int .i64 n, .int .i64 k, .slice adA A.length cA, .slice adB B.length cB] 26 (0, 0)), Anyt, Blk p (.cells (pairC a m h h' x y r r') 45 (0, 0)), S2 a m k (Mc) h' t' (Hn) h t (H), D2 x y k (mN n) r (hN A) r' (hN B), Anyt, Blk p2 (.cells (pairC a2 m2 h2 h2' x2 y2 r2 r2') 45 (0, 0)), S2 a2 m2 k (M2) h2 t2 (H) h2' t2' (hN B), D2 x2 y2 k (mN n) r2 (hN A) r2' (hN B), Blk Bo (.cells #[.int .i64 kd, .int .i64 N, .bool true, .slice oad oW.length ocap] 34 (0, 0)), Mp Bm (nn + KN.length) ml2]) T.out
                                  clear T HTO HTP HMN HSL HKV HKN
                                  have T13 : Hid (Things W wr [Blk W.heap.size (.cells #[.int .i64 n, .int .i64 k, .slice adA A.length cA, .slice adB B.length cB] 26 (0, 0)), Anyt, Blk p (.cells (pairC a m h h' x y r r') 45 (0, 0)), S2 a m k (Mc) h t (H) h' t' (Hn), D2 x y k (mN n) r (hN A) r' (hN B), Anyt, Blk p2 (.cells (pairC a2 m2 h2 h2' x2 y2 r2 r2') 45 (0, 0)), S2 a2 m2 k (M2) h2 t2 (H) h2' t2' (hN B), D2 x2 y2 k (mN n) r2 (hN A) r2' (hN B), Blk Bo (.cells #[.int .i64 kd, .int .i64 N, .bool true, .slice oad oW.length ocap] 34 (0, 0)), Mp Bm (nn + KN.length) ml2]) := Things.swap2 (ts := [Blk W.heap.size (.cells #[.int .i64 n, .int .i64 k, .slice adA A.length cA, .slice adB B.length cB] 26 (0, 0)), Anyt, Blk p (.cells (pairC a m h h' x y r r') 45 (0, 0)), S2 a m k (Mc) h' t' (Hn) h t (H), D2 x y k (mN n) r (hN A) r' (hN B), Anyt, Blk p2 (.cells (pairC a2 m2 h2 h2' x2 y2 r2 r2') 45 (0, 0)), S2 a2 m2 k (M2) h2 t2 (H) h2' t2' (hN B), D2 x2 y2 k (mN n) r2 (hN A) r2' (hN B), Blk Bo (.cells #[.int .i64 kd, .int .i64 N, .bool true, .slice oad oW.length ocap] 34 (0, 0)), Mp Bm (nn + KN.length) ml2]) T12.out 3 rfl
                                  clear T12
                                  as_aux_lemma =>
                                    have AR : Hid (Apr n k 600 (600 * (j + 1)) Mc H Hn M2 (hN B) A B) := AQ.out.less (by omega) (by omega)
                                    clear AQ HTN
                                    have hAB := HNA.out
                                    have x0 := fun w => (ix2 (.slice adA A.length cA) (.slice adB B.length cB) w).1
                                    have x1 := fun w => (ix2 (.slice adA A.length cA) (.slice adB B.length cB) w).2
                                    clear hAB
                                    go_wp2
                                    go_loopw [220] (fun i wr => ∃ z : Nat, z ≤ 2 ∧ i = .int .i64 z ∧ Hid (Things W wr [Blk W.heap.size (.cells #[.int .i64 n, .int .i64 k, .slice adA A.length cA, .slice adB B.length cB] 26 (0, 0)), Anyt, Blk p (.cells (pairC a m h h' x y r r') 45 (0, 0)), S2 a m k (Mc) h t (H) h' t' (Hn), D2 x y k (mN n) r (hN A) r' (hN B), Anyt, Blk p2 (.cells (pairC a2 m2 h2 h2' x2 y2 r2 r2') 45 (0, 0)), S2 a2 m2 k (M2) h2 t2 (H) h2' t2' (hN B), D2 x2 y2 k (mN n) r2 (hN A) r2' (hN B), Blk Bo (.cells #[.int .i64 kd, .int .i64 N, .bool true, .slice oad oW.length ocap] 34 (0, 0)), Mp Bm (nn + KN.length) ml2])) (fun i _ => 2 - (intOf i).toNat)
                                    case atStart => exact ⟨0, by omega, rfl, T13⟩
                                    case round =>
                                      clear T13
                                      obtain ⟨z, hz, rfl, T⟩ := hrel
                                      have h3 : z = 0 ∨ z = 1 ∨ z = 2 := by omega
                                      rcases h3 with rfl | rfl | rfl
                                      · as_aux_lemma =>
                                          have T0 : Hid (Things W wr [Blk W.heap.size (.cells #[.int .i64 n, .int .i64 k, .slice adA A.length cA, .slice adB B.length cB] 26 (0, 0)), Anyt, Blk p (.cells (pairC a m h h' x y r r') 45 (0, 0)), S2 a m k (Mc) h t (H) h' t' (Hn), D2 x y k (mN n) r (hN A) r' (hN B), Anyt, Blk p2 (.cells (pairC a2 m2 h2 h2' x2 y2 r2 r2') 45 (0, 0)), S2 a2 m2 k (M2) h2 t2 (H) h2' t2' (hN B), D2 x2 y2 k (mN n) r2 (hN A) r2' (hN B), Blk Bo (.cells #[.int .i64 kd, .int .i64 N, .bool true, .slice oad oW.length ocap] 34 (0, 0)), Mp Bm (nn + KN.length) ml2]) := T
                                          have HTX : Hid (Two k 600 Mc H Hn) := AR.out.tw
                                          have HKX : Hid (∀ v ∈ (H).T.map Prod.fst, I64 v ∧ ∃ q : Nat, tbF (H).T v = (q : Int) ∧ q < 4096 ∧ Cq.inW k A q = true) := fun v hv => by
                                            obtain ⟨ka1, q, ka2, ka3, ka4, _⟩ := HTX.out.of hv
                                            rw [AR.out.wA] at ka4
                                            exact ⟨ka1, q, ka2, ka3, ka4⟩
                                          have hkx : ((H).T.map Prod.fst).length ≤ 512 := by have := HTX.out.ok.tp.few; have := AR.out.n1; rw [List.length_map]; omega
                                          have f2 : wr.cell? ⟨W.heap.size, 2, none⟩ = some (.slice adA A.length cA) := box_cell (T0.out.cells 0 rfl) 2 rfl
                                          have f3 : wr.cell? ⟨W.heap.size, 3, none⟩ = some (.slice adB B.length cB) := box_cell (T0.out.cells 0 rfl) 3 rfl
                                          have pz : wr.cell? ⟨p, 2, none⟩ = some (.pointer (some ⟨h, 0, none⟩)) := box_cell (T0.out.cells 2 rfl) 2 rfl
                                          have HTB := hid fun (w : World) (g : Things W w [Blk W.heap.size (.cells #[.int .i64 n, .int .i64 k, .slice adA A.length cA, .slice adB B.length cB] 26 (0, 0)), Anyt, Blk p (.cells (pairC a m h h' x y r r') 45 (0, 0)), S2 a m k (Mc) h t (H) h' t' (Hn), D2 x y k (mN n) r (hN A) r' (hN B), Anyt, Blk p2 (.cells (pairC a2 m2 h2 h2' x2 y2 r2 r2') 45 (0, 0)), S2 a2 m2 k (M2) h2 t2 (H) h2' t2' (hN B), D2 x2 y2 k (mN n) r2 (hN A) r2' (hN B), Blk Bo (.cells #[.int .i64 kd, .int .i64 N, .bool true, .slice oad oW.length ocap] 34 (0, 0)), Mp Bm (nn + KN.length) ml2]) => t_table g 3 rfl
                                          have HAL := hid fun (w : World) (g : Things W w [Blk W.heap.size (.cells #[.int .i64 n, .int .i64 k, .slice adA A.length cA, .slice adB B.length cB] 26 (0, 0)), Anyt, Blk p (.cells (pairC a m h h' x y r r') 45 (0, 0)), S2 a m k (Mc) h t (H) h' t' (Hn), D2 x y k (mN n) r (hN A) r' (hN B), Anyt, Blk p2 (.cells (pairC a2 m2 h2 h2' x2 y2 r2 r2') 45 (0, 0)), S2 a2 m2 k (M2) h2 t2 (H) h2' t2' (hN B), D2 x2 y2 k (mN n) r2 (hN A) r2' (hN B), Blk Bo (.cells #[.int .i64 kd, .int .i64 N, .bool true, .slice oad oW.length ocap] 34 (0, 0)), Mp Bm (nn + KN.length) ml2]) => t_all g 3 rfl HTX.out
                                          clear T
                                          go_wp2_with fail
                                          refine (HTB.out _ T0.out).mono ?_
                                          rintro e u1 ⟨rfl, g1⟩
                                          have U1 := hid g1
                                          clear g1 T0 HTB f2 f3 pz
                                          go_wp2_with fail
                                          refine (HAL.out _ U1.out).mono ?_
                                          rintro e u2 ⟨xad, xcap, rfl, g2⟩
                                          have U2 : Hid (Things W u2 ([Blk W.heap.size (.cells #[.int .i64 n, .int .i64 k, .slice adA A.length cA, .slice adB B.length cB] 26 (0, 0)), Anyt, Blk p (.cells (pairC a m h h' x y r r') 45 (0, 0)), S2 a m k (Mc) h t (H) h' t' (Hn), D2 x y k (mN n) r (hN A) r' (hN B), Anyt, Blk p2 (.cells (pairC a2 m2 h2 h2' x2 y2 r2 r2') 45 (0, 0)), S2 a2 m2 k (M2) h2 t2 (H) h2' t2' (hN B), D2 x2 y2 k (mN n) r2 (hN A) r2' (hN B), Blk Bo (.cells #[.int .i64 kd, .int .i64 N, .bool true, .slice oad oW.length ocap] 34 (0, 0)), Mp Bm (nn + KN.length) ml2] ++ [Lv xad ((H).T.map Prod.fst)])) := g2
                                          clear g2 U1 HAL
                                          generalize (H).T.map Prod.fst = KX at *
                                          go_wp2
                                          go_loopw [239] (fun i wr => ∃ u : Nat, u ≤ KX.length ∧ i = .int .i64 u ∧ Hid (Things W wr ([Blk W.heap.size (.cells #[.int .i64 n, .int .i64 k, .slice adA A.length cA, .slice adB B.length cB] 26 (0, 0)), Anyt, Blk p (.cells (pairC a m h h' x y r r') 45 (0, 0)), S2 a m k (Mc) h t (H) h' t' (Hn), D2 x y k (mN n) r (hN A) r' (hN B), Anyt, Blk p2 (.cells (pairC a2 m2 h2 h2' x2 y2 r2 r2') 45 (0, 0)), S2 a2 m2 k (M2) h2 t2 (H) h2' t2' (hN B), D2 x2 y2 k (mN n) r2 (hN A) r2' (hN B), Blk Bo (.cells #[.int .i64 kd, .int .i64 N, .bool true, .slice oad oW.length ocap] 34 (0, 0)), Mp Bm (nn + KN.length) ml2] ++ [Lv xad KX]))) (fun i _ => KX.length - (intOf i).toNat)
                                          case atStart => exact ⟨0, by omega, rfl, U2⟩
                                          case round =>
                                            clear U2
                                            obtain ⟨u, hu, rfl, T⟩ := hrel
                                            by_cases hlu : u < KX.length
                                            · obtain ⟨xb, xoff, rfl, hxb, hxc⟩ := T.out.nums 11 rfl u hlu
                                              obtain ⟨hv, q, ka2, ka3, ka4⟩ := HKX.out KX[u] (List.getElem_mem hlu)
                                              have HTB := hid fun (w : World) (g : Things W w ([Blk W.heap.size (.cells #[.int .i64 n, .int .i64 k, .slice adA A.length cA, .slice adB B.length cB] 26 (0, 0)), Anyt, Blk p (.cells (pairC a m h h' x y r r') 45 (0, 0)), S2 a m k (Mc) h t (H) h' t' (Hn), D2 x y k (mN n) r (hN A) r' (hN B), Anyt, Blk p2 (.cells (pairC a2 m2 h2 h2' x2 y2 r2 r2') 45 (0, 0)), S2 a2 m2 k (M2) h2 t2 (H) h2' t2' (hN B), D2 x2 y2 k (mN n) r2 (hN A) r2' (hN B), Blk Bo (.cells #[.int .i64 kd, .int .i64 N, .bool true, .slice oad oW.length ocap] 34 (0, 0)), Mp Bm (nn + KN.length) ml2] ++ [Lv (some ⟨xb, xoff, none⟩) KX])) => t_table g 3 rfl
                                              have HFI := hid fun (w : World) (g : Things W w ([Blk W.heap.size (.cells #[.int .i64 n, .int .i64 k, .slice adA A.length cA, .slice adB B.length cB] 26 (0, 0)), Anyt, Blk p (.cells (pairC a m h h' x y r r') 45 (0, 0)), S2 a m k (Mc) h t (H) h' t' (Hn), D2 x y k (mN n) r (hN A) r' (hN B), Anyt, Blk p2 (.cells (pairC a2 m2 h2 h2' x2 y2 r2 r2') 45 (0, 0)), S2 a2 m2 k (M2) h2 t2 (H) h2' t2' (hN B), D2 x2 y2 k (mN n) r2 (hN A) r2' (hN B), Blk Bo (.cells #[.int .i64 kd, .int .i64 N, .bool true, .slice oad oW.length ocap] 34 (0, 0)), Mp Bm (nn + KN.length) ml2] ++ [Lv (some ⟨xb, xoff, none⟩) KX])) => t_find g 3 rfl HTX.out hv
                                              rw [ka2] at HFI
                                              have HOF := hid fun (w : World) (g : Things W w ([Blk W.heap.size (.cells #[.int .i64 n, .int .i64 k, .slice adA A.length cA, .slice adB B.length cB] 26 (0, 0)), Anyt, Blk p (.cells (pairC a m h h' x y r r') 45 (0, 0)), S2 a m k (Mc) h t (H) h' t' (Hn), D2 x y k (mN n) r (hN A) r' (hN B), Anyt, Blk p2 (.cells (pairC a2 m2 h2 h2' x2 y2 r2 r2') 45 (0, 0)), S2 a2 m2 k (M2) h2 t2 (H) h2' t2' (hN B), D2 x2 y2 k (mN n) r2 (hN A) r2' (hN B), Blk Bo (.cells #[.int .i64 kd, .int .i64 N, .bool true, .slice oad oW.length ocap] 34 (0, 0)), Mp Bm (nn + KN.length) ml2] ++ [Lv (some ⟨xb, xoff, none⟩) KX])) => t_of g 4 rfl cA (HNA.out _ g.nw).1 (by unfold maxLen; omega) (p := q) (by omega)
                                              rw [ka4] at HOF
                                              have TD := hid (T.out.kept (Fr.refl _ _).drew)
                                              have d5 : wr.drew.cell? ⟨p, 5, none⟩ = some (.pointer (some ⟨y, 0, none⟩)) := box_cell (TD.out.cells 2 rfl) 5 rfl
                                              have dz : wr.drew.cell? ⟨p, 2, none⟩ = some (.pointer (some ⟨h, 0, none⟩)) := box_cell (TD.out.cells 2 rfl) 2 rfl
                                              clear T hv ka2 ka3 ka4
                                              generalize KX[u] = vx at *
                                              generalize (q : Int) = qi at *
                                              go_wp2_with fail
                                              go_region_held3 (fun w' => w'.cell? ⟨p, 5, none⟩ = some (.pointer (some ⟨y, 0, none⟩)) ∧ w'.cell? ⟨p, 2, none⟩ = some (.pointer (some ⟨h, 0, none⟩))) (first | exact ⟨by assumption, by assumption⟩ | go_keep) (first | (go_at_call 39; refine (HOF.out _ Y2.out).mono ?_; rintro e yv3 ⟨rfl, g3⟩; have Y3 := hid g3; have e5 := box_cell (Things.cells g3 2 rfl) 5 rfl; have ez := box_cell (Things.cells g3 2 rfl) 2 rfl; clear g3) | (go_at_call 20; refine (HFI.out _ Y1.out).mono ?_; rintro e yv2 ⟨rfl, g2⟩; have Y2 := hid g2; have c5 := box_cell (Things.cells g2 2 rfl) 5 rfl; have cz := box_cell (Things.cells g2 2 rfl) 2 rfl; clear g2) | (go_at_call 17; refine (HTB.out _ TD.out).mono ?_; rintro e yv1 ⟨rfl, g1⟩; have Y1 := hid g1; have b5 := box_cell (Things.cells g1 2 rfl) 5 rfl; have bz := box_cell (Things.cells g1 2 rfl) 2 rfl; clear g1))
                                              clear TD Y1 Y2 HTB HFI HOF d5 dz b5 bz c5 cz e5 ez
                                              go_wp2
                                              go_roundw
                                              case rel => exact ⟨u + 1, by omega, by go_num, Y3⟩
                                              case measure => simp [intOf]; omega
                                            · obtain rfl : u = KX.length := by omega
                                              have T1 : Hid (Things W wr [Blk W.heap.size (.cells #[.int .i64 n, .int .i64 k, .slice adA A.length cA, .slice adB B.length cB] 26 (0, 0)), Anyt, Blk p (.cells (pairC a m h h' x y r r') 45 (0, 0)), S2 a m k (Mc) h t (H) h' t' (Hn), D2 x y k (mN n) r (hN A) r' (hN B), Anyt, Blk p2 (.cells (pairC a2 m2 h2 h2' x2 y2 r2 r2') 45 (0, 0)), S2 a2 m2 k (M2) h2 t2 (H) h2' t2' (hN B), D2 x2 y2 k (mN n) r2 (hN A) r2' (hN B), Blk Bo (.cells #[.int .i64 kd, .int .i64 N, .bool true, .slice oad oW.length ocap] 34 (0, 0)), Mp Bm (nn + KN.length) ml2]) := Things.less (ts := [Blk W.heap.size (.cells #[.int .i64 n, .int .i64 k, .slice adA A.length cA, .slice adB B.length cB] 26 (0, 0)), Anyt, Blk p (.cells (pairC a m h h' x y r r') 45 (0, 0)), S2 a m k (Mc) h t (H) h' t' (Hn), D2 x y k (mN n) r (hN A) r' (hN B), Anyt, Blk p2 (.cells (pairC a2 m2 h2 h2' x2 y2 r2 r2') 45 (0, 0)), S2 a2 m2 k (M2) h2 t2 (H) h2' t2' (hN B), D2 x2 y2 k (mN n) r2 (hN A) r2' (hN B), Blk Bo (.cells #[.int .i64 kd, .int .i64 N, .bool true, .slice oad oW.length ocap] 34 (0, 0)), Mp Bm (nn + KN.length) ml2]) T.out
                                              have T2 : Hid (Things W wr [Blk W.heap.size (.cells #[.int .i64 n, .int .i64 k, .slice adA A.length cA, .slice adB B.length cB] 26 (0, 0)), Anyt, Blk p (.cells (pairC a m h h' x y r r') 45 (0, 0)), S2 a m k (Mc) h t (H) h' t' (Hn), D2 x y k (mN n) r (hN A) r' (hN B), Anyt, Blk p2 (.cells (pairC a2 m2 h2 h2' x2 y2 r2 r2') 45 (0, 0)), S2 a2 m2 k (M2) h2 t2 (H) h2' t2' (hN B), D2 x2 y2 k (mN n) r2 (hN A) r2' (hN B), Blk Bo (.cells #[.int .i64 kd, .int .i64 N, .bool true, .slice oad oW.length ocap] 34 (0, 0)), Mp Bm (nn + KN.length) ml2]) := T1
                                              clear T T1 HKX HTX
                                              go_wp2
                                              go_roundw
                                              case rel => exact ⟨1, by omega, by go_num, T2⟩
                                              case measure => simp [intOf]; try omega
                                      · as_aux_lemma =>
                                          have T0 : Hid (Things W wr [Blk W.heap.size (.cells #[.int .i64 n, .int .i64 k, .slice adA A.length cA, .slice adB B.length cB] 26 (0, 0)), Anyt, Blk p (.cells (pairC a m h h' x y r r') 45 (0, 0)), S2 a m k (Mc) h' t' (Hn) h t (H), D2 x y k (mN n) r (hN A) r' (hN B), Anyt, Blk p2 (.cells (pairC a2 m2 h2 h2' x2 y2 r2 r2') 45 (0, 0)), S2 a2 m2 k (M2) h2 t2 (H) h2' t2' (hN B), D2 x2 y2 k (mN n) r2 (hN A) r2' (hN B), Blk Bo (.cells #[.int .i64 kd, .int .i64 N, .bool true, .slice oad oW.length ocap] 34 (0, 0)), Mp Bm (nn + KN.length) ml2]) := T.out.swap2 3 rfl
                                          have HTX : Hid (Two k 600 Mc Hn H) := AR.out.tw.swap
                                          have HKX : Hid (∀ v ∈ (Hn).T.map Prod.fst, I64 v ∧ ∃ q : Nat, tbF (Hn).T v = (q : Int) ∧ q < 4096 ∧ Cq.inW k B q = true) := fun v hv => by
                                            obtain ⟨ka1, q, ka2, ka3, ka4, _⟩ := HTX.out.of hv
                                            rw [AR.out.wB] at ka4
                                            exact ⟨ka1, q, ka2, ka3, ka4⟩
                                          have hkx : ((Hn).T.map Prod.fst).length ≤ 512 := by have := HTX.out.ok.tp.few; have := AR.out.n1; rw [List.length_map]; omega
                                          have f2 : wr.cell? ⟨W.heap.size, 2, none⟩ = some (.slice adA A.length cA) := box_cell (T0.out.cells 0 rfl) 2 rfl
                                          have f3 : wr.cell? ⟨W.heap.size, 3, none⟩ = some (.slice adB B.length cB) := box_cell (T0.out.cells 0 rfl) 3 rfl
                                          have pz : wr.cell? ⟨p, 3, none⟩ = some (.pointer (some ⟨h', 0, none⟩)) := box_cell (T0.out.cells 2 rfl) 3 rfl
                                          have HTB := hid fun (w : World) (g : Things W w [Blk W.heap.size (.cells #[.int .i64 n, .int .i64 k, .slice adA A.length cA, .slice adB B.length cB] 26 (0, 0)), Anyt, Blk p (.cells (pairC a m h h' x y r r') 45 (0, 0)), S2 a m k (Mc) h' t' (Hn) h t (H), D2 x y k (mN n) r (hN A) r' (hN B), Anyt, Blk p2 (.cells (pairC a2 m2 h2 h2' x2 y2 r2 r2') 45 (0, 0)), S2 a2 m2 k (M2) h2 t2 (H) h2' t2' (hN B), D2 x2 y2 k (mN n) r2 (hN A) r2' (hN B), Blk Bo (.cells #[.int .i64 kd, .int .i64 N, .bool true, .slice oad oW.length ocap] 34 (0, 0)), Mp Bm (nn + KN.length) ml2]) => t_table g 3 rfl
                                          have HAL := hid fun (w : World) (g : Things W w [Blk W.heap.size (.cells #[.int .i64 n, .int .i64 k, .slice adA A.length cA, .slice adB B.length cB] 26 (0, 0)), Anyt, Blk p (.cells (pairC a m h h' x y r r') 45 (0, 0)), S2 a m k (Mc) h' t' (Hn) h t (H), D2 x y k (mN n) r (hN A) r' (hN B), Anyt, Blk p2 (.cells (pairC a2 m2 h2 h2' x2 y2 r2 r2') 45 (0, 0)), S2 a2 m2 k (M2) h2 t2 (H) h2' t2' (hN B), D2 x2 y2 k (mN n) r2 (hN A) r2' (hN B), Blk Bo (.cells #[.int .i64 kd, .int .i64 N, .bool true, .slice oad oW.length ocap] 34 (0, 0)), Mp Bm (nn + KN.length) ml2]) => t_all g 3 rfl HTX.out
                                          clear T
                                          go_wp2_with fail
                                          refine (HTB.out _ T0.out).mono ?_
                                          rintro e u1 ⟨rfl, g1⟩
                                          have U1 := hid g1
                                          clear g1 T0 HTB f2 f3 pz
                                          go_wp2_with fail
                                          refine (HAL.out _ U1.out).mono ?_
                                          rintro e u2 ⟨xad, xcap, rfl, g2⟩
                                          have U2 : Hid (Things W u2 ([Blk W.heap.size (.cells #[.int .i64 n, .int .i64 k, .slice adA A.length cA, .slice adB B.length cB] 26 (0, 0)), Anyt, Blk p (.cells (pairC a m h h' x y r r') 45 (0, 0)), S2 a m k (Mc) h' t' (Hn) h t (H), D2 x y k (mN n) r (hN A) r' (hN B), Anyt, Blk p2 (.cells (pairC a2 m2 h2 h2' x2 y2 r2 r2') 45 (0, 0)), S2 a2 m2 k (M2) h2 t2 (H) h2' t2' (hN B), D2 x2 y2 k (mN n) r2 (hN A) r2' (hN B), Blk Bo (.cells #[.int .i64 kd, .int .i64 N, .bool true, .slice oad oW.length ocap] 34 (0, 0)), Mp Bm (nn + KN.length) ml2] ++ [Lv xad ((Hn).T.map Prod.fst)])) := g2
                                          clear g2 U1 HAL
                                          generalize (Hn).T.map Prod.fst = KX at *
                                          go_wp2
                                          go_loopw [239] (fun i wr => ∃ u : Nat, u ≤ KX.length ∧ i = .int .i64 u ∧ Hid (Things W wr ([Blk W.heap.size (.cells #[.int .i64 n, .int .i64 k, .slice adA A.length cA, .slice adB B.length cB] 26 (0, 0)), Anyt, Blk p (.cells (pairC a m h h' x y r r') 45 (0, 0)), S2 a m k (Mc) h' t' (Hn) h t (H), D2 x y k (mN n) r (hN A) r' (hN B), Anyt, Blk p2 (.cells (pairC a2 m2 h2 h2' x2 y2 r2 r2') 45 (0, 0)), S2 a2 m2 k (M2) h2 t2 (H) h2' t2' (hN B), D2 x2 y2 k (mN n) r2 (hN A) r2' (hN B), Blk Bo (.cells #[.int .i64 kd, .int .i64 N, .bool true, .slice oad oW.length ocap] 34 (0, 0)), Mp Bm (nn + KN.length) ml2] ++ [Lv xad KX]))) (fun i _ => KX.length - (intOf i).toNat)
                                          case atStart => exact ⟨0, by omega, rfl, U2⟩
                                          case round =>
                                            clear U2
                                            obtain ⟨u, hu, rfl, T⟩ := hrel
                                            by_cases hlu : u < KX.length
                                            · obtain ⟨xb, xoff, rfl, hxb, hxc⟩ := T.out.nums 11 rfl u hlu
                                              obtain ⟨hv, q, ka2, ka3, ka4⟩ := HKX.out KX[u] (List.getElem_mem hlu)
                                              have HTB := hid fun (w : World) (g : Things W w ([Blk W.heap.size (.cells #[.int .i64 n, .int .i64 k, .slice adA A.length cA, .slice adB B.length cB] 26 (0, 0)), Anyt, Blk p (.cells (pairC a m h h' x y r r') 45 (0, 0)), S2 a m k (Mc) h' t' (Hn) h t (H), D2 x y k (mN n) r (hN A) r' (hN B), Anyt, Blk p2 (.cells (pairC a2 m2 h2 h2' x2 y2 r2 r2') 45 (0, 0)), S2 a2 m2 k (M2) h2 t2 (H) h2' t2' (hN B), D2 x2 y2 k (mN n) r2 (hN A) r2' (hN B), Blk Bo (.cells #[.int .i64 kd, .int .i64 N, .bool true, .slice oad oW.length ocap] 34 (0, 0)), Mp Bm (nn + KN.length) ml2] ++ [Lv (some ⟨xb, xoff, none⟩) KX])) => t_table g 3 rfl
                                              have HFI := hid fun (w : World) (g : Things W w ([Blk W.heap.size (.cells #[.int .i64 n, .int .i64 k, .slice adA A.length cA, .slice adB B.length cB] 26 (0, 0)), Anyt, Blk p (.cells (pairC a m h h' x y r r') 45 (0, 0)), S2 a m k (Mc) h' t' (Hn) h t (H), D2 x y k (mN n) r (hN A) r' (hN B), Anyt, Blk p2 (.cells (pairC a2 m2 h2 h2' x2 y2 r2 r2') 45 (0, 0)), S2 a2 m2 k (M2) h2 t2 (H) h2' t2' (hN B), D2 x2 y2 k (mN n) r2 (hN A) r2' (hN B), Blk Bo (.cells #[.int .i64 kd, .int .i64 N, .bool true, .slice oad oW.length ocap] 34 (0, 0)), Mp Bm (nn + KN.length) ml2] ++ [Lv (some ⟨xb, xoff, none⟩) KX])) => t_find g 3 rfl HTX.out hv
                                              rw [ka2] at HFI
                                              have HOF := hid fun (w : World) (g : Things W w ([Blk W.heap.size (.cells #[.int .i64 n, .int .i64 k, .slice adA A.length cA, .slice adB B.length cB] 26 (0, 0)), Anyt, Blk p (.cells (pairC a m h h' x y r r') 45 (0, 0)), S2 a m k (Mc) h' t' (Hn) h t (H), D2 x y k (mN n) r (hN A) r' (hN B), Anyt, Blk p2 (.cells (pairC a2 m2 h2 h2' x2 y2 r2 r2') 45 (0, 0)), S2 a2 m2 k (M2) h2 t2 (H) h2' t2' (hN B), D2 x2 y2 k (mN n) r2 (hN A) r2' (hN B), Blk Bo (.cells #[.int .i64 kd, .int .i64 N, .bool true, .slice oad oW.length ocap] 34 (0, 0)), Mp Bm (nn + KN.length) ml2] ++ [Lv (some ⟨xb, xoff, none⟩) KX])) => t_of g 4 rfl cB (HNA.out _ g.nw).2 (by unfold maxLen; omega) (p := q) (by omega)
                                              rw [ka4] at HOF
                                              have TD := hid (T.out.kept (Fr.refl _ _).drew)
                                              have d5 : wr.drew.cell? ⟨p, 5, none⟩ = some (.pointer (some ⟨y, 0, none⟩)) := box_cell (TD.out.cells 2 rfl) 5 rfl
                                              have dz : wr.drew.cell? ⟨p, 3, none⟩ = some (.pointer (some ⟨h', 0, none⟩)) := box_cell (TD.out.cells 2 rfl) 3 rfl
                                              clear T hv ka2 ka3 ka4
                                              generalize KX[u] = vx at *
                                              generalize (q : Int) = qi at *
                                              go_wp2_with fail
                                              go_region_held3 (fun w' => w'.cell? ⟨p, 5, none⟩ = some (.pointer (some ⟨y, 0, none⟩)) ∧ w'.cell? ⟨p, 3, none⟩ = some (.pointer (some ⟨h', 0, none⟩))) (first | exact ⟨by assumption, by assumption⟩ | go_keep) (first | (go_at_call 39; refine (HOF.out _ Y2.out).mono ?_; rintro e yv3 ⟨rfl, g3⟩; have Y3 := hid g3; have e5 := box_cell (Things.cells g3 2 rfl) 5 rfl; have ez := box_cell (Things.cells g3 2 rfl) 3 rfl; clear g3) | (go_at_call 20; refine (HFI.out _ Y1.out).mono ?_; rintro e yv2 ⟨rfl, g2⟩; have Y2 := hid g2; have c5 := box_cell (Things.cells g2 2 rfl) 5 rfl; have cz := box_cell (Things.cells g2 2 rfl) 3 rfl; clear g2) | (go_at_call 17; refine (HTB.out _ TD.out).mono ?_; rintro e yv1 ⟨rfl, g1⟩; have Y1 := hid g1; have b5 := box_cell (Things.cells g1 2 rfl) 5 rfl; have bz := box_cell (Things.cells g1 2 rfl) 3 rfl; clear g1))
                                              clear TD Y1 Y2 HTB HFI HOF d5 dz b5 bz c5 cz e5 ez
                                              go_wp2
                                              go_roundw
                                              case rel => exact ⟨u + 1, by omega, by go_num, Y3⟩
                                              case measure => simp [intOf]; omega
                                            · obtain rfl : u = KX.length := by omega
                                              have T1 : Hid (Things W wr [Blk W.heap.size (.cells #[.int .i64 n, .int .i64 k, .slice adA A.length cA, .slice adB B.length cB] 26 (0, 0)), Anyt, Blk p (.cells (pairC a m h h' x y r r') 45 (0, 0)), S2 a m k (Mc) h' t' (Hn) h t (H), D2 x y k (mN n) r (hN A) r' (hN B), Anyt, Blk p2 (.cells (pairC a2 m2 h2 h2' x2 y2 r2 r2') 45 (0, 0)), S2 a2 m2 k (M2) h2 t2 (H) h2' t2' (hN B), D2 x2 y2 k (mN n) r2 (hN A) r2' (hN B), Blk Bo (.cells #[.int .i64 kd, .int .i64 N, .bool true, .slice oad oW.length ocap] 34 (0, 0)), Mp Bm (nn + KN.length) ml2]) := Things.less (ts := [Blk W.heap.size (.cells #[.int .i64 n, .int .i64 k, .slice adA A.length cA, .slice adB B.length cB] 26 (0, 0)), Anyt, Blk p (.cells (pairC a m h h' x y r r') 45 (0, 0)), S2 a m k (Mc) h' t' (Hn) h t (H), D2 x y k (mN n) r (hN A) r' (hN B), Anyt, Blk p2 (.cells (pairC a2 m2 h2 h2' x2 y2 r2 r2') 45 (0, 0)), S2 a2 m2 k (M2) h2 t2 (H) h2' t2' (hN B), D2 x2 y2 k (mN n) r2 (hN A) r2' (hN B), Blk Bo (.cells #[.int .i64 kd, .int .i64 N, .bool true, .slice oad oW.length ocap] 34 (0, 0)), Mp Bm (nn + KN.length) ml2]) T.out
                                              have T2 : Hid (Things W wr [Blk W.heap.size (.cells #[.int .i64 n, .int .i64 k, .slice adA A.length cA, .slice adB B.length cB] 26 (0, 0)), Anyt, Blk p (.cells (pairC a m h h' x y r r') 45 (0, 0)), S2 a m k (Mc) h t (H) h' t' (Hn), D2 x y k (mN n) r (hN A) r' (hN B), Anyt, Blk p2 (.cells (pairC a2 m2 h2 h2' x2 y2 r2 r2') 45 (0, 0)), S2 a2 m2 k (M2) h2 t2 (H) h2' t2' (hN B), D2 x2 y2 k (mN n) r2 (hN A) r2' (hN B), Blk Bo (.cells #[.int .i64 kd, .int .i64 N, .bool true, .slice oad oW.length ocap] 34 (0, 0)), Mp Bm (nn + KN.length) ml2]) := Things.swap2 (ts := [Blk W.heap.size (.cells #[.int .i64 n, .int .i64 k, .slice adA A.length cA, .slice adB B.length cB] 26 (0, 0)), Anyt, Blk p (.cells (pairC a m h h' x y r r') 45 (0, 0)), S2 a m k (Mc) h' t' (Hn) h t (H), D2 x y k (mN n) r (hN A) r' (hN B), Anyt, Blk p2 (.cells (pairC a2 m2 h2 h2' x2 y2 r2 r2') 45 (0, 0)), S2 a2 m2 k (M2) h2 t2 (H) h2' t2' (hN B), D2 x2 y2 k (mN n) r2 (hN A) r2' (hN B), Blk Bo (.cells #[.int .i64 kd, .int .i64 N, .bool true, .slice oad oW.length ocap] 34 (0, 0)), Mp Bm (nn + KN.length) ml2]) T1.out 3 rfl
                                              clear T T1 HKX HTX
                                              go_wp2
                                              go_roundw
                                              case rel => exact ⟨2, by omega, by go_num, T2⟩
                                              case measure => simp [intOf]; try omega
                                      · have TE : Hid (Things W wr [Blk W.heap.size (.cells #[.int .i64 n, .int .i64 k, .slice adA A.length cA, .slice adB B.length cB] 26 (0, 0)), Anyt, Blk p (.cells (pairC a m h h' x y r r') 45 (0, 0)), S2 a m k (Mc) h t (H) h' t' (Hn), D2 x y k (mN n) r (hN A) r' (hN B), Anyt, Blk p2 (.cells (pairC a2 m2 h2 h2' x2 y2 r2 r2') 45 (0, 0)), S2 a2 m2 k (M2) h2 t2 (H) h2' t2' (hN B), D2 x2 y2 k (mN n) r2 (hN A) r2' (hN B)]) := Things.less (ts := [Blk W.heap.size (.cells #[.int .i64 n, .int .i64 k, .slice adA A.length cA, .slice adB B.length cB] 26 (0, 0)), Anyt, Blk p (.cells (pairC a m h h' x y r r') 45 (0, 0)), S2 a m k (Mc) h t (H) h' t' (Hn), D2 x y k (mN n) r (hN A) r' (hN B), Anyt, Blk p2 (.cells (pairC a2 m2 h2 h2' x2 y2 r2 r2') 45 (0, 0)), S2 a2 m2 k (M2) h2 t2 (H) h2' t2' (hN B), D2 x2 y2 k (mN n) r2 (hN A) r2' (hN B)]) (Things.less (ts := [Blk W.heap.size (.cells #[.int .i64 n, .int .i64 k, .slice adA A.length cA, .slice adB B.length cB] 26 (0, 0)), Anyt, Blk p (.cells (pairC a m h h' x y r r') 45 (0, 0)), S2 a m k (Mc) h t (H) h' t' (Hn), D2 x y k (mN n) r (hN A) r' (hN B), Anyt, Blk p2 (.cells (pairC a2 m2 h2 h2' x2 y2 r2 r2') 45 (0, 0)), S2 a2 m2 k (M2) h2 t2 (H) h2' t2' (hN B), D2 x2 y2 k (mN n) r2 (hN A) r2' (hN B), Blk Bo (.cells #[.int .i64 kd, .int .i64 N, .bool true, .slice oad oW.length ocap] 34 (0, 0))]) T.out)
                                        clear T
                                        go_wp2
                                        go_roundw
                                        case rel => exact ⟨j + 1, Mc, H, Hn, M2, by omega, by go_num, AR, TE⟩
                                        case measure => simp [intOf]; omega
end Go.Proofs.YtihaifnenjngpaaGreatDoor
