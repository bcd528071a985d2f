/-
  In every order of calls a page answers as the document says: the walk of the law PagePlays.
-/
import Derived.Test.YthndakhnhnipnaaDoorPaHad
import Derived.Test.YthndakhnhnipnaaDoorPaOpen
import Derived.Test.YthndakhnhnipnaaDoorObjs2
namespace Go.Proofs.YthndakhnhnipnaaDoor
open Go.RowKit
open An

theorem pmS_fit {g : Pg} {n : Nat} (h : g.Fit n) (x : Int) : (pmS g n x).Fit n := by
  unfold pmS
  split
  · rename_i hf
    exact ⟨h.kind, by show x.toNat % 512 = 0; have := hf.1; have := hf.2.1; omega, by show x.toNat + 512 ≤ n; have := hf.2.2; have := hf.1; omega, h.r, h.d⟩
  · exact h
/-- Both pages behind so many rounds: the same bytes, touches and blocks. -/
def Pl (W w : World) (a r p q N b k n : Nat) : Prop := ∃ bs ss g, Pg.Ok g bs ∧ bs.length = N ∧ ss.length ≤ n ∧ g.base = b ∧ g.kind = k ∧ Things W w [Pa a bs ss p g, Ra r bs ss q g]
set_option maxRecDepth 20000 in
set_option maxHeartbeats 4000000 in
theorem plays_walk (z b k : Int) (hb : I64 b) (hk : I64 k) (sv : Value) (w : World) (gr : Gr w) (h : ∃ ad cap l, sv = .slice ad (List.length l) cap ∧ OpsAt w ad l ∧ l.length ≤ maxLen) : Calls Tryd.prog 3 #[.int .i64 z, .int .i64 b, .int .i64 k, sv] w fun e w' => e = .returned (.bool true) ∧ Fr (fun _ => False) w w' := by
  obtain ⟨ad, cap, l, rfl, hops, hmax⟩ := h
  obtain ⟨N, hN, hNl⟩ := modu z 4096 4096 rfl (by omega) (by omega)
  have HST := hid (Things.start (Nw.start w))
  have H1 : Hid (∀ w0, Things w w0 [] → Calls Tryd.prog 7 #[.int .i64 N] w0 fun e w' => ∃ a, e = .returned (.tuple #[.pointer (some ⟨a, 0, none⟩), .int .i64 0]) ∧ Things w w' [Am 70 a (List.replicate N 0) []]) := fun w0 h => g_arena h N (by omega)
  have H2 : Hid (∀ w0 P, Things w w0 [P] → Calls Tryd.prog 8 #[.int .i64 N] w0 fun e w' => ∃ a, e = .returned (.tuple #[.pointer (some ⟨a, 0, none⟩), .int .i64 0]) ∧ Things w w' [P, Am 56 a (List.replicate N 0) []]) := fun w0 P h => z_arena h N (by omega)
  have HA : Hid (∀ w0 ts, Things w w0 ts → Calls Tryd.prog 11 #[] w0 fun e w' => e = .returned (.bool true) ∧ Things w w' ts) := fun w0 ts h => awake_t h gr
  by_cases hok : (0 ≤ k ∧ k ≤ 7) ∧ Fits N b
  case neg =>
    have H3 : Hid (∀ w0 a P, Things w w0 [Am 70 a (List.replicate N 0) [], P] → Calls Tryd.prog 9 #[.pointer (some ⟨a, 0, none⟩), .int .i64 b, .int .i64 k] w0 fun e w' => e = .returned (.tuple #[.pointer none, .int .i64 12]) ∧ Things w w' [Am 70 a (List.replicate N 0) [], P]) := fun w0 a P h => g_new_no h 0 rfl hb hk (by rw [List.length_replicate]; exact hok)
    have H4 : Hid (∀ w0 a P, Things w w0 [P, Am 56 a (List.replicate N 0) []] → Calls Tryd.prog 10 #[.pointer (some ⟨a, 0, none⟩), .int .i64 b, .int .i64 k] w0 fun e w' => e = .returned (.tuple #[.pointer none, .int .i64 12]) ∧ Things w w' [P, Am 56 a (List.replicate N 0) []]) := fun w0 a P h => z_new_no h 1 rfl (by rw [List.length_replicate]; exact hok)
    clear hok hb hk hops gr
    go_enter Tryd.func3, Tryd.ntmps3
    go_wp2_with fail
    refine (H1.out _ HST.out).mono ?_
    rintro e w1 ⟨a, rfl, h1⟩
    have T1 := hid h1
    clear h1 HST H1
    go_wp2_with fail
    refine (H2.out _ _ T1.out).mono ?_
    rintro e w2 ⟨r, rfl, h1⟩
    have T2 := hid h1
    clear h1 T1 H2
    go_wp2_with fail
    refine (H3.out _ _ _ T2.out).mono ?_
    rintro e w3 ⟨rfl, h1⟩
    have T3 := hid h1
    clear h1 T2 H3
    go_wp2_with fail
    refine (H4.out _ _ _ T3.out).mono ?_
    rintro e w4 ⟨rfl, h1⟩
    have T4 := hid h1
    clear h1 T3 H4
    go_wp2_with fail
    refine (HA.out _ _ T4.out).mono ?_
    rintro e w5 ⟨rfl, h1⟩
    have T5 := hid h1
    clear h1 T4 HA
    go_wp2
    go_ret
    exact ⟨by simp, T5.out.nw.fr⟩
  obtain ⟨⟨k0, k7⟩, hf⟩ := hok
  obtain ⟨b, rfl⟩ := Int.eq_ofNat_of_zero_le hf.1
  obtain ⟨k, rfl⟩ := Int.eq_ofNat_of_zero_le k0
  have H3 : Hid (∀ w0 a P, Things w w0 [Am 70 a (List.replicate N 0) [], P] → Calls Tryd.prog 9 #[.pointer (some ⟨a, 0, none⟩), .int .i64 b, .int .i64 k] w0 fun e w' => ∃ p, e = .returned (.tuple #[.pointer (some ⟨p, 0, none⟩), .int .i64 0]) ∧ Things w w' [Pa a (List.replicate N 0) [] p ⟨b, k, 0, [], []⟩, P]) := fun w0 a P h => g_new h gr 0 rfl (by omega) (by rw [List.length_replicate]; exact hf)
  have H4 : Hid (∀ w0 a P, Things w w0 [P, Am 56 a (List.replicate N 0) []] → Calls Tryd.prog 10 #[.pointer (some ⟨a, 0, none⟩), .int .i64 b, .int .i64 k] w0 fun e w' => ∃ p, e = .returned (.tuple #[.pointer (some ⟨p, 0, none⟩), .int .i64 0]) ∧ Things w w' [P, Ra a (List.replicate N 0) [] p ⟨b, k, 0, [], []⟩]) := fun w0 a P h => z_new h gr.tab 1 rfl (by omega) (by rw [List.length_replicate]; exact hf)
  have HOK : Hid (Pg.Ok ⟨b, k, 0, [], []⟩ (List.replicate N 0)) := Pg.fresh_ok (by omega) (by rw [List.length_replicate]; exact hf)
  have HOP := hid hops
  have HG := hid gr
  clear hf hb hk hops gr k0 k7
  by_cases hl : 400 < l.length
  · have hl' : 400 < (l.length : Int) := by omega
    clear HOP HG HOK
    go_enter Tryd.func3, Tryd.ntmps3
    go_wp2_with fail
    refine (H1.out _ HST.out).mono ?_
    rintro e w1 ⟨a, rfl, h1⟩
    have T1 := hid h1
    clear h1 HST H1
    go_wp2_with fail
    refine (H2.out _ _ T1.out).mono ?_
    rintro e w2 ⟨r, rfl, h1⟩
    have T2 := hid h1
    clear h1 T1 H2
    go_wp2_with fail
    refine (H3.out _ _ _ T2.out).mono ?_
    rintro e w3 ⟨p, rfl, h1⟩
    have T3 := hid h1
    clear h1 T2 H3
    go_wp2_with fail
    refine (H4.out _ _ _ T3.out).mono ?_
    rintro e w4 ⟨q, rfl, h1⟩
    have T4 := hid h1
    clear h1 T3 H4
    go_wp2_with fail
    refine (HA.out _ _ T4.out).mono ?_
    rintro e w5 ⟨rfl, h1⟩
    have T5 := hid h1
    clear h1 T4 HA
    go_wp2
    go_ret
    exact ⟨by simp, T5.out.nw.fr⟩
  have hl' : (l.length : Int) ≤ 400 := by omega
  go_enter Tryd.func3, Tryd.ntmps3
  go_wp2_with fail
  refine (H1.out _ HST.out).mono ?_
  rintro e w1 ⟨a, rfl, h1⟩
  have T1 := hid h1
  clear h1 HST H1
  go_wp2_with fail
  refine (H2.out _ _ T1.out).mono ?_
  rintro e w2 ⟨r, rfl, h1⟩
  have T2 := hid h1
  clear h1 T1 H2
  go_wp2_with fail
  refine (H3.out _ _ _ T2.out).mono ?_
  rintro e w3 ⟨p, rfl, h1⟩
  have T3 := hid h1
  clear h1 T2 H3
  go_wp2_with fail
  refine (H4.out _ _ _ T3.out).mono ?_
  rintro e w4 ⟨q, rfl, h1⟩
  have T4 := hid h1
  clear h1 T3 H4
  go_wp2_with fail
  refine (HA.out _ _ T4.out).mono ?_
  rintro e w5 ⟨rfl, h1⟩
  have T5 := hid h1
  clear h1 T4 HA
  go_wp2
  have T6 : Hid (Pl w w5 a r p q N b k 0) := ⟨_, _, _, HOK.out, List.length_replicate, Nat.le_refl _, rfl, rfl, T5.out⟩
  clear T5 HOK
  go_loopw [14, 16, 18, 19, 20, 77] (fun _ _ _ _ _ i wr => ∃ j : Nat, j ≤ l.length ∧ i = .int .i64 j ∧ Pl w wr a r p q N b k (2 * j)) (fun _ _ _ _ _ i _ => l.length - (intOf i).toNat)
  case atStart => exact ⟨0, by omega, rfl, T6.out⟩
  case round =>
    clear T6
    obtain ⟨j, hj, rfl, bs, ss, g, hok, hlen, hs, hgb, hgk, ht⟩ := hrel
    have T := hid ht
    have OK0 := hid hok
    have HLN := hid hlen
    have HGB := hid hgb
    have HGK := hid hgk
    clear ht hok hlen hgb hgk
    by_cases hlt : j < l.length
    · obtain ⟨bb, off, rfl, hbb, p1, p2, hB⟩ := HOP.out.fr T.out.nw.fr j hlt
      generalize hop : l[j] = op2 at p1 p2 hB
      obtain ⟨kd, x⟩ := op2
      simp only at p1 p2 hB
      have HX0 : Hid (I64 x) := hB
      have T0 : Hid (Things w (wr.alloc (.cells #[.int .i64 kd, .int .i64 x] 39)) [Pa a bs ss p g, Ra r bs ss q g, Blk wr.heap.size (.cells #[.int .i64 kd, .int .i64 x] 39 (0, 0))]) := T.out.blk _
      clear hop HOP T hB
      generalize hw0 : wr.alloc (.cells #[.int .i64 kd, .int .i64 x] 39) = wa at T0
      generalize hB : wr.heap.size = B at T0
      obtain ⟨c0, c1, fz⟩ := cellZ (T0.out.cells 2 rfl)
      by_cases h1 : kd = 1
      · subst h1
        have H5 : Hid (∀ w0, Things w w0 [Pa a bs ss p g, Ra r bs ss q g, Blk B (.cells #[.int .i64 1, .int .i64 x] 39 (0, 0))] → Calls Tryd.prog 13 #[.pointer (some ⟨p, 0, none⟩)] w0 fun e w' => e = .returned (.tuple #[.int .i64 (paV g), .int .i64 (paE g)]) ∧ Things w w' [Pa a (paB g bs) (paT g ss) p (paS g), Ra r bs ss q g, Blk B (.cells #[.int .i64 1, .int .i64 x] 39 (0, 0))]) := fun w0 h => g_alloc h HG.out 0 rfl OK0.out (by omega)
        have H6 : Hid (∀ w0, Things w w0 [Pa a (paB g bs) (paT g ss) p (paS g), Ra r bs ss q g, Blk B (.cells #[.int .i64 1, .int .i64 x] 39 (0, 0))] → Calls Tryd.prog 14 #[.pointer (some ⟨q, 0, none⟩)] w0 fun e w' => e = .returned (.tuple #[.int .i64 (paV g), .int .i64 (paE g)]) ∧ Things w w' [Pa a (paB g bs) (paT g ss) p (paS g), Ra r (paB g bs) (paT g ss) q (paS g), Blk B (.cells #[.int .i64 1, .int .i64 x] 39 (0, 0))]) := fun w0 h => z_alloc h HG.out.tab 1 rfl OK0.out (by omega)
        have OK2 := hid OK0.out.alloc.1
        have HL2 : Hid ((paB g bs).length = N) := OK0.out.alloc.2.trans HLN.out
        have HS2 : Hid ((paT g ss).length ≤ 2 * (j + 1)) := by have := paT_len g ss; show _ ≤ _; omega
        have HB2 : Hid ((paS g).base = b) := (paS_at g).1.trans HGB.out
        have HK2 : Hid ((paS g).kind = k) := (paS_at g).2.trans HGK.out
        clear OK0 HLN HGB HGK
        generalize paV g = pv at *
        generalize paE g = pe at *
        generalize paB g bs = bs2 at *
        generalize paT g ss = ss2 at *
        generalize paS g = g2 at *
        go_wp2_with fail
        refine (H5.out _ T0.out).mono ?_
        rintro e w6 ⟨rfl, h6⟩
        have T7 := hid h6
        obtain ⟨c60, c61, _⟩ := cellZ (h6.cells 2 rfl)
        clear h6 H5 T0 c0 c1 fz
        go_wp2_with fail
        refine (H6.out _ T7.out).mono ?_
        rintro e w7 ⟨rfl, h7⟩
        have T8 := hid h7
        clear h7 H6 T7 c60 c61
        have HX1 : Hid (∀ w0, Things w w0 [Pa a bs2 ss2 p g2, Ra r bs2 ss2 q g2, Blk B (.cells #[.int .i64 1, .int .i64 x] 39 (0, 0))] → Calls Tryd.prog 17 #[.pointer (some ⟨p, 0, none⟩)] w0 fun e w' => e = .returned (.int .i64 (g2.used : Int)) ∧ Things w w' [Pa a bs2 ss2 p g2, Ra r bs2 ss2 q g2, Blk B (.cells #[.int .i64 1, .int .i64 x] 39 (0, 0))]) := fun w0 h => g_used h HG.out 0 rfl OK2.out
        have HX2 : Hid (∀ w0, Things w w0 [Pa a bs2 ss2 p g2, Ra r bs2 ss2 q g2, Blk B (.cells #[.int .i64 1, .int .i64 x] 39 (0, 0))] → Calls Tryd.prog 18 #[.pointer (some ⟨q, 0, none⟩)] w0 fun e w' => e = .returned (.int .i64 (g2.used : Int)) ∧ Things w w' [Pa a bs2 ss2 p g2, Ra r bs2 ss2 q g2, Blk B (.cells #[.int .i64 1, .int .i64 x] 39 (0, 0))]) := fun w0 h => z_used h 1 rfl OK2.out
        have HX3 : Hid (∀ w0, Things w w0 [Pa a bs2 ss2 p g2, Ra r bs2 ss2 q g2, Blk B (.cells #[.int .i64 1, .int .i64 x] 39 (0, 0))] → Calls Tryd.prog 19 #[.pointer (some ⟨p, 0, none⟩)] w0 fun e w' => e = .returned (.bool (decide g2.Full)) ∧ Things w w' [Pa a bs2 ss2 p g2, Ra r bs2 ss2 q g2, Blk B (.cells #[.int .i64 1, .int .i64 x] 39 (0, 0))]) := fun w0 h => g_full h HG.out 0 rfl OK2.out
        have HX4 : Hid (∀ w0, Things w w0 [Pa a bs2 ss2 p g2, Ra r bs2 ss2 q g2, Blk B (.cells #[.int .i64 1, .int .i64 x] 39 (0, 0))] → Calls Tryd.prog 20 #[.pointer (some ⟨q, 0, none⟩)] w0 fun e w' => e = .returned (.bool (decide g2.Full)) ∧ Things w w' [Pa a bs2 ss2 p g2, Ra r bs2 ss2 q g2, Blk B (.cells #[.int .i64 1, .int .i64 x] 39 (0, 0))]) := fun w0 h => z_full h HG.out.tab 1 rfl OK2.out
        have HX5 : Hid (∀ w0, Things w w0 [Pa a bs2 ss2 p g2, Ra r bs2 ss2 q g2, Blk B (.cells #[.int .i64 1, .int .i64 x] 39 (0, 0))] → Calls Tryd.prog 21 #[.pointer (some ⟨p, 0, none⟩), .int .i64 x] w0 fun e w' => e = .returned (.bool (decide (g2.May x))) ∧ Things w w' [Pa a bs2 ss2 p g2, Ra r bs2 ss2 q g2, Blk B (.cells #[.int .i64 1, .int .i64 x] 39 (0, 0))]) := fun w0 h => g_has h HG.out 0 rfl OK2.out HX0.out
        have HX6 : Hid (∀ w0, Things w w0 [Pa a bs2 ss2 p g2, Ra r bs2 ss2 q g2, Blk B (.cells #[.int .i64 1, .int .i64 x] 39 (0, 0))] → Calls Tryd.prog 22 #[.pointer (some ⟨q, 0, none⟩), .int .i64 x] w0 fun e w' => e = .returned (.bool (decide (g2.May x))) ∧ Things w w' [Pa a bs2 ss2 p g2, Ra r bs2 ss2 q g2, Blk B (.cells #[.int .i64 1, .int .i64 x] 39 (0, 0))]) := fun w0 h => z_has h HG.out.tab 1 rfl OK2.out x
        have HX7 : Hid (∀ w0, Things w w0 [Pa a bs2 ss2 p g2, Ra r bs2 ss2 q g2, Blk B (.cells #[.int .i64 1, .int .i64 x] 39 (0, 0))] → Calls Tryd.prog 23 #[.pointer (some ⟨p, 0, none⟩)] w0 fun e w' => e = .returned (.int .i64 b) ∧ Things w w' [Pa a bs2 ss2 p g2, Ra r bs2 ss2 q g2, Blk B (.cells #[.int .i64 1, .int .i64 x] 39 (0, 0))]) := fun w0 h => by have := g_base h 0 rfl; rwa [HB2.out] at this
        have HX8 : Hid (∀ w0, Things w w0 [Pa a bs2 ss2 p g2, Ra r bs2 ss2 q g2, Blk B (.cells #[.int .i64 1, .int .i64 x] 39 (0, 0))] → Calls Tryd.prog 24 #[.pointer (some ⟨p, 0, none⟩)] w0 fun e w' => e = .returned (.int .i64 k) ∧ Things w w' [Pa a bs2 ss2 p g2, Ra r bs2 ss2 q g2, Blk B (.cells #[.int .i64 1, .int .i64 x] 39 (0, 0))]) := fun w0 h => by have := g_kind h 0 rfl; rwa [HK2.out] at this
        have HXA : Hid (∀ w0, Things w w0 [Pa a bs2 ss2 p g2, Ra r bs2 ss2 q g2, Blk B (.cells #[.int .i64 1, .int .i64 x] 39 (0, 0))] → w0.cell? ⟨q, 1, none⟩ = some (.int .i64 b) ∧ w0.cell? ⟨B, 1, none⟩ = some (.int .i64 x)) := fun w0 h => ⟨by have := (h.at12 1 rfl).1; rwa [HB2.out] at this, (cellZ (h.cells 2 rfl)).2.1⟩
        generalize (g2.used : Int) = un at HX1 HX2
        generalize decide g2.Full = fl at HX3 HX4
        generalize decide (g2.May x) = hs at HX5 HX6
        obtain ⟨y0, y1⟩ := HXA.out _ T8.out
        go_wp2_with fail
        refine wp_region_held_drew (S := fun w' => w'.cell? ⟨q, 1, none⟩ = some (.int .i64 b) ∧ w'.cell? ⟨B, 1, none⟩ = some (.int .i64 x)) (by kernel_rfl) ?_ (fun hHeld => ?_)
        · exact ⟨y0, y1⟩
        refine wpAnyH_take (i := 0) (oi := ⟨some 114, _, _, _, _, _⟩) (v := ?v1) rfl (by kernel_rfl) (by kernel_rfl) (by kernel_rfl) (fun _ _ _ h => h) (Or.inl ⟨by rfl, ?hy1⟩) (by assumption) ?rest1
        case hy1 => (intro w hSw; (try dsimp only at hSw); go_simp; try with_reducible rfl)
        simp only [Act.put, List.setIfInBounds_toArray, List.set_cons_zero, List.set_cons_succ]
        refine wpAnyH_take (i := 1) (oi := ⟨some 115, _, _, _, _, _⟩) (v := ?v2) rfl (by kernel_rfl) (by kernel_rfl) (by kernel_rfl) (fun _ _ _ h => h) (Or.inl ⟨by rfl, ?hy2⟩) (by assumption) ?rest2
        case hy2 => (intro w hSw; (try dsimp only at hSw); go_simp; try with_reducible rfl)
        simp only [Act.put, List.setIfInBounds_toArray, List.set_cons_zero, List.set_cons_succ]
        refine wpAnyH_take (i := 2) (oi := ⟨some 116, _, _, _, _, _⟩) (v := ?v3) rfl (by kernel_rfl) (by kernel_rfl) (by kernel_rfl) (fun _ _ _ h => h) (Or.inl ⟨by rfl, ?hy3⟩) (by assumption) ?rest3
        case hy3 => (intro w hSw; (try dsimp only at hSw); go_simp; try with_reducible rfl)
        simp only [Act.put, List.setIfInBounds_toArray, List.set_cons_zero, List.set_cons_succ]
        refine wpAnyH_take (i := 3) (oi := ⟨some 117, _, _, _, _, _⟩) (v := ?v4) rfl (by kernel_rfl) (by kernel_rfl) (by kernel_rfl) (fun _ _ _ h => h) (Or.inl ⟨by rfl, ?hy4⟩) (by assumption) ?rest4
        case hy4 => (intro w hSw; (try dsimp only at hSw); go_simp; try with_reducible rfl)
        simp only [Act.put, List.setIfInBounds_toArray, List.set_cons_zero, List.set_cons_succ]
        refine wpAnyH_take (i := 4) (oi := ⟨some 118, _, _, _, _, _⟩) (v := ?v5) rfl (by kernel_rfl) (by kernel_rfl) (by kernel_rfl) (fun _ _ _ h => h) (Or.inl ⟨by rfl, ?hy5⟩) (by assumption) ?rest5
        case hy5 => (intro w hSw; (try dsimp only at hSw); go_simp; try with_reducible rfl)
        simp only [Act.put, List.setIfInBounds_toArray, List.set_cons_zero, List.set_cons_succ]
        refine wpAnyH_take (i := 5) (oi := ⟨some 119, _, _, _, _, _⟩) (v := ?v6) rfl (by kernel_rfl) (by kernel_rfl) (by kernel_rfl) (fun _ _ _ h => h) (Or.inl ⟨by rfl, ?hy6⟩) (by assumption) ?rest6
        case hy6 => (intro w hSw; (try dsimp only at hSw); go_simp; try with_reducible rfl)
        simp only [Act.put, List.setIfInBounds_toArray, List.set_cons_zero, List.set_cons_succ]
        refine wpAnyH_take (i := 6) (oi := ⟨some 120, _, _, _, _, _⟩) (v := ?v7) rfl (by kernel_rfl) (by kernel_rfl) (by kernel_rfl) (fun _ _ _ h => h) (Or.inl ⟨by rfl, ?hy7⟩) (by assumption) ?rest7
        case hy7 => (intro w hSw; (try dsimp only at hSw); go_simp; try with_reducible rfl)
        simp only [Act.put, List.setIfInBounds_toArray, List.set_cons_zero, List.set_cons_succ]
        refine wpAnyH_take (i := 7) (oi := ⟨some 121, _, _, _, _, _⟩) (v := ?v8) rfl (by kernel_rfl) (by kernel_rfl) (by kernel_rfl) (fun _ _ _ h => h) (Or.inl ⟨by rfl, ?hy8⟩) (by assumption) ?rest8
        case hy8 => (intro w hSw; (try dsimp only at hSw); go_simp; try with_reducible rfl)
        simp only [Act.put, List.setIfInBounds_toArray, List.set_cons_zero, List.set_cons_succ]
        refine wpAnyH_take (i := 8) (oi := ⟨some 122, _, _, _, _, _⟩) (v := ?v9) rfl (by kernel_rfl) (by kernel_rfl) (by kernel_rfl) (fun _ _ _ h => h) (Or.inl ⟨by rfl, ?hy9⟩) (by assumption) ?rest9
        case hy9 => (intro w hSw; (try dsimp only at hSw); go_simp; try with_reducible rfl)
        simp only [Act.put, List.setIfInBounds_toArray, List.set_cons_zero, List.set_cons_succ]
        refine wpAnyH_take (i := 9) (oi := ⟨some 123, _, _, _, _, _⟩) (v := ?v10) rfl (by kernel_rfl) (by kernel_rfl) (by kernel_rfl) (fun _ _ _ h => h) (Or.inl ⟨by rfl, ?hy10⟩) (by assumption) ?rest10
        case hy10 => (intro w hSw; (try dsimp only at hSw); go_simp; try with_reducible rfl)
        simp only [Act.put, List.setIfInBounds_toArray, List.set_cons_zero, List.set_cons_succ]
        refine wpAnyH_take (i := 11) (oi := ⟨some 125, _, _, _, _, _⟩) (v := ?v11) rfl (by kernel_rfl) (by kernel_rfl) (by kernel_rfl) (fun _ _ _ h => h) (Or.inl ⟨by rfl, ?hy11⟩) (by assumption) ?rest11
        case hy11 => (intro w hSw; (try dsimp only at hSw); go_simp; try with_reducible rfl)
        simp only [Act.put, List.setIfInBounds_toArray, List.set_cons_zero, List.set_cons_succ]
        refine wpAnyH_ready (rs := [10]) (by kernel_rfl) (by simp) ?_
        refine AllReadyH.cons (o := ⟨some 124, _, _, _, _, _⟩) rfl (fun K hK => ?_) AllReadyH.nil
        go_simp
        go_wp2_with (go_at_call 17; refine (HX1.out _ (T8.out.kept (Fr.refl _ _).drew)).mono ?_; rintro e v0 ⟨rfl, h1⟩; have V0 := hid h1; obtain ⟨y0a, y0b⟩ := HXA.out _ h1; clear h1)
        refine hK.out _ _ ?_ (fun hHeld => ?_)
        · exact ⟨y0a, y0b⟩
        clear hK K
        refine wpAnyH_ready (rs := [12]) (by kernel_rfl) (by simp) ?_
        refine AllReadyH.cons (o := ⟨some 126, _, _, _, _, _⟩) rfl (fun K hK => ?_) AllReadyH.nil
        go_simp
        go_wp2_with (go_at_call 18; refine (HX2.out _ V0.out).mono ?_; rintro e v1 ⟨rfl, h1⟩; have V1 := hid h1; obtain ⟨y1a, y1b⟩ := HXA.out _ h1; clear h1)
        refine hK.out _ _ ?_ (fun hHeld => ?_)
        · exact ⟨y1a, y1b⟩
        clear hK K
        refine wpAnyH_take (i := 13) (oi := ⟨some 127, _, _, _, _, _⟩) (v := ?v12) rfl (by kernel_rfl) (by kernel_rfl) (by kernel_rfl) (fun _ _ _ h => h) (Or.inl ⟨by rfl, ?hy12⟩) (by assumption) ?rest12
        case hy12 => (intro w hSw; (try dsimp only at hSw); go_simp; try with_reducible rfl)
        simp only [Act.put, List.setIfInBounds_toArray, List.set_cons_zero, List.set_cons_succ]
        refine wpAnyH_take (i := 14) (oi := ⟨some 128, _, _, _, _, _⟩) (v := ?v13) rfl (by kernel_rfl) (by kernel_rfl) (by kernel_rfl) (fun _ _ _ h => h) (Or.inl ⟨by rfl, ?hy13⟩) (by assumption) ?rest13
        case hy13 => (intro w hSw; (try dsimp only at hSw); go_simp; try with_reducible rfl)
        simp only [Act.put, List.setIfInBounds_toArray, List.set_cons_zero, List.set_cons_succ]
        refine wpAnyH_take (i := 15) (oi := ⟨some 129, _, _, _, _, _⟩) (v := ?v14) rfl (by kernel_rfl) (by kernel_rfl) (by kernel_rfl) (fun _ _ _ h => h) (Or.inl ⟨by rfl, ?hy14⟩) (by assumption) ?rest14
        case hy14 => (intro w hSw; (try dsimp only at hSw); go_simp; try with_reducible rfl)
        simp only [Act.put, List.setIfInBounds_toArray, List.set_cons_zero, List.set_cons_succ]
        refine wpAnyH_take (i := 16) (oi := ⟨some 130, _, _, _, _, _⟩) (v := ?v15) rfl (by kernel_rfl) (by kernel_rfl) (by kernel_rfl) (fun _ _ _ h => h) (Or.inl ⟨by rfl, ?hy15⟩) (by assumption) ?rest15
        case hy15 => (intro w hSw; (try dsimp only at hSw); go_simp; try with_reducible rfl)
        simp only [Act.put, List.setIfInBounds_toArray, List.set_cons_zero, List.set_cons_succ]
        refine wpAnyH_take (i := 18) (oi := ⟨some 132, _, _, _, _, _⟩) (v := ?v16) rfl (by kernel_rfl) (by kernel_rfl) (by kernel_rfl) (fun _ _ _ h => h) (Or.inl ⟨by rfl, ?hy16⟩) (by assumption) ?rest16
        case hy16 => (intro w hSw; (try dsimp only at hSw); go_simp; try with_reducible rfl)
        simp only [Act.put, List.setIfInBounds_toArray, List.set_cons_zero, List.set_cons_succ]
        refine wpAnyH_ready (rs := [17]) (by kernel_rfl) (by simp) ?_
        refine AllReadyH.cons (o := ⟨some 131, _, _, _, _, _⟩) rfl (fun K hK => ?_) AllReadyH.nil
        go_simp
        go_wp2_with (go_at_call 19; refine (HX3.out _ V1.out).mono ?_; rintro e v2 ⟨rfl, h1⟩; have V2 := hid h1; obtain ⟨y2a, y2b⟩ := HXA.out _ h1; clear h1)
        refine hK.out _ _ ?_ (fun hHeld => ?_)
        · exact ⟨y2a, y2b⟩
        clear hK K
        refine wpAnyH_ready (rs := [19]) (by kernel_rfl) (by simp) ?_
        refine AllReadyH.cons (o := ⟨some 133, _, _, _, _, _⟩) rfl (fun K hK => ?_) AllReadyH.nil
        go_simp
        go_wp2_with (go_at_call 20; refine (HX4.out _ V2.out).mono ?_; rintro e v3 ⟨rfl, h1⟩; have V3 := hid h1; obtain ⟨y3a, y3b⟩ := HXA.out _ h1; clear h1)
        refine hK.out _ _ ?_ (fun hHeld => ?_)
        · exact ⟨y3a, y3b⟩
        clear hK K
        refine wpAnyH_take (i := 20) (oi := ⟨some 134, _, _, _, _, _⟩) (v := ?v17) rfl (by kernel_rfl) (by kernel_rfl) (by kernel_rfl) (fun _ _ _ h => h) (Or.inl ⟨by rfl, ?hy17⟩) (by assumption) ?rest17
        case hy17 => (intro w hSw; (try dsimp only at hSw); go_simp; try with_reducible rfl)
        simp only [Act.put, List.setIfInBounds_toArray, List.set_cons_zero, List.set_cons_succ]
        refine wpAnyH_take (i := 21) (oi := ⟨some 135, _, _, _, _, _⟩) (v := ?v18) rfl (by kernel_rfl) (by kernel_rfl) (by kernel_rfl) (fun _ _ _ h => h) (Or.inl ⟨by rfl, ?hy18⟩) (by assumption) ?rest18
        case hy18 => (intro w hSw; (try dsimp only at hSw); go_simp; try with_reducible rfl)
        simp only [Act.put, List.setIfInBounds_toArray, List.set_cons_zero, List.set_cons_succ]
        refine wpAnyH_take (i := 22) (oi := ⟨some 136, _, _, _, _, _⟩) (v := ?v19) rfl (by kernel_rfl) (by kernel_rfl) (by kernel_rfl) (fun _ _ _ h => h) (Or.inl ⟨by rfl, ?hy19⟩) (by assumption) ?rest19
        case hy19 => (intro w hSw; (try dsimp only at hSw); go_simp; try with_reducible rfl)
        simp only [Act.put, List.setIfInBounds_toArray, List.set_cons_zero, List.set_cons_succ]
        refine wpAnyH_take (i := 23) (oi := ⟨some 137, _, _, _, _, _⟩) (v := ?v20) rfl (by kernel_rfl) (by kernel_rfl) (by kernel_rfl) (fun _ _ _ h => h) (Or.inl ⟨by rfl, ?hy20⟩) (by assumption) ?rest20
        case hy20 => (intro w hSw; (try dsimp only at hSw); go_simp; try with_reducible rfl)
        simp only [Act.put, List.setIfInBounds_toArray, List.set_cons_zero, List.set_cons_succ]
        refine wpAnyH_take (i := 24) (oi := ⟨some 138, _, _, _, _, _⟩) (v := ?v21) rfl (by kernel_rfl) (by kernel_rfl) (by kernel_rfl) (fun _ _ _ h => h) (Or.inl ⟨by rfl, ?hy21⟩) (by assumption) ?rest21
        case hy21 => (intro w hSw; (try dsimp only at hSw); go_simp; try with_reducible rfl)
        simp only [Act.put, List.setIfInBounds_toArray, List.set_cons_zero, List.set_cons_succ]
        refine wpAnyH_take (i := 25) (oi := ⟨some 139, _, _, _, _, _⟩) (v := ?v22) rfl (by kernel_rfl) (by kernel_rfl) (by kernel_rfl) (fun _ _ _ h => h) (Or.inl ⟨by rfl, ?hy22⟩) (by assumption) ?rest22
        case hy22 => (intro w hSw; (try dsimp only at hSw); go_simp; try with_reducible rfl)
        simp only [Act.put, List.setIfInBounds_toArray, List.set_cons_zero, List.set_cons_succ]
        refine wpAnyH_take (i := 27) (oi := ⟨some 141, _, _, _, _, _⟩) (v := ?v23) rfl (by kernel_rfl) (by kernel_rfl) (by kernel_rfl) (fun _ _ _ h => h) (Or.inl ⟨by rfl, ?hy23⟩) (by assumption) ?rest23
        case hy23 => (intro w hSw; (try dsimp only at hSw); go_simp; try with_reducible rfl)
        simp only [Act.put, List.setIfInBounds_toArray, List.set_cons_zero, List.set_cons_succ]
        refine wpAnyH_take (i := 28) (oi := ⟨some 142, _, _, _, _, _⟩) (v := ?v24) rfl (by kernel_rfl) (by kernel_rfl) (by kernel_rfl) (fun _ _ _ h => h) (Or.inl ⟨by rfl, ?hy24⟩) (by assumption) ?rest24
        case hy24 => (intro w hSw; (try dsimp only at hSw); go_simp; try with_reducible rfl)
        simp only [Act.put, List.setIfInBounds_toArray, List.set_cons_zero, List.set_cons_succ]
        refine wpAnyH_take (i := 29) (oi := ⟨some 143, _, _, _, _, _⟩) (v := ?v25) rfl (by kernel_rfl) (by kernel_rfl) (by kernel_rfl) (fun _ _ _ h => h) (Or.inl ⟨by rfl, ?hy25⟩) (by assumption) ?rest25
        case hy25 => (intro w hSw; (try dsimp only at hSw); go_simp; try with_reducible rfl)
        simp only [Act.put, List.setIfInBounds_toArray, List.set_cons_zero, List.set_cons_succ]
        refine wpAnyH_ready (rs := [26]) (by kernel_rfl) (by simp) ?_
        refine AllReadyH.cons (o := ⟨some 140, _, _, _, _, _⟩) rfl (fun K hK => ?_) AllReadyH.nil
        go_simp
        go_wp2_with (go_at_call 21; refine (HX5.out _ V3.out).mono ?_; rintro e v4 ⟨rfl, h1⟩; have V4 := hid h1; obtain ⟨y4a, y4b⟩ := HXA.out _ h1; clear h1)
        refine hK.out _ _ ?_ (fun hHeld => ?_)
        · exact ⟨y4a, y4b⟩
        clear hK K
        refine wpAnyH_ready (rs := [30]) (by kernel_rfl) (by simp) ?_
        refine AllReadyH.cons (o := ⟨some 144, _, _, _, _, _⟩) rfl (fun K hK => ?_) AllReadyH.nil
        go_simp
        go_wp2_with (go_at_call 22; refine (HX6.out _ V4.out).mono ?_; rintro e v5 ⟨rfl, h1⟩; have V5 := hid h1; obtain ⟨y5a, y5b⟩ := HXA.out _ h1; clear h1)
        refine hK.out _ _ ?_ (fun hHeld => ?_)
        · exact ⟨y5a, y5b⟩
        clear hK K
        refine wpAnyH_take (i := 31) (oi := ⟨some 145, _, _, _, _, _⟩) (v := ?v26) rfl (by kernel_rfl) (by kernel_rfl) (by kernel_rfl) (fun _ _ _ h => h) (Or.inl ⟨by rfl, ?hy26⟩) (by assumption) ?rest26
        case hy26 => (intro w hSw; (try dsimp only at hSw); go_simp; try with_reducible rfl)
        simp only [Act.put, List.setIfInBounds_toArray, List.set_cons_zero, List.set_cons_succ]
        refine wpAnyH_take (i := 32) (oi := ⟨some 146, _, _, _, _, _⟩) (v := ?v27) rfl (by kernel_rfl) (by kernel_rfl) (by kernel_rfl) (fun _ _ _ h => h) (Or.inl ⟨by rfl, ?hy27⟩) (by assumption) ?rest27
        case hy27 => (intro w hSw; (try dsimp only at hSw); go_simp; try with_reducible rfl)
        simp only [Act.put, List.setIfInBounds_toArray, List.set_cons_zero, List.set_cons_succ]
        refine wpAnyH_take (i := 33) (oi := ⟨some 147, _, _, _, _, _⟩) (v := ?v28) rfl (by kernel_rfl) (by kernel_rfl) (by kernel_rfl) (fun _ _ _ h => h) (Or.inl ⟨by rfl, ?hy28⟩) (by assumption) ?rest28
        case hy28 => (intro w hSw; (try dsimp only at hSw); go_simp; try with_reducible rfl)
        simp only [Act.put, List.setIfInBounds_toArray, List.set_cons_zero, List.set_cons_succ]
        refine wpAnyH_take (i := 34) (oi := ⟨some 148, _, _, _, _, _⟩) (v := ?v29) rfl (by kernel_rfl) (by kernel_rfl) (by kernel_rfl) (fun _ _ _ h => h) (Or.inl ⟨by rfl, ?hy29⟩) (by assumption) ?rest29
        case hy29 => (intro w hSw; (try dsimp only at hSw); go_simp; try with_reducible rfl)
        simp only [Act.put, List.setIfInBounds_toArray, List.set_cons_zero, List.set_cons_succ]
        refine wpAnyH_take (i := 36) (oi := ⟨some 150, _, _, _, _, _⟩) (v := ?v30) rfl (by kernel_rfl) (by kernel_rfl) (by kernel_rfl) (fun _ _ _ h => h) (Or.inl ⟨by rfl, ?hy30⟩) (by assumption) ?rest30
        case hy30 => (intro w hSw; (try dsimp only at hSw); go_simp; try with_reducible rfl)
        simp only [Act.put, List.setIfInBounds_toArray, List.set_cons_zero, List.set_cons_succ]
        refine wpAnyH_take (i := 37) (oi := ⟨some 151, _, _, _, _, _⟩) (v := ?v31) rfl (by kernel_rfl) (by kernel_rfl) (by kernel_rfl) (fun _ _ _ h => h) (Or.inl ⟨by rfl, ?hy31⟩) (by assumption) ?rest31
        case hy31 => (intro w hSw; (try dsimp only at hSw); go_simp; try with_reducible rfl)
        simp only [Act.put, List.setIfInBounds_toArray, List.set_cons_zero, List.set_cons_succ]
        refine wpAnyH_take (i := 38) (oi := ⟨some 152, _, _, _, _, _⟩) (v := ?v32) rfl (by kernel_rfl) (by kernel_rfl) (by kernel_rfl) (fun _ _ _ h => h) (Or.inl ⟨by rfl, ?hy32⟩) (by assumption) ?rest32
        case hy32 => (intro w hSw; (try dsimp only at hSw); go_simp; try with_reducible rfl)
        simp only [Act.put, List.setIfInBounds_toArray, List.set_cons_zero, List.set_cons_succ]
        refine wpAnyH_take (i := 39) (oi := ⟨some 153, _, _, _, _, _⟩) (v := ?v33) rfl (by kernel_rfl) (by kernel_rfl) (by kernel_rfl) (fun _ _ _ h => h) (Or.inl ⟨by rfl, ?hy33⟩) (by assumption) ?rest33
        case hy33 => (intro w hSw; (try dsimp only at hSw); go_simp; try with_reducible rfl)
        simp only [Act.put, List.setIfInBounds_toArray, List.set_cons_zero, List.set_cons_succ]
        refine wpAnyH_ready (rs := [35]) (by kernel_rfl) (by simp) ?_
        refine AllReadyH.cons (o := ⟨some 149, _, _, _, _, _⟩) rfl (fun K hK => ?_) AllReadyH.nil
        go_simp
        go_wp2_with (go_at_call 23; refine (HX7.out _ V5.out).mono ?_; rintro e v6 ⟨rfl, h1⟩; have V6 := hid h1; obtain ⟨y6a, y6b⟩ := HXA.out _ h1; clear h1)
        refine hK.out _ _ ?_ (fun hHeld => ?_)
        · exact ⟨y6a, y6b⟩
        clear hK K
        refine wpAnyH_take (i := 40) (oi := ⟨some 154, _, _, _, _, _⟩) (v := ?v34) rfl (by kernel_rfl) (by kernel_rfl) (by kernel_rfl) (fun _ _ _ h => h) (Or.inl ⟨by rfl, ?hy34⟩) (by assumption) ?rest34
        case hy34 => (intro w hSw; (try dsimp only at hSw); go_simp; try with_reducible rfl)
        simp only [Act.put, List.setIfInBounds_toArray, List.set_cons_zero, List.set_cons_succ]
        refine wpAnyH_take (i := 41) (oi := ⟨some 155, _, _, _, _, _⟩) (v := ?v35) rfl (by kernel_rfl) (by kernel_rfl) (by kernel_rfl) (fun _ _ _ h => h) (Or.inl ⟨by rfl, ?hy35⟩) (by assumption) ?rest35
        case hy35 => (intro w hSw; (try dsimp only at hSw); go_simp; try with_reducible rfl)
        simp only [Act.put, List.setIfInBounds_toArray, List.set_cons_zero, List.set_cons_succ]
        refine wpAnyH_take (i := 42) (oi := ⟨some 156, _, _, _, _, _⟩) (v := ?v36) rfl (by kernel_rfl) (by kernel_rfl) (by kernel_rfl) (fun _ _ _ h => h) (Or.inl ⟨by rfl, ?hy36⟩) (by assumption) ?rest36
        case hy36 => (intro w hSw; (try dsimp only at hSw); go_simp; try with_reducible rfl)
        simp only [Act.put, List.setIfInBounds_toArray, List.set_cons_zero, List.set_cons_succ]
        refine wpAnyH_take (i := 43) (oi := ⟨some 157, _, _, _, _, _⟩) (v := ?v37) rfl (by kernel_rfl) (by kernel_rfl) (by kernel_rfl) (fun _ _ _ h => h) (Or.inl ⟨by rfl, ?hy37⟩) (by assumption) ?rest37
        case hy37 => (intro w hSw; (try dsimp only at hSw); go_simp; try with_reducible rfl)
        simp only [Act.put, List.setIfInBounds_toArray, List.set_cons_zero, List.set_cons_succ]
        refine wpAnyH_take (i := 45) (oi := ⟨some 159, _, _, _, _, _⟩) (v := ?v38) rfl (by kernel_rfl) (by kernel_rfl) (by kernel_rfl) (fun _ _ _ h => h) (Or.inl ⟨by rfl, ?hy38⟩) (by assumption) ?rest38
        case hy38 => (intro w hSw; (try dsimp only at hSw); go_simp; try with_reducible rfl)
        simp only [Act.put, List.setIfInBounds_toArray, List.set_cons_zero, List.set_cons_succ]
        refine wpAnyH_ready (rs := [44]) (by kernel_rfl) (by simp) ?_
        refine AllReadyH.cons (o := ⟨some 158, _, _, _, _, _⟩) rfl (fun K hK => ?_) AllReadyH.nil
        go_simp
        go_wp2_with (go_at_call 24; refine (HX8.out _ V6.out).mono ?_; rintro e v7 ⟨rfl, h1⟩; have V7 := hid h1; obtain ⟨y7a, y7b⟩ := HXA.out _ h1; clear h1)
        refine hK.out _ _ ?_ (fun hHeld => ?_)
        · exact ⟨y7a, y7b⟩
        clear hK K
        refine wpAnyH_take (i := 46) (oi := ⟨some 160, _, _, _, _, _⟩) (v := ?v39) rfl (by kernel_rfl) (by kernel_rfl) (by kernel_rfl) (fun _ _ _ h => h) (Or.inl ⟨by rfl, ?hy39⟩) (by assumption) ?rest39
        case hy39 => (intro w hSw; (try dsimp only at hSw); go_simp; try with_reducible rfl)
        simp only [Act.put, List.setIfInBounds_toArray, List.set_cons_zero, List.set_cons_succ]
        refine wpAnyH_take (i := 47) (oi := ⟨some 161, _, _, _, _, _⟩) (v := ?v40) rfl (by kernel_rfl) (by kernel_rfl) (by kernel_rfl) (fun _ _ _ h => h) (Or.inl ⟨by rfl, ?hy40⟩) (by assumption) ?rest40
        case hy40 => (intro w hSw; (try dsimp only at hSw); go_simp; try with_reducible rfl)
        simp only [Act.put, List.setIfInBounds_toArray, List.set_cons_zero, List.set_cons_succ]
        refine wpAnyH_done (by kernel_rfl) ?_ _
        go_wp2
        go_roundw
        case rel => exact ⟨j + 1, by omega, by go_num, bs2, ss2, g2, OK2.out, HL2.out, HS2.out, HB2.out, HK2.out, Things.less (ts := [_, _]) V7.out⟩
        case measure => simp [intOf]; omega
      by_cases h2 : kd = 2
      · subst h2
        have H5 : Hid (∀ w0, Things w w0 [Pa a bs ss p g, Ra r bs ss q g, Blk B (.cells #[.int .i64 2, .int .i64 x] 39 (0, 0))] → Calls Tryd.prog 15 #[.pointer (some ⟨p, 0, none⟩), .int .i64 x] w0 fun e w' => e = .returned (.int .i64 (pfE g x)) ∧ Things w w' [Pa a (pfB g bs x) (pfT g ss x) p (pfS g x), Ra r bs ss q g, Blk B (.cells #[.int .i64 2, .int .i64 x] 39 (0, 0))]) := fun w0 h => g_free h HG.out 0 rfl OK0.out (by omega) HX0.out
        have H6 : Hid (∀ w0, Things w w0 [Pa a (pfB g bs x) (pfT g ss x) p (pfS g x), Ra r bs ss q g, Blk B (.cells #[.int .i64 2, .int .i64 x] 39 (0, 0))] → Calls Tryd.prog 16 #[.pointer (some ⟨q, 0, none⟩), .int .i64 x] w0 fun e w' => e = .returned (.int .i64 (pfE g x)) ∧ Things w w' [Pa a (pfB g bs x) (pfT g ss x) p (pfS g x), Ra r (pfB g bs x) (pfT g ss x) q (pfS g x), Blk B (.cells #[.int .i64 2, .int .i64 x] 39 (0, 0))]) := fun w0 h => z_free h HG.out.tab 1 rfl OK0.out (by omega) x
        have OK2 := hid (OK0.out.free x).1
        have HL2 : Hid ((pfB g bs x).length = N) := (OK0.out.free x).2.trans HLN.out
        have HS2 : Hid ((pfT g ss x).length ≤ 2 * (j + 1)) := by have := pfT_len g ss x; show _ ≤ _; omega
        have HB2 : Hid ((pfS g x).base = b) := (pfS_at g x).1.trans HGB.out
        have HK2 : Hid ((pfS g x).kind = k) := (pfS_at g x).2.trans HGK.out
        clear OK0 HLN HGB HGK
        generalize pfE g x = pe at *
        generalize pfB g bs x = bs2 at *
        generalize pfT g ss x = ss2 at *
        generalize pfS g x = g2 at *
        go_wp2_with fail
        go_region_held3 (fun w' => w'.cell? ⟨B, 1, none⟩ = some (.int .i64 x)) (first | exact (by assumption) | go_keep) (first | (go_at_call 15; refine (H5.out _ (T0.out.kept (Fr.refl _ _).drew)).mono ?_; rintro e w6 ⟨rfl, h6⟩; have T7 := hid h6; obtain ⟨c60, c61, _⟩ := cellZ (h6.cells 2 rfl); clear h6) | (go_at_call 16; refine (H6.out _ T7.out).mono ?_; rintro e w7 ⟨rfl, h7⟩; have T8 := hid h7; obtain ⟨c70, c71, _⟩ := cellZ (h7.cells 2 rfl); clear h7))
        have HX1 : Hid (∀ w0, Things w w0 [Pa a bs2 ss2 p g2, Ra r bs2 ss2 q g2, Blk B (.cells #[.int .i64 2, .int .i64 x] 39 (0, 0))] → Calls Tryd.prog 17 #[.pointer (some ⟨p, 0, none⟩)] w0 fun e w' => e = .returned (.int .i64 (g2.used : Int)) ∧ Things w w' [Pa a bs2 ss2 p g2, Ra r bs2 ss2 q g2, Blk B (.cells #[.int .i64 2, .int .i64 x] 39 (0, 0))]) := fun w0 h => g_used h HG.out 0 rfl OK2.out
        have HX2 : Hid (∀ w0, Things w w0 [Pa a bs2 ss2 p g2, Ra r bs2 ss2 q g2, Blk B (.cells #[.int .i64 2, .int .i64 x] 39 (0, 0))] → Calls Tryd.prog 18 #[.pointer (some ⟨q, 0, none⟩)] w0 fun e w' => e = .returned (.int .i64 (g2.used : Int)) ∧ Things w w' [Pa a bs2 ss2 p g2, Ra r bs2 ss2 q g2, Blk B (.cells #[.int .i64 2, .int .i64 x] 39 (0, 0))]) := fun w0 h => z_used h 1 rfl OK2.out
        have HX3 : Hid (∀ w0, Things w w0 [Pa a bs2 ss2 p g2, Ra r bs2 ss2 q g2, Blk B (.cells #[.int .i64 2, .int .i64 x] 39 (0, 0))] → Calls Tryd.prog 19 #[.pointer (some ⟨p, 0, none⟩)] w0 fun e w' => e = .returned (.bool (decide g2.Full)) ∧ Things w w' [Pa a bs2 ss2 p g2, Ra r bs2 ss2 q g2, Blk B (.cells #[.int .i64 2, .int .i64 x] 39 (0, 0))]) := fun w0 h => g_full h HG.out 0 rfl OK2.out
        have HX4 : Hid (∀ w0, Things w w0 [Pa a bs2 ss2 p g2, Ra r bs2 ss2 q g2, Blk B (.cells #[.int .i64 2, .int .i64 x] 39 (0, 0))] → Calls Tryd.prog 20 #[.pointer (some ⟨q, 0, none⟩)] w0 fun e w' => e = .returned (.bool (decide g2.Full)) ∧ Things w w' [Pa a bs2 ss2 p g2, Ra r bs2 ss2 q g2, Blk B (.cells #[.int .i64 2, .int .i64 x] 39 (0, 0))]) := fun w0 h => z_full h HG.out.tab 1 rfl OK2.out
        have HX5 : Hid (∀ w0, Things w w0 [Pa a bs2 ss2 p g2, Ra r bs2 ss2 q g2, Blk B (.cells #[.int .i64 2, .int .i64 x] 39 (0, 0))] → Calls Tryd.prog 21 #[.pointer (some ⟨p, 0, none⟩), .int .i64 x] w0 fun e w' => e = .returned (.bool (decide (g2.May x))) ∧ Things w w' [Pa a bs2 ss2 p g2, Ra r bs2 ss2 q g2, Blk B (.cells #[.int .i64 2, .int .i64 x] 39 (0, 0))]) := fun w0 h => g_has h HG.out 0 rfl OK2.out HX0.out
        have HX6 : Hid (∀ w0, Things w w0 [Pa a bs2 ss2 p g2, Ra r bs2 ss2 q g2, Blk B (.cells #[.int .i64 2, .int .i64 x] 39 (0, 0))] → Calls Tryd.prog 22 #[.pointer (some ⟨q, 0, none⟩), .int .i64 x] w0 fun e w' => e = .returned (.bool (decide (g2.May x))) ∧ Things w w' [Pa a bs2 ss2 p g2, Ra r bs2 ss2 q g2, Blk B (.cells #[.int .i64 2, .int .i64 x] 39 (0, 0))]) := fun w0 h => z_has h HG.out.tab 1 rfl OK2.out x
        have HX7 : Hid (∀ w0, Things w w0 [Pa a bs2 ss2 p g2, Ra r bs2 ss2 q g2, Blk B (.cells #[.int .i64 2, .int .i64 x] 39 (0, 0))] → Calls Tryd.prog 23 #[.pointer (some ⟨p, 0, none⟩)] w0 fun e w' => e = .returned (.int .i64 b) ∧ Things w w' [Pa a bs2 ss2 p g2, Ra r bs2 ss2 q g2, Blk B (.cells #[.int .i64 2, .int .i64 x] 39 (0, 0))]) := fun w0 h => by have := g_base h 0 rfl; rwa [HB2.out] at this
        have HX8 : Hid (∀ w0, Things w w0 [Pa a bs2 ss2 p g2, Ra r bs2 ss2 q g2, Blk B (.cells #[.int .i64 2, .int .i64 x] 39 (0, 0))] → Calls Tryd.prog 24 #[.pointer (some ⟨p, 0, none⟩)] w0 fun e w' => e = .returned (.int .i64 k) ∧ Things w w' [Pa a bs2 ss2 p g2, Ra r bs2 ss2 q g2, Blk B (.cells #[.int .i64 2, .int .i64 x] 39 (0, 0))]) := fun w0 h => by have := g_kind h 0 rfl; rwa [HK2.out] at this
        have HXA : Hid (∀ w0, Things w w0 [Pa a bs2 ss2 p g2, Ra r bs2 ss2 q g2, Blk B (.cells #[.int .i64 2, .int .i64 x] 39 (0, 0))] → w0.cell? ⟨q, 1, none⟩ = some (.int .i64 b) ∧ w0.cell? ⟨B, 1, none⟩ = some (.int .i64 x)) := fun w0 h => ⟨by have := (h.at12 1 rfl).1; rwa [HB2.out] at this, (cellZ (h.cells 2 rfl)).2.1⟩
        generalize (g2.used : Int) = un at HX1 HX2
        generalize decide g2.Full = fl at HX3 HX4
        generalize decide (g2.May x) = hs at HX5 HX6
        obtain ⟨y0, y1⟩ := HXA.out _ T8.out
        go_wp2_with fail
        refine wp_region_held_drew (S := fun w' => w'.cell? ⟨q, 1, none⟩ = some (.int .i64 b) ∧ w'.cell? ⟨B, 1, none⟩ = some (.int .i64 x)) (by kernel_rfl) ?_ (fun hHeld => ?_)
        · exact ⟨y0, y1⟩
        refine wpAnyH_take (i := 0) (oi := ⟨some 114, _, _, _, _, _⟩) (v := ?v41) rfl (by kernel_rfl) (by kernel_rfl) (by kernel_rfl) (fun _ _ _ h => h) (Or.inl ⟨by rfl, ?hy41⟩) (by assumption) ?rest41
        case hy41 => (intro w hSw; (try dsimp only at hSw); go_simp; try with_reducible rfl)
        simp only [Act.put, List.setIfInBounds_toArray, List.set_cons_zero, List.set_cons_succ]
        refine wpAnyH_take (i := 1) (oi := ⟨some 115, _, _, _, _, _⟩) (v := ?v42) rfl (by kernel_rfl) (by kernel_rfl) (by kernel_rfl) (fun _ _ _ h => h) (Or.inl ⟨by rfl, ?hy42⟩) (by assumption) ?rest42
        case hy42 => (intro w hSw; (try dsimp only at hSw); go_simp; try with_reducible rfl)
        simp only [Act.put, List.setIfInBounds_toArray, List.set_cons_zero, List.set_cons_succ]
        refine wpAnyH_take (i := 2) (oi := ⟨some 116, _, _, _, _, _⟩) (v := ?v43) rfl (by kernel_rfl) (by kernel_rfl) (by kernel_rfl) (fun _ _ _ h => h) (Or.inl ⟨by rfl, ?hy43⟩) (by assumption) ?rest43
        case hy43 => (intro w hSw; (try dsimp only at hSw); go_simp; try with_reducible rfl)
        simp only [Act.put, List.setIfInBounds_toArray, List.set_cons_zero, List.set_cons_succ]
        refine wpAnyH_take (i := 3) (oi := ⟨some 117, _, _, _, _, _⟩) (v := ?v44) rfl (by kernel_rfl) (by kernel_rfl) (by kernel_rfl) (fun _ _ _ h => h) (Or.inl ⟨by rfl, ?hy44⟩) (by assumption) ?rest44
        case hy44 => (intro w hSw; (try dsimp only at hSw); go_simp; try with_reducible rfl)
        simp only [Act.put, List.setIfInBounds_toArray, List.set_cons_zero, List.set_cons_succ]
        refine wpAnyH_take (i := 4) (oi := ⟨some 118, _, _, _, _, _⟩) (v := ?v45) rfl (by kernel_rfl) (by kernel_rfl) (by kernel_rfl) (fun _ _ _ h => h) (Or.inl ⟨by rfl, ?hy45⟩) (by assumption) ?rest45
        case hy45 => (intro w hSw; (try dsimp only at hSw); go_simp; try with_reducible rfl)
        simp only [Act.put, List.setIfInBounds_toArray, List.set_cons_zero, List.set_cons_succ]
        refine wpAnyH_take (i := 5) (oi := ⟨some 119, _, _, _, _, _⟩) (v := ?v46) rfl (by kernel_rfl) (by kernel_rfl) (by kernel_rfl) (fun _ _ _ h => h) (Or.inl ⟨by rfl, ?hy46⟩) (by assumption) ?rest46
        case hy46 => (intro w hSw; (try dsimp only at hSw); go_simp; try with_reducible rfl)
        simp only [Act.put, List.setIfInBounds_toArray, List.set_cons_zero, List.set_cons_succ]
        refine wpAnyH_take (i := 6) (oi := ⟨some 120, _, _, _, _, _⟩) (v := ?v47) rfl (by kernel_rfl) (by kernel_rfl) (by kernel_rfl) (fun _ _ _ h => h) (Or.inl ⟨by rfl, ?hy47⟩) (by assumption) ?rest47
        case hy47 => (intro w hSw; (try dsimp only at hSw); go_simp; try with_reducible rfl)
        simp only [Act.put, List.setIfInBounds_toArray, List.set_cons_zero, List.set_cons_succ]
        refine wpAnyH_take (i := 7) (oi := ⟨some 121, _, _, _, _, _⟩) (v := ?v48) rfl (by kernel_rfl) (by kernel_rfl) (by kernel_rfl) (fun _ _ _ h => h) (Or.inl ⟨by rfl, ?hy48⟩) (by assumption) ?rest48
        case hy48 => (intro w hSw; (try dsimp only at hSw); go_simp; try with_reducible rfl)
        simp only [Act.put, List.setIfInBounds_toArray, List.set_cons_zero, List.set_cons_succ]
        refine wpAnyH_take (i := 8) (oi := ⟨some 122, _, _, _, _, _⟩) (v := ?v49) rfl (by kernel_rfl) (by kernel_rfl) (by kernel_rfl) (fun _ _ _ h => h) (Or.inl ⟨by rfl, ?hy49⟩) (by assumption) ?rest49
        case hy49 => (intro w hSw; (try dsimp only at hSw); go_simp; try with_reducible rfl)
        simp only [Act.put, List.setIfInBounds_toArray, List.set_cons_zero, List.set_cons_succ]
        refine wpAnyH_take (i := 9) (oi := ⟨some 123, _, _, _, _, _⟩) (v := ?v50) rfl (by kernel_rfl) (by kernel_rfl) (by kernel_rfl) (fun _ _ _ h => h) (Or.inl ⟨by rfl, ?hy50⟩) (by assumption) ?rest50
        case hy50 => (intro w hSw; (try dsimp only at hSw); go_simp; try with_reducible rfl)
        simp only [Act.put, List.setIfInBounds_toArray, List.set_cons_zero, List.set_cons_succ]
        refine wpAnyH_take (i := 11) (oi := ⟨some 125, _, _, _, _, _⟩) (v := ?v51) rfl (by kernel_rfl) (by kernel_rfl) (by kernel_rfl) (fun _ _ _ h => h) (Or.inl ⟨by rfl, ?hy51⟩) (by assumption) ?rest51
        case hy51 => (intro w hSw; (try dsimp only at hSw); go_simp; try with_reducible rfl)
        simp only [Act.put, List.setIfInBounds_toArray, List.set_cons_zero, List.set_cons_succ]
        refine wpAnyH_ready (rs := [10]) (by kernel_rfl) (by simp) ?_
        refine AllReadyH.cons (o := ⟨some 124, _, _, _, _, _⟩) rfl (fun K hK => ?_) AllReadyH.nil
        go_simp
        go_wp2_with (go_at_call 17; refine (HX1.out _ (T8.out.kept (Fr.refl _ _).drew)).mono ?_; rintro e v0 ⟨rfl, h1⟩; have V0 := hid h1; obtain ⟨y0a, y0b⟩ := HXA.out _ h1; clear h1)
        refine hK.out _ _ ?_ (fun hHeld => ?_)
        · exact ⟨y0a, y0b⟩
        clear hK K
        refine wpAnyH_ready (rs := [12]) (by kernel_rfl) (by simp) ?_
        refine AllReadyH.cons (o := ⟨some 126, _, _, _, _, _⟩) rfl (fun K hK => ?_) AllReadyH.nil
        go_simp
        go_wp2_with (go_at_call 18; refine (HX2.out _ V0.out).mono ?_; rintro e v1 ⟨rfl, h1⟩; have V1 := hid h1; obtain ⟨y1a, y1b⟩ := HXA.out _ h1; clear h1)
        refine hK.out _ _ ?_ (fun hHeld => ?_)
        · exact ⟨y1a, y1b⟩
        clear hK K
        refine wpAnyH_take (i := 13) (oi := ⟨some 127, _, _, _, _, _⟩) (v := ?v52) rfl (by kernel_rfl) (by kernel_rfl) (by kernel_rfl) (fun _ _ _ h => h) (Or.inl ⟨by rfl, ?hy52⟩) (by assumption) ?rest52
        case hy52 => (intro w hSw; (try dsimp only at hSw); go_simp; try with_reducible rfl)
        simp only [Act.put, List.setIfInBounds_toArray, List.set_cons_zero, List.set_cons_succ]
        refine wpAnyH_take (i := 14) (oi := ⟨some 128, _, _, _, _, _⟩) (v := ?v53) rfl (by kernel_rfl) (by kernel_rfl) (by kernel_rfl) (fun _ _ _ h => h) (Or.inl ⟨by rfl, ?hy53⟩) (by assumption) ?rest53
        case hy53 => (intro w hSw; (try dsimp only at hSw); go_simp; try with_reducible rfl)
        simp only [Act.put, List.setIfInBounds_toArray, List.set_cons_zero, List.set_cons_succ]
        refine wpAnyH_take (i := 15) (oi := ⟨some 129, _, _, _, _, _⟩) (v := ?v54) rfl (by kernel_rfl) (by kernel_rfl) (by kernel_rfl) (fun _ _ _ h => h) (Or.inl ⟨by rfl, ?hy54⟩) (by assumption) ?rest54
        case hy54 => (intro w hSw; (try dsimp only at hSw); go_simp; try with_reducible rfl)
        simp only [Act.put, List.setIfInBounds_toArray, List.set_cons_zero, List.set_cons_succ]
        refine wpAnyH_take (i := 16) (oi := ⟨some 130, _, _, _, _, _⟩) (v := ?v55) rfl (by kernel_rfl) (by kernel_rfl) (by kernel_rfl) (fun _ _ _ h => h) (Or.inl ⟨by rfl, ?hy55⟩) (by assumption) ?rest55
        case hy55 => (intro w hSw; (try dsimp only at hSw); go_simp; try with_reducible rfl)
        simp only [Act.put, List.setIfInBounds_toArray, List.set_cons_zero, List.set_cons_succ]
        refine wpAnyH_take (i := 18) (oi := ⟨some 132, _, _, _, _, _⟩) (v := ?v56) rfl (by kernel_rfl) (by kernel_rfl) (by kernel_rfl) (fun _ _ _ h => h) (Or.inl ⟨by rfl, ?hy56⟩) (by assumption) ?rest56
        case hy56 => (intro w hSw; (try dsimp only at hSw); go_simp; try with_reducible rfl)
        simp only [Act.put, List.setIfInBounds_toArray, List.set_cons_zero, List.set_cons_succ]
        refine wpAnyH_ready (rs := [17]) (by kernel_rfl) (by simp) ?_
        refine AllReadyH.cons (o := ⟨some 131, _, _, _, _, _⟩) rfl (fun K hK => ?_) AllReadyH.nil
        go_simp
        go_wp2_with (go_at_call 19; refine (HX3.out _ V1.out).mono ?_; rintro e v2 ⟨rfl, h1⟩; have V2 := hid h1; obtain ⟨y2a, y2b⟩ := HXA.out _ h1; clear h1)
        refine hK.out _ _ ?_ (fun hHeld => ?_)
        · exact ⟨y2a, y2b⟩
        clear hK K
        refine wpAnyH_ready (rs := [19]) (by kernel_rfl) (by simp) ?_
        refine AllReadyH.cons (o := ⟨some 133, _, _, _, _, _⟩) rfl (fun K hK => ?_) AllReadyH.nil
        go_simp
        go_wp2_with (go_at_call 20; refine (HX4.out _ V2.out).mono ?_; rintro e v3 ⟨rfl, h1⟩; have V3 := hid h1; obtain ⟨y3a, y3b⟩ := HXA.out _ h1; clear h1)
        refine hK.out _ _ ?_ (fun hHeld => ?_)
        · exact ⟨y3a, y3b⟩
        clear hK K
        refine wpAnyH_take (i := 20) (oi := ⟨some 134, _, _, _, _, _⟩) (v := ?v57) rfl (by kernel_rfl) (by kernel_rfl) (by kernel_rfl) (fun _ _ _ h => h) (Or.inl ⟨by rfl, ?hy57⟩) (by assumption) ?rest57
        case hy57 => (intro w hSw; (try dsimp only at hSw); go_simp; try with_reducible rfl)
        simp only [Act.put, List.setIfInBounds_toArray, List.set_cons_zero, List.set_cons_succ]
        refine wpAnyH_take (i := 21) (oi := ⟨some 135, _, _, _, _, _⟩) (v := ?v58) rfl (by kernel_rfl) (by kernel_rfl) (by kernel_rfl) (fun _ _ _ h => h) (Or.inl ⟨by rfl, ?hy58⟩) (by assumption) ?rest58
        case hy58 => (intro w hSw; (try dsimp only at hSw); go_simp; try with_reducible rfl)
        simp only [Act.put, List.setIfInBounds_toArray, List.set_cons_zero, List.set_cons_succ]
        refine wpAnyH_take (i := 22) (oi := ⟨some 136, _, _, _, _, _⟩) (v := ?v59) rfl (by kernel_rfl) (by kernel_rfl) (by kernel_rfl) (fun _ _ _ h => h) (Or.inl ⟨by rfl, ?hy59⟩) (by assumption) ?rest59
        case hy59 => (intro w hSw; (try dsimp only at hSw); go_simp; try with_reducible rfl)
        simp only [Act.put, List.setIfInBounds_toArray, List.set_cons_zero, List.set_cons_succ]
        refine wpAnyH_take (i := 23) (oi := ⟨some 137, _, _, _, _, _⟩) (v := ?v60) rfl (by kernel_rfl) (by kernel_rfl) (by kernel_rfl) (fun _ _ _ h => h) (Or.inl ⟨by rfl, ?hy60⟩) (by assumption) ?rest60
        case hy60 => (intro w hSw; (try dsimp only at hSw); go_simp; try with_reducible rfl)
        simp only [Act.put, List.setIfInBounds_toArray, List.set_cons_zero, List.set_cons_succ]
        refine wpAnyH_take (i := 24) (oi := ⟨some 138, _, _, _, _, _⟩) (v := ?v61) rfl (by kernel_rfl) (by kernel_rfl) (by kernel_rfl) (fun _ _ _ h => h) (Or.inl ⟨by rfl, ?hy61⟩) (by assumption) ?rest61
        case hy61 => (intro w hSw; (try dsimp only at hSw); go_simp; try with_reducible rfl)
        simp only [Act.put, List.setIfInBounds_toArray, List.set_cons_zero, List.set_cons_succ]
        refine wpAnyH_take (i := 25) (oi := ⟨some 139, _, _, _, _, _⟩) (v := ?v62) rfl (by kernel_rfl) (by kernel_rfl) (by kernel_rfl) (fun _ _ _ h => h) (Or.inl ⟨by rfl, ?hy62⟩) (by assumption) ?rest62
        case hy62 => (intro w hSw; (try dsimp only at hSw); go_simp; try with_reducible rfl)
        simp only [Act.put, List.setIfInBounds_toArray, List.set_cons_zero, List.set_cons_succ]
        refine wpAnyH_take (i := 27) (oi := ⟨some 141, _, _, _, _, _⟩) (v := ?v63) rfl (by kernel_rfl) (by kernel_rfl) (by kernel_rfl) (fun _ _ _ h => h) (Or.inl ⟨by rfl, ?hy63⟩) (by assumption) ?rest63
        case hy63 => (intro w hSw; (try dsimp only at hSw); go_simp; try with_reducible rfl)
        simp only [Act.put, List.setIfInBounds_toArray, List.set_cons_zero, List.set_cons_succ]
        refine wpAnyH_take (i := 28) (oi := ⟨some 142, _, _, _, _, _⟩) (v := ?v64) rfl (by kernel_rfl) (by kernel_rfl) (by kernel_rfl) (fun _ _ _ h => h) (Or.inl ⟨by rfl, ?hy64⟩) (by assumption) ?rest64
        case hy64 => (intro w hSw; (try dsimp only at hSw); go_simp; try with_reducible rfl)
        simp only [Act.put, List.setIfInBounds_toArray, List.set_cons_zero, List.set_cons_succ]
        refine wpAnyH_take (i := 29) (oi := ⟨some 143, _, _, _, _, _⟩) (v := ?v65) rfl (by kernel_rfl) (by kernel_rfl) (by kernel_rfl) (fun _ _ _ h => h) (Or.inl ⟨by rfl, ?hy65⟩) (by assumption) ?rest65
        case hy65 => (intro w hSw; (try dsimp only at hSw); go_simp; try with_reducible rfl)
        simp only [Act.put, List.setIfInBounds_toArray, List.set_cons_zero, List.set_cons_succ]
        refine wpAnyH_ready (rs := [26]) (by kernel_rfl) (by simp) ?_
        refine AllReadyH.cons (o := ⟨some 140, _, _, _, _, _⟩) rfl (fun K hK => ?_) AllReadyH.nil
        go_simp
        go_wp2_with (go_at_call 21; refine (HX5.out _ V3.out).mono ?_; rintro e v4 ⟨rfl, h1⟩; have V4 := hid h1; obtain ⟨y4a, y4b⟩ := HXA.out _ h1; clear h1)
        refine hK.out _ _ ?_ (fun hHeld => ?_)
        · exact ⟨y4a, y4b⟩
        clear hK K
        refine wpAnyH_ready (rs := [30]) (by kernel_rfl) (by simp) ?_
        refine AllReadyH.cons (o := ⟨some 144, _, _, _, _, _⟩) rfl (fun K hK => ?_) AllReadyH.nil
        go_simp
        go_wp2_with (go_at_call 22; refine (HX6.out _ V4.out).mono ?_; rintro e v5 ⟨rfl, h1⟩; have V5 := hid h1; obtain ⟨y5a, y5b⟩ := HXA.out _ h1; clear h1)
        refine hK.out _ _ ?_ (fun hHeld => ?_)
        · exact ⟨y5a, y5b⟩
        clear hK K
        refine wpAnyH_take (i := 31) (oi := ⟨some 145, _, _, _, _, _⟩) (v := ?v66) rfl (by kernel_rfl) (by kernel_rfl) (by kernel_rfl) (fun _ _ _ h => h) (Or.inl ⟨by rfl, ?hy66⟩) (by assumption) ?rest66
        case hy66 => (intro w hSw; (try dsimp only at hSw); go_simp; try with_reducible rfl)
        simp only [Act.put, List.setIfInBounds_toArray, List.set_cons_zero, List.set_cons_succ]
        refine wpAnyH_take (i := 32) (oi := ⟨some 146, _, _, _, _, _⟩) (v := ?v67) rfl (by kernel_rfl) (by kernel_rfl) (by kernel_rfl) (fun _ _ _ h => h) (Or.inl ⟨by rfl, ?hy67⟩) (by assumption) ?rest67
        case hy67 => (intro w hSw; (try dsimp only at hSw); go_simp; try with_reducible rfl)
        simp only [Act.put, List.setIfInBounds_toArray, List.set_cons_zero, List.set_cons_succ]
        refine wpAnyH_take (i := 33) (oi := ⟨some 147, _, _, _, _, _⟩) (v := ?v68) rfl (by kernel_rfl) (by kernel_rfl) (by kernel_rfl) (fun _ _ _ h => h) (Or.inl ⟨by rfl, ?hy68⟩) (by assumption) ?rest68
        case hy68 => (intro w hSw; (try dsimp only at hSw); go_simp; try with_reducible rfl)
        simp only [Act.put, List.setIfInBounds_toArray, List.set_cons_zero, List.set_cons_succ]
        refine wpAnyH_take (i := 34) (oi := ⟨some 148, _, _, _, _, _⟩) (v := ?v69) rfl (by kernel_rfl) (by kernel_rfl) (by kernel_rfl) (fun _ _ _ h => h) (Or.inl ⟨by rfl, ?hy69⟩) (by assumption) ?rest69
        case hy69 => (intro w hSw; (try dsimp only at hSw); go_simp; try with_reducible rfl)
        simp only [Act.put, List.setIfInBounds_toArray, List.set_cons_zero, List.set_cons_succ]
        refine wpAnyH_take (i := 36) (oi := ⟨some 150, _, _, _, _, _⟩) (v := ?v70) rfl (by kernel_rfl) (by kernel_rfl) (by kernel_rfl) (fun _ _ _ h => h) (Or.inl ⟨by rfl, ?hy70⟩) (by assumption) ?rest70
        case hy70 => (intro w hSw; (try dsimp only at hSw); go_simp; try with_reducible rfl)
        simp only [Act.put, List.setIfInBounds_toArray, List.set_cons_zero, List.set_cons_succ]
        refine wpAnyH_take (i := 37) (oi := ⟨some 151, _, _, _, _, _⟩) (v := ?v71) rfl (by kernel_rfl) (by kernel_rfl) (by kernel_rfl) (fun _ _ _ h => h) (Or.inl ⟨by rfl, ?hy71⟩) (by assumption) ?rest71
        case hy71 => (intro w hSw; (try dsimp only at hSw); go_simp; try with_reducible rfl)
        simp only [Act.put, List.setIfInBounds_toArray, List.set_cons_zero, List.set_cons_succ]
        refine wpAnyH_take (i := 38) (oi := ⟨some 152, _, _, _, _, _⟩) (v := ?v72) rfl (by kernel_rfl) (by kernel_rfl) (by kernel_rfl) (fun _ _ _ h => h) (Or.inl ⟨by rfl, ?hy72⟩) (by assumption) ?rest72
        case hy72 => (intro w hSw; (try dsimp only at hSw); go_simp; try with_reducible rfl)
        simp only [Act.put, List.setIfInBounds_toArray, List.set_cons_zero, List.set_cons_succ]
        refine wpAnyH_take (i := 39) (oi := ⟨some 153, _, _, _, _, _⟩) (v := ?v73) rfl (by kernel_rfl) (by kernel_rfl) (by kernel_rfl) (fun _ _ _ h => h) (Or.inl ⟨by rfl, ?hy73⟩) (by assumption) ?rest73
        case hy73 => (intro w hSw; (try dsimp only at hSw); go_simp; try with_reducible rfl)
        simp only [Act.put, List.setIfInBounds_toArray, List.set_cons_zero, List.set_cons_succ]
        refine wpAnyH_ready (rs := [35]) (by kernel_rfl) (by simp) ?_
        refine AllReadyH.cons (o := ⟨some 149, _, _, _, _, _⟩) rfl (fun K hK => ?_) AllReadyH.nil
        go_simp
        go_wp2_with (go_at_call 23; refine (HX7.out _ V5.out).mono ?_; rintro e v6 ⟨rfl, h1⟩; have V6 := hid h1; obtain ⟨y6a, y6b⟩ := HXA.out _ h1; clear h1)
        refine hK.out _ _ ?_ (fun hHeld => ?_)
        · exact ⟨y6a, y6b⟩
        clear hK K
        refine wpAnyH_take (i := 40) (oi := ⟨some 154, _, _, _, _, _⟩) (v := ?v74) rfl (by kernel_rfl) (by kernel_rfl) (by kernel_rfl) (fun _ _ _ h => h) (Or.inl ⟨by rfl, ?hy74⟩) (by assumption) ?rest74
        case hy74 => (intro w hSw; (try dsimp only at hSw); go_simp; try with_reducible rfl)
        simp only [Act.put, List.setIfInBounds_toArray, List.set_cons_zero, List.set_cons_succ]
        refine wpAnyH_take (i := 41) (oi := ⟨some 155, _, _, _, _, _⟩) (v := ?v75) rfl (by kernel_rfl) (by kernel_rfl) (by kernel_rfl) (fun _ _ _ h => h) (Or.inl ⟨by rfl, ?hy75⟩) (by assumption) ?rest75
        case hy75 => (intro w hSw; (try dsimp only at hSw); go_simp; try with_reducible rfl)
        simp only [Act.put, List.setIfInBounds_toArray, List.set_cons_zero, List.set_cons_succ]
        refine wpAnyH_take (i := 42) (oi := ⟨some 156, _, _, _, _, _⟩) (v := ?v76) rfl (by kernel_rfl) (by kernel_rfl) (by kernel_rfl) (fun _ _ _ h => h) (Or.inl ⟨by rfl, ?hy76⟩) (by assumption) ?rest76
        case hy76 => (intro w hSw; (try dsimp only at hSw); go_simp; try with_reducible rfl)
        simp only [Act.put, List.setIfInBounds_toArray, List.set_cons_zero, List.set_cons_succ]
        refine wpAnyH_take (i := 43) (oi := ⟨some 157, _, _, _, _, _⟩) (v := ?v77) rfl (by kernel_rfl) (by kernel_rfl) (by kernel_rfl) (fun _ _ _ h => h) (Or.inl ⟨by rfl, ?hy77⟩) (by assumption) ?rest77
        case hy77 => (intro w hSw; (try dsimp only at hSw); go_simp; try with_reducible rfl)
        simp only [Act.put, List.setIfInBounds_toArray, List.set_cons_zero, List.set_cons_succ]
        refine wpAnyH_take (i := 45) (oi := ⟨some 159, _, _, _, _, _⟩) (v := ?v78) rfl (by kernel_rfl) (by kernel_rfl) (by kernel_rfl) (fun _ _ _ h => h) (Or.inl ⟨by rfl, ?hy78⟩) (by assumption) ?rest78
        case hy78 => (intro w hSw; (try dsimp only at hSw); go_simp; try with_reducible rfl)
        simp only [Act.put, List.setIfInBounds_toArray, List.set_cons_zero, List.set_cons_succ]
        refine wpAnyH_ready (rs := [44]) (by kernel_rfl) (by simp) ?_
        refine AllReadyH.cons (o := ⟨some 158, _, _, _, _, _⟩) rfl (fun K hK => ?_) AllReadyH.nil
        go_simp
        go_wp2_with (go_at_call 24; refine (HX8.out _ V6.out).mono ?_; rintro e v7 ⟨rfl, h1⟩; have V7 := hid h1; obtain ⟨y7a, y7b⟩ := HXA.out _ h1; clear h1)
        refine hK.out _ _ ?_ (fun hHeld => ?_)
        · exact ⟨y7a, y7b⟩
        clear hK K
        refine wpAnyH_take (i := 46) (oi := ⟨some 160, _, _, _, _, _⟩) (v := ?v79) rfl (by kernel_rfl) (by kernel_rfl) (by kernel_rfl) (fun _ _ _ h => h) (Or.inl ⟨by rfl, ?hy79⟩) (by assumption) ?rest79
        case hy79 => (intro w hSw; (try dsimp only at hSw); go_simp; try with_reducible rfl)
        simp only [Act.put, List.setIfInBounds_toArray, List.set_cons_zero, List.set_cons_succ]
        refine wpAnyH_take (i := 47) (oi := ⟨some 161, _, _, _, _, _⟩) (v := ?v80) rfl (by kernel_rfl) (by kernel_rfl) (by kernel_rfl) (fun _ _ _ h => h) (Or.inl ⟨by rfl, ?hy80⟩) (by assumption) ?rest80
        case hy80 => (intro w hSw; (try dsimp only at hSw); go_simp; try with_reducible rfl)
        simp only [Act.put, List.setIfInBounds_toArray, List.set_cons_zero, List.set_cons_succ]
        refine wpAnyH_done (by kernel_rfl) ?_ _
        go_wp2
        go_roundw
        case rel => exact ⟨j + 1, by omega, by go_num, bs2, ss2, g2, OK2.out, HL2.out, HS2.out, HB2.out, HK2.out, Things.less (ts := [_, _]) V7.out⟩
        case measure => simp [intOf]; omega
      by_cases h3 : kd = 3
      · subst h3
        have H4 : Hid (∀ w0, Things w w0 [Pa a bs ss p g, Ra r bs ss q g, Blk B (.cells #[.int .i64 3, .int .i64 x] 39 (0, 0))] → Calls Tryd.prog 12 #[.pointer (some ⟨q, 0, none⟩), .int .i64 x] w0 fun e w' => ∃ v, e = .returned (.int .i64 v) ∧ I64 v ∧ Things w w' [Pa a bs ss p g, Ra r bs ss q g, Blk B (.cells #[.int .i64 3, .int .i64 x] 39 (0, 0))]) := fun w0 h => (had_any (h.here12 1 rfl) (h.at12 1 rfl).2 x).mono fun e w' ⟨⟨v, he, h1, h2⟩, f⟩ => ⟨v, he, ⟨by omega, by omega⟩, h.kept f⟩
        have HSET : Hid (∀ w0 v, Things w w0 [Pa a bs ss p g, Ra r bs ss q g, Blk B (.cells #[.int .i64 3, .int .i64 x] 39 (0, 0))] → Things w ((w0.setCell ⟨B, 0, none⟩ (.int .i64 2)).setCell ⟨B, 1, none⟩ (.int .i64 v)) [Pa a bs ss p g, Ra r bs ss q g, Blk B (.cells #[.int .i64 2, .int .i64 v] 39 (0, 0))]) := fun w0 v h => (h.setAt 2 rfl 0 (.int .i64 2)).setAt 2 rfl 1 (.int .i64 v)
        go_wp2_with fail
        refine (H4.out _ T0.out).mono ?_
        rintro e wb ⟨v, rfl, hv, hb⟩
        have HX1 : Hid (I64 v) := hv
        have Tb := hid (HSET.out wb v hb)
        obtain ⟨b0, b1, fzb⟩ := cellZ (hb.cells 2 rfl)
        obtain ⟨d0, d1, _⟩ := cellZ (Tb.out.cells 2 rfl)
        clear hb hv H4 HSET T0 c0 c1 fz HX0
        have H5 : Hid (∀ w0, Things w w0 [Pa a bs ss p g, Ra r bs ss q g, Blk B (.cells #[.int .i64 2, .int .i64 v] 39 (0, 0))] → Calls Tryd.prog 15 #[.pointer (some ⟨p, 0, none⟩), .int .i64 v] w0 fun e w' => e = .returned (.int .i64 (pfE g v)) ∧ Things w w' [Pa a (pfB g bs v) (pfT g ss v) p (pfS g v), Ra r bs ss q g, Blk B (.cells #[.int .i64 2, .int .i64 v] 39 (0, 0))]) := fun w0 h => g_free h HG.out 0 rfl OK0.out (by omega) HX1.out
        have H6 : Hid (∀ w0, Things w w0 [Pa a (pfB g bs v) (pfT g ss v) p (pfS g v), Ra r bs ss q g, Blk B (.cells #[.int .i64 2, .int .i64 v] 39 (0, 0))] → Calls Tryd.prog 16 #[.pointer (some ⟨q, 0, none⟩), .int .i64 v] w0 fun e w' => e = .returned (.int .i64 (pfE g v)) ∧ Things w w' [Pa a (pfB g bs v) (pfT g ss v) p (pfS g v), Ra r (pfB g bs v) (pfT g ss v) q (pfS g v), Blk B (.cells #[.int .i64 2, .int .i64 v] 39 (0, 0))]) := fun w0 h => z_free h HG.out.tab 1 rfl OK0.out (by omega) v
        have OK2 := hid (OK0.out.free v).1
        have HL2 : Hid ((pfB g bs v).length = N) := (OK0.out.free v).2.trans HLN.out
        have HS2 : Hid ((pfT g ss v).length ≤ 2 * (j + 1)) := by have := pfT_len g ss v; show _ ≤ _; omega
        have HB2 : Hid ((pfS g v).base = b) := (pfS_at g v).1.trans HGB.out
        have HK2 : Hid ((pfS g v).kind = k) := (pfS_at g v).2.trans HGK.out
        clear OK0 HLN HGB HGK
        generalize pfE g v = pe at *
        generalize pfB g bs v = bs2 at *
        generalize pfT g ss v = ss2 at *
        generalize pfS g v = g2 at *
        go_wp2_with fail
        go_region_held3 (fun w' => w'.cell? ⟨B, 1, none⟩ = some (.int .i64 v)) (first | exact (by assumption) | go_keep) (first | (go_at_call 15; refine (H5.out _ (Tb.out.kept (Fr.refl _ _).drew)).mono ?_; rintro e w6 ⟨rfl, h6⟩; have T7 := hid h6; obtain ⟨c60, c61, _⟩ := cellZ (h6.cells 2 rfl); clear h6) | (go_at_call 16; refine (H6.out _ T7.out).mono ?_; rintro e w7 ⟨rfl, h7⟩; have T8 := hid h7; obtain ⟨c70, c71, _⟩ := cellZ (h7.cells 2 rfl); clear h7))
        have HXU : Hid (∀ w0, Things w w0 [Pa a bs2 ss2 p g2, Ra r bs2 ss2 q g2, Blk B (.cells #[.int .i64 2, .int .i64 v] 39 (0, 0))] → Calls Tryd.prog 17 #[.pointer (some ⟨p, 0, none⟩)] w0 fun e w' => e = .returned (.int .i64 (g2.used : Int)) ∧ Things w w' [Pa a bs2 ss2 p g2, Ra r bs2 ss2 q g2, Blk B (.cells #[.int .i64 2, .int .i64 v] 39 (0, 0))]) := fun w0 h => g_used h HG.out 0 rfl OK2.out
        have HX2 : Hid (∀ w0, Things w w0 [Pa a bs2 ss2 p g2, Ra r bs2 ss2 q g2, Blk B (.cells #[.int .i64 2, .int .i64 v] 39 (0, 0))] → Calls Tryd.prog 18 #[.pointer (some ⟨q, 0, none⟩)] w0 fun e w' => e = .returned (.int .i64 (g2.used : Int)) ∧ Things w w' [Pa a bs2 ss2 p g2, Ra r bs2 ss2 q g2, Blk B (.cells #[.int .i64 2, .int .i64 v] 39 (0, 0))]) := fun w0 h => z_used h 1 rfl OK2.out
        have HX3 : Hid (∀ w0, Things w w0 [Pa a bs2 ss2 p g2, Ra r bs2 ss2 q g2, Blk B (.cells #[.int .i64 2, .int .i64 v] 39 (0, 0))] → Calls Tryd.prog 19 #[.pointer (some ⟨p, 0, none⟩)] w0 fun e w' => e = .returned (.bool (decide g2.Full)) ∧ Things w w' [Pa a bs2 ss2 p g2, Ra r bs2 ss2 q g2, Blk B (.cells #[.int .i64 2, .int .i64 v] 39 (0, 0))]) := fun w0 h => g_full h HG.out 0 rfl OK2.out
        have HX4 : Hid (∀ w0, Things w w0 [Pa a bs2 ss2 p g2, Ra r bs2 ss2 q g2, Blk B (.cells #[.int .i64 2, .int .i64 v] 39 (0, 0))] → Calls Tryd.prog 20 #[.pointer (some ⟨q, 0, none⟩)] w0 fun e w' => e = .returned (.bool (decide g2.Full)) ∧ Things w w' [Pa a bs2 ss2 p g2, Ra r bs2 ss2 q g2, Blk B (.cells #[.int .i64 2, .int .i64 v] 39 (0, 0))]) := fun w0 h => z_full h HG.out.tab 1 rfl OK2.out
        have HX5 : Hid (∀ w0, Things w w0 [Pa a bs2 ss2 p g2, Ra r bs2 ss2 q g2, Blk B (.cells #[.int .i64 2, .int .i64 v] 39 (0, 0))] → Calls Tryd.prog 21 #[.pointer (some ⟨p, 0, none⟩), .int .i64 v] w0 fun e w' => e = .returned (.bool (decide (g2.May v))) ∧ Things w w' [Pa a bs2 ss2 p g2, Ra r bs2 ss2 q g2, Blk B (.cells #[.int .i64 2, .int .i64 v] 39 (0, 0))]) := fun w0 h => g_has h HG.out 0 rfl OK2.out HX1.out
        have HX6 : Hid (∀ w0, Things w w0 [Pa a bs2 ss2 p g2, Ra r bs2 ss2 q g2, Blk B (.cells #[.int .i64 2, .int .i64 v] 39 (0, 0))] → Calls Tryd.prog 22 #[.pointer (some ⟨q, 0, none⟩), .int .i64 v] w0 fun e w' => e = .returned (.bool (decide (g2.May v))) ∧ Things w w' [Pa a bs2 ss2 p g2, Ra r bs2 ss2 q g2, Blk B (.cells #[.int .i64 2, .int .i64 v] 39 (0, 0))]) := fun w0 h => z_has h HG.out.tab 1 rfl OK2.out v
        have HX7 : Hid (∀ w0, Things w w0 [Pa a bs2 ss2 p g2, Ra r bs2 ss2 q g2, Blk B (.cells #[.int .i64 2, .int .i64 v] 39 (0, 0))] → Calls Tryd.prog 23 #[.pointer (some ⟨p, 0, none⟩)] w0 fun e w' => e = .returned (.int .i64 b) ∧ Things w w' [Pa a bs2 ss2 p g2, Ra r bs2 ss2 q g2, Blk B (.cells #[.int .i64 2, .int .i64 v] 39 (0, 0))]) := fun w0 h => by have := g_base h 0 rfl; rwa [HB2.out] at this
        have HX8 : Hid (∀ w0, Things w w0 [Pa a bs2 ss2 p g2, Ra r bs2 ss2 q g2, Blk B (.cells #[.int .i64 2, .int .i64 v] 39 (0, 0))] → Calls Tryd.prog 24 #[.pointer (some ⟨p, 0, none⟩)] w0 fun e w' => e = .returned (.int .i64 k) ∧ Things w w' [Pa a bs2 ss2 p g2, Ra r bs2 ss2 q g2, Blk B (.cells #[.int .i64 2, .int .i64 v] 39 (0, 0))]) := fun w0 h => by have := g_kind h 0 rfl; rwa [HK2.out] at this
        have HXA : Hid (∀ w0, Things w w0 [Pa a bs2 ss2 p g2, Ra r bs2 ss2 q g2, Blk B (.cells #[.int .i64 2, .int .i64 v] 39 (0, 0))] → w0.cell? ⟨q, 1, none⟩ = some (.int .i64 b) ∧ w0.cell? ⟨B, 1, none⟩ = some (.int .i64 v)) := fun w0 h => ⟨by have := (h.at12 1 rfl).1; rwa [HB2.out] at this, (cellZ (h.cells 2 rfl)).2.1⟩
        generalize (g2.used : Int) = un at HXU HX2
        generalize decide g2.Full = fl at HX3 HX4
        generalize decide (g2.May v) = hs at HX5 HX6
        obtain ⟨y0, y1⟩ := HXA.out _ T8.out
        go_wp2_with fail
        refine wp_region_held_drew (S := fun w' => w'.cell? ⟨q, 1, none⟩ = some (.int .i64 b) ∧ w'.cell? ⟨B, 1, none⟩ = some (.int .i64 v)) (by kernel_rfl) ?_ (fun hHeld => ?_)
        · exact ⟨y0, y1⟩
        refine wpAnyH_take (i := 0) (oi := ⟨some 114, _, _, _, _, _⟩) (v := ?v81) rfl (by kernel_rfl) (by kernel_rfl) (by kernel_rfl) (fun _ _ _ h => h) (Or.inl ⟨by rfl, ?hy81⟩) (by assumption) ?rest81
        case hy81 => (intro w hSw; (try dsimp only at hSw); go_simp; try with_reducible rfl)
        simp only [Act.put, List.setIfInBounds_toArray, List.set_cons_zero, List.set_cons_succ]
        refine wpAnyH_take (i := 1) (oi := ⟨some 115, _, _, _, _, _⟩) (v := ?v82) rfl (by kernel_rfl) (by kernel_rfl) (by kernel_rfl) (fun _ _ _ h => h) (Or.inl ⟨by rfl, ?hy82⟩) (by assumption) ?rest82
        case hy82 => (intro w hSw; (try dsimp only at hSw); go_simp; try with_reducible rfl)
        simp only [Act.put, List.setIfInBounds_toArray, List.set_cons_zero, List.set_cons_succ]
        refine wpAnyH_take (i := 2) (oi := ⟨some 116, _, _, _, _, _⟩) (v := ?v83) rfl (by kernel_rfl) (by kernel_rfl) (by kernel_rfl) (fun _ _ _ h => h) (Or.inl ⟨by rfl, ?hy83⟩) (by assumption) ?rest83
        case hy83 => (intro w hSw; (try dsimp only at hSw); go_simp; try with_reducible rfl)
        simp only [Act.put, List.setIfInBounds_toArray, List.set_cons_zero, List.set_cons_succ]
        refine wpAnyH_take (i := 3) (oi := ⟨some 117, _, _, _, _, _⟩) (v := ?v84) rfl (by kernel_rfl) (by kernel_rfl) (by kernel_rfl) (fun _ _ _ h => h) (Or.inl ⟨by rfl, ?hy84⟩) (by assumption) ?rest84
        case hy84 => (intro w hSw; (try dsimp only at hSw); go_simp; try with_reducible rfl)
        simp only [Act.put, List.setIfInBounds_toArray, List.set_cons_zero, List.set_cons_succ]
        refine wpAnyH_take (i := 4) (oi := ⟨some 118, _, _, _, _, _⟩) (v := ?v85) rfl (by kernel_rfl) (by kernel_rfl) (by kernel_rfl) (fun _ _ _ h => h) (Or.inl ⟨by rfl, ?hy85⟩) (by assumption) ?rest85
        case hy85 => (intro w hSw; (try dsimp only at hSw); go_simp; try with_reducible rfl)
        simp only [Act.put, List.setIfInBounds_toArray, List.set_cons_zero, List.set_cons_succ]
        refine wpAnyH_take (i := 5) (oi := ⟨some 119, _, _, _, _, _⟩) (v := ?v86) rfl (by kernel_rfl) (by kernel_rfl) (by kernel_rfl) (fun _ _ _ h => h) (Or.inl ⟨by rfl, ?hy86⟩) (by assumption) ?rest86
        case hy86 => (intro w hSw; (try dsimp only at hSw); go_simp; try with_reducible rfl)
        simp only [Act.put, List.setIfInBounds_toArray, List.set_cons_zero, List.set_cons_succ]
        refine wpAnyH_take (i := 6) (oi := ⟨some 120, _, _, _, _, _⟩) (v := ?v87) rfl (by kernel_rfl) (by kernel_rfl) (by kernel_rfl) (fun _ _ _ h => h) (Or.inl ⟨by rfl, ?hy87⟩) (by assumption) ?rest87
        case hy87 => (intro w hSw; (try dsimp only at hSw); go_simp; try with_reducible rfl)
        simp only [Act.put, List.setIfInBounds_toArray, List.set_cons_zero, List.set_cons_succ]
        refine wpAnyH_take (i := 7) (oi := ⟨some 121, _, _, _, _, _⟩) (v := ?v88) rfl (by kernel_rfl) (by kernel_rfl) (by kernel_rfl) (fun _ _ _ h => h) (Or.inl ⟨by rfl, ?hy88⟩) (by assumption) ?rest88
        case hy88 => (intro w hSw; (try dsimp only at hSw); go_simp; try with_reducible rfl)
        simp only [Act.put, List.setIfInBounds_toArray, List.set_cons_zero, List.set_cons_succ]
        refine wpAnyH_take (i := 8) (oi := ⟨some 122, _, _, _, _, _⟩) (v := ?v89) rfl (by kernel_rfl) (by kernel_rfl) (by kernel_rfl) (fun _ _ _ h => h) (Or.inl ⟨by rfl, ?hy89⟩) (by assumption) ?rest89
        case hy89 => (intro w hSw; (try dsimp only at hSw); go_simp; try with_reducible rfl)
        simp only [Act.put, List.setIfInBounds_toArray, List.set_cons_zero, List.set_cons_succ]
        refine wpAnyH_take (i := 9) (oi := ⟨some 123, _, _, _, _, _⟩) (v := ?v90) rfl (by kernel_rfl) (by kernel_rfl) (by kernel_rfl) (fun _ _ _ h => h) (Or.inl ⟨by rfl, ?hy90⟩) (by assumption) ?rest90
        case hy90 => (intro w hSw; (try dsimp only at hSw); go_simp; try with_reducible rfl)
        simp only [Act.put, List.setIfInBounds_toArray, List.set_cons_zero, List.set_cons_succ]
        refine wpAnyH_take (i := 11) (oi := ⟨some 125, _, _, _, _, _⟩) (v := ?v91) rfl (by kernel_rfl) (by kernel_rfl) (by kernel_rfl) (fun _ _ _ h => h) (Or.inl ⟨by rfl, ?hy91⟩) (by assumption) ?rest91
        case hy91 => (intro w hSw; (try dsimp only at hSw); go_simp; try with_reducible rfl)
        simp only [Act.put, List.setIfInBounds_toArray, List.set_cons_zero, List.set_cons_succ]
        refine wpAnyH_ready (rs := [10]) (by kernel_rfl) (by simp) ?_
        refine AllReadyH.cons (o := ⟨some 124, _, _, _, _, _⟩) rfl (fun K hK => ?_) AllReadyH.nil
        go_simp
        go_wp2_with (go_at_call 17; refine (HXU.out _ (T8.out.kept (Fr.refl _ _).drew)).mono ?_; rintro e v0 ⟨rfl, h1⟩; have V0 := hid h1; obtain ⟨y0a, y0b⟩ := HXA.out _ h1; clear h1)
        refine hK.out _ _ ?_ (fun hHeld => ?_)
        · exact ⟨y0a, y0b⟩
        clear hK K
        refine wpAnyH_ready (rs := [12]) (by kernel_rfl) (by simp) ?_
        refine AllReadyH.cons (o := ⟨some 126, _, _, _, _, _⟩) rfl (fun K hK => ?_) AllReadyH.nil
        go_simp
        go_wp2_with (go_at_call 18; refine (HX2.out _ V0.out).mono ?_; rintro e v1 ⟨rfl, h1⟩; have V1 := hid h1; obtain ⟨y1a, y1b⟩ := HXA.out _ h1; clear h1)
        refine hK.out _ _ ?_ (fun hHeld => ?_)
        · exact ⟨y1a, y1b⟩
        clear hK K
        refine wpAnyH_take (i := 13) (oi := ⟨some 127, _, _, _, _, _⟩) (v := ?v92) rfl (by kernel_rfl) (by kernel_rfl) (by kernel_rfl) (fun _ _ _ h => h) (Or.inl ⟨by rfl, ?hy92⟩) (by assumption) ?rest92
        case hy92 => (intro w hSw; (try dsimp only at hSw); go_simp; try with_reducible rfl)
        simp only [Act.put, List.setIfInBounds_toArray, List.set_cons_zero, List.set_cons_succ]
        refine wpAnyH_take (i := 14) (oi := ⟨some 128, _, _, _, _, _⟩) (v := ?v93) rfl (by kernel_rfl) (by kernel_rfl) (by kernel_rfl) (fun _ _ _ h => h) (Or.inl ⟨by rfl, ?hy93⟩) (by assumption) ?rest93
        case hy93 => (intro w hSw; (try dsimp only at hSw); go_simp; try with_reducible rfl)
        simp only [Act.put, List.setIfInBounds_toArray, List.set_cons_zero, List.set_cons_succ]
        refine wpAnyH_take (i := 15) (oi := ⟨some 129, _, _, _, _, _⟩) (v := ?v94) rfl (by kernel_rfl) (by kernel_rfl) (by kernel_rfl) (fun _ _ _ h => h) (Or.inl ⟨by rfl, ?hy94⟩) (by assumption) ?rest94
        case hy94 => (intro w hSw; (try dsimp only at hSw); go_simp; try with_reducible rfl)
        simp only [Act.put, List.setIfInBounds_toArray, List.set_cons_zero, List.set_cons_succ]
        refine wpAnyH_take (i := 16) (oi := ⟨some 130, _, _, _, _, _⟩) (v := ?v95) rfl (by kernel_rfl) (by kernel_rfl) (by kernel_rfl) (fun _ _ _ h => h) (Or.inl ⟨by rfl, ?hy95⟩) (by assumption) ?rest95
        case hy95 => (intro w hSw; (try dsimp only at hSw); go_simp; try with_reducible rfl)
        simp only [Act.put, List.setIfInBounds_toArray, List.set_cons_zero, List.set_cons_succ]
        refine wpAnyH_take (i := 18) (oi := ⟨some 132, _, _, _, _, _⟩) (v := ?v96) rfl (by kernel_rfl) (by kernel_rfl) (by kernel_rfl) (fun _ _ _ h => h) (Or.inl ⟨by rfl, ?hy96⟩) (by assumption) ?rest96
        case hy96 => (intro w hSw; (try dsimp only at hSw); go_simp; try with_reducible rfl)
        simp only [Act.put, List.setIfInBounds_toArray, List.set_cons_zero, List.set_cons_succ]
        refine wpAnyH_ready (rs := [17]) (by kernel_rfl) (by simp) ?_
        refine AllReadyH.cons (o := ⟨some 131, _, _, _, _, _⟩) rfl (fun K hK => ?_) AllReadyH.nil
        go_simp
        go_wp2_with (go_at_call 19; refine (HX3.out _ V1.out).mono ?_; rintro e v2 ⟨rfl, h1⟩; have V2 := hid h1; obtain ⟨y2a, y2b⟩ := HXA.out _ h1; clear h1)
        refine hK.out _ _ ?_ (fun hHeld => ?_)
        · exact ⟨y2a, y2b⟩
        clear hK K
        refine wpAnyH_ready (rs := [19]) (by kernel_rfl) (by simp) ?_
        refine AllReadyH.cons (o := ⟨some 133, _, _, _, _, _⟩) rfl (fun K hK => ?_) AllReadyH.nil
        go_simp
        go_wp2_with (go_at_call 20; refine (HX4.out _ V2.out).mono ?_; rintro e v3 ⟨rfl, h1⟩; have V3 := hid h1; obtain ⟨y3a, y3b⟩ := HXA.out _ h1; clear h1)
        refine hK.out _ _ ?_ (fun hHeld => ?_)
        · exact ⟨y3a, y3b⟩
        clear hK K
        refine wpAnyH_take (i := 20) (oi := ⟨some 134, _, _, _, _, _⟩) (v := ?v97) rfl (by kernel_rfl) (by kernel_rfl) (by kernel_rfl) (fun _ _ _ h => h) (Or.inl ⟨by rfl, ?hy97⟩) (by assumption) ?rest97
        case hy97 => (intro w hSw; (try dsimp only at hSw); go_simp; try with_reducible rfl)
        simp only [Act.put, List.setIfInBounds_toArray, List.set_cons_zero, List.set_cons_succ]
        refine wpAnyH_take (i := 21) (oi := ⟨some 135, _, _, _, _, _⟩) (v := ?v98) rfl (by kernel_rfl) (by kernel_rfl) (by kernel_rfl) (fun _ _ _ h => h) (Or.inl ⟨by rfl, ?hy98⟩) (by assumption) ?rest98
        case hy98 => (intro w hSw; (try dsimp only at hSw); go_simp; try with_reducible rfl)
        simp only [Act.put, List.setIfInBounds_toArray, List.set_cons_zero, List.set_cons_succ]
        refine wpAnyH_take (i := 22) (oi := ⟨some 136, _, _, _, _, _⟩) (v := ?v99) rfl (by kernel_rfl) (by kernel_rfl) (by kernel_rfl) (fun _ _ _ h => h) (Or.inl ⟨by rfl, ?hy99⟩) (by assumption) ?rest99
        case hy99 => (intro w hSw; (try dsimp only at hSw); go_simp; try with_reducible rfl)
        simp only [Act.put, List.setIfInBounds_toArray, List.set_cons_zero, List.set_cons_succ]
        refine wpAnyH_take (i := 23) (oi := ⟨some 137, _, _, _, _, _⟩) (v := ?v100) rfl (by kernel_rfl) (by kernel_rfl) (by kernel_rfl) (fun _ _ _ h => h) (Or.inl ⟨by rfl, ?hy100⟩) (by assumption) ?rest100
        case hy100 => (intro w hSw; (try dsimp only at hSw); go_simp; try with_reducible rfl)
        simp only [Act.put, List.setIfInBounds_toArray, List.set_cons_zero, List.set_cons_succ]
        refine wpAnyH_take (i := 24) (oi := ⟨some 138, _, _, _, _, _⟩) (v := ?v101) rfl (by kernel_rfl) (by kernel_rfl) (by kernel_rfl) (fun _ _ _ h => h) (Or.inl ⟨by rfl, ?hy101⟩) (by assumption) ?rest101
        case hy101 => (intro w hSw; (try dsimp only at hSw); go_simp; try with_reducible rfl)
        simp only [Act.put, List.setIfInBounds_toArray, List.set_cons_zero, List.set_cons_succ]
        refine wpAnyH_take (i := 25) (oi := ⟨some 139, _, _, _, _, _⟩) (v := ?v102) rfl (by kernel_rfl) (by kernel_rfl) (by kernel_rfl) (fun _ _ _ h => h) (Or.inl ⟨by rfl, ?hy102⟩) (by assumption) ?rest102
        case hy102 => (intro w hSw; (try dsimp only at hSw); go_simp; try with_reducible rfl)
        simp only [Act.put, List.setIfInBounds_toArray, List.set_cons_zero, List.set_cons_succ]
        refine wpAnyH_take (i := 27) (oi := ⟨some 141, _, _, _, _, _⟩) (v := ?v103) rfl (by kernel_rfl) (by kernel_rfl) (by kernel_rfl) (fun _ _ _ h => h) (Or.inl ⟨by rfl, ?hy103⟩) (by assumption) ?rest103
        case hy103 => (intro w hSw; (try dsimp only at hSw); go_simp; try with_reducible rfl)
        simp only [Act.put, List.setIfInBounds_toArray, List.set_cons_zero, List.set_cons_succ]
        refine wpAnyH_take (i := 28) (oi := ⟨some 142, _, _, _, _, _⟩) (v := ?v104) rfl (by kernel_rfl) (by kernel_rfl) (by kernel_rfl) (fun _ _ _ h => h) (Or.inl ⟨by rfl, ?hy104⟩) (by assumption) ?rest104
        case hy104 => (intro w hSw; (try dsimp only at hSw); go_simp; try with_reducible rfl)
        simp only [Act.put, List.setIfInBounds_toArray, List.set_cons_zero, List.set_cons_succ]
        refine wpAnyH_take (i := 29) (oi := ⟨some 143, _, _, _, _, _⟩) (v := ?v105) rfl (by kernel_rfl) (by kernel_rfl) (by kernel_rfl) (fun _ _ _ h => h) (Or.inl ⟨by rfl, ?hy105⟩) (by assumption) ?rest105
        case hy105 => (intro w hSw; (try dsimp only at hSw); go_simp; try with_reducible rfl)
        simp only [Act.put, List.setIfInBounds_toArray, List.set_cons_zero, List.set_cons_succ]
        refine wpAnyH_ready (rs := [26]) (by kernel_rfl) (by simp) ?_
        refine AllReadyH.cons (o := ⟨some 140, _, _, _, _, _⟩) rfl (fun K hK => ?_) AllReadyH.nil
        go_simp
        go_wp2_with (go_at_call 21; refine (HX5.out _ V3.out).mono ?_; rintro e v4 ⟨rfl, h1⟩; have V4 := hid h1; obtain ⟨y4a, y4b⟩ := HXA.out _ h1; clear h1)
        refine hK.out _ _ ?_ (fun hHeld => ?_)
        · exact ⟨y4a, y4b⟩
        clear hK K
        refine wpAnyH_ready (rs := [30]) (by kernel_rfl) (by simp) ?_
        refine AllReadyH.cons (o := ⟨some 144, _, _, _, _, _⟩) rfl (fun K hK => ?_) AllReadyH.nil
        go_simp
        go_wp2_with (go_at_call 22; refine (HX6.out _ V4.out).mono ?_; rintro e v5 ⟨rfl, h1⟩; have V5 := hid h1; obtain ⟨y5a, y5b⟩ := HXA.out _ h1; clear h1)
        refine hK.out _ _ ?_ (fun hHeld => ?_)
        · exact ⟨y5a, y5b⟩
        clear hK K
        refine wpAnyH_take (i := 31) (oi := ⟨some 145, _, _, _, _, _⟩) (v := ?v106) rfl (by kernel_rfl) (by kernel_rfl) (by kernel_rfl) (fun _ _ _ h => h) (Or.inl ⟨by rfl, ?hy106⟩) (by assumption) ?rest106
        case hy106 => (intro w hSw; (try dsimp only at hSw); go_simp; try with_reducible rfl)
        simp only [Act.put, List.setIfInBounds_toArray, List.set_cons_zero, List.set_cons_succ]
        refine wpAnyH_take (i := 32) (oi := ⟨some 146, _, _, _, _, _⟩) (v := ?v107) rfl (by kernel_rfl) (by kernel_rfl) (by kernel_rfl) (fun _ _ _ h => h) (Or.inl ⟨by rfl, ?hy107⟩) (by assumption) ?rest107
        case hy107 => (intro w hSw; (try dsimp only at hSw); go_simp; try with_reducible rfl)
        simp only [Act.put, List.setIfInBounds_toArray, List.set_cons_zero, List.set_cons_succ]
        refine wpAnyH_take (i := 33) (oi := ⟨some 147, _, _, _, _, _⟩) (v := ?v108) rfl (by kernel_rfl) (by kernel_rfl) (by kernel_rfl) (fun _ _ _ h => h) (Or.inl ⟨by rfl, ?hy108⟩) (by assumption) ?rest108
        case hy108 => (intro w hSw; (try dsimp only at hSw); go_simp; try with_reducible rfl)
        simp only [Act.put, List.setIfInBounds_toArray, List.set_cons_zero, List.set_cons_succ]
        refine wpAnyH_take (i := 34) (oi := ⟨some 148, _, _, _, _, _⟩) (v := ?v109) rfl (by kernel_rfl) (by kernel_rfl) (by kernel_rfl) (fun _ _ _ h => h) (Or.inl ⟨by rfl, ?hy109⟩) (by assumption) ?rest109
        case hy109 => (intro w hSw; (try dsimp only at hSw); go_simp; try with_reducible rfl)
        simp only [Act.put, List.setIfInBounds_toArray, List.set_cons_zero, List.set_cons_succ]
        refine wpAnyH_take (i := 36) (oi := ⟨some 150, _, _, _, _, _⟩) (v := ?v110) rfl (by kernel_rfl) (by kernel_rfl) (by kernel_rfl) (fun _ _ _ h => h) (Or.inl ⟨by rfl, ?hy110⟩) (by assumption) ?rest110
        case hy110 => (intro w hSw; (try dsimp only at hSw); go_simp; try with_reducible rfl)
        simp only [Act.put, List.setIfInBounds_toArray, List.set_cons_zero, List.set_cons_succ]
        refine wpAnyH_take (i := 37) (oi := ⟨some 151, _, _, _, _, _⟩) (v := ?v111) rfl (by kernel_rfl) (by kernel_rfl) (by kernel_rfl) (fun _ _ _ h => h) (Or.inl ⟨by rfl, ?hy111⟩) (by assumption) ?rest111
        case hy111 => (intro w hSw; (try dsimp only at hSw); go_simp; try with_reducible rfl)
        simp only [Act.put, List.setIfInBounds_toArray, List.set_cons_zero, List.set_cons_succ]
        refine wpAnyH_take (i := 38) (oi := ⟨some 152, _, _, _, _, _⟩) (v := ?v112) rfl (by kernel_rfl) (by kernel_rfl) (by kernel_rfl) (fun _ _ _ h => h) (Or.inl ⟨by rfl, ?hy112⟩) (by assumption) ?rest112
        case hy112 => (intro w hSw; (try dsimp only at hSw); go_simp; try with_reducible rfl)
        simp only [Act.put, List.setIfInBounds_toArray, List.set_cons_zero, List.set_cons_succ]
        refine wpAnyH_take (i := 39) (oi := ⟨some 153, _, _, _, _, _⟩) (v := ?v113) rfl (by kernel_rfl) (by kernel_rfl) (by kernel_rfl) (fun _ _ _ h => h) (Or.inl ⟨by rfl, ?hy113⟩) (by assumption) ?rest113
        case hy113 => (intro w hSw; (try dsimp only at hSw); go_simp; try with_reducible rfl)
        simp only [Act.put, List.setIfInBounds_toArray, List.set_cons_zero, List.set_cons_succ]
        refine wpAnyH_ready (rs := [35]) (by kernel_rfl) (by simp) ?_
        refine AllReadyH.cons (o := ⟨some 149, _, _, _, _, _⟩) rfl (fun K hK => ?_) AllReadyH.nil
        go_simp
        go_wp2_with (go_at_call 23; refine (HX7.out _ V5.out).mono ?_; rintro e v6 ⟨rfl, h1⟩; have V6 := hid h1; obtain ⟨y6a, y6b⟩ := HXA.out _ h1; clear h1)
        refine hK.out _ _ ?_ (fun hHeld => ?_)
        · exact ⟨y6a, y6b⟩
        clear hK K
        refine wpAnyH_take (i := 40) (oi := ⟨some 154, _, _, _, _, _⟩) (v := ?v114) rfl (by kernel_rfl) (by kernel_rfl) (by kernel_rfl) (fun _ _ _ h => h) (Or.inl ⟨by rfl, ?hy114⟩) (by assumption) ?rest114
        case hy114 => (intro w hSw; (try dsimp only at hSw); go_simp; try with_reducible rfl)
        simp only [Act.put, List.setIfInBounds_toArray, List.set_cons_zero, List.set_cons_succ]
        refine wpAnyH_take (i := 41) (oi := ⟨some 155, _, _, _, _, _⟩) (v := ?v115) rfl (by kernel_rfl) (by kernel_rfl) (by kernel_rfl) (fun _ _ _ h => h) (Or.inl ⟨by rfl, ?hy115⟩) (by assumption) ?rest115
        case hy115 => (intro w hSw; (try dsimp only at hSw); go_simp; try with_reducible rfl)
        simp only [Act.put, List.setIfInBounds_toArray, List.set_cons_zero, List.set_cons_succ]
        refine wpAnyH_take (i := 42) (oi := ⟨some 156, _, _, _, _, _⟩) (v := ?v116) rfl (by kernel_rfl) (by kernel_rfl) (by kernel_rfl) (fun _ _ _ h => h) (Or.inl ⟨by rfl, ?hy116⟩) (by assumption) ?rest116
        case hy116 => (intro w hSw; (try dsimp only at hSw); go_simp; try with_reducible rfl)
        simp only [Act.put, List.setIfInBounds_toArray, List.set_cons_zero, List.set_cons_succ]
        refine wpAnyH_take (i := 43) (oi := ⟨some 157, _, _, _, _, _⟩) (v := ?v117) rfl (by kernel_rfl) (by kernel_rfl) (by kernel_rfl) (fun _ _ _ h => h) (Or.inl ⟨by rfl, ?hy117⟩) (by assumption) ?rest117
        case hy117 => (intro w hSw; (try dsimp only at hSw); go_simp; try with_reducible rfl)
        simp only [Act.put, List.setIfInBounds_toArray, List.set_cons_zero, List.set_cons_succ]
        refine wpAnyH_take (i := 45) (oi := ⟨some 159, _, _, _, _, _⟩) (v := ?v118) rfl (by kernel_rfl) (by kernel_rfl) (by kernel_rfl) (fun _ _ _ h => h) (Or.inl ⟨by rfl, ?hy118⟩) (by assumption) ?rest118
        case hy118 => (intro w hSw; (try dsimp only at hSw); go_simp; try with_reducible rfl)
        simp only [Act.put, List.setIfInBounds_toArray, List.set_cons_zero, List.set_cons_succ]
        refine wpAnyH_ready (rs := [44]) (by kernel_rfl) (by simp) ?_
        refine AllReadyH.cons (o := ⟨some 158, _, _, _, _, _⟩) rfl (fun K hK => ?_) AllReadyH.nil
        go_simp
        go_wp2_with (go_at_call 24; refine (HX8.out _ V6.out).mono ?_; rintro e v7 ⟨rfl, h1⟩; have V7 := hid h1; obtain ⟨y7a, y7b⟩ := HXA.out _ h1; clear h1)
        refine hK.out _ _ ?_ (fun hHeld => ?_)
        · exact ⟨y7a, y7b⟩
        clear hK K
        refine wpAnyH_take (i := 46) (oi := ⟨some 160, _, _, _, _, _⟩) (v := ?v119) rfl (by kernel_rfl) (by kernel_rfl) (by kernel_rfl) (fun _ _ _ h => h) (Or.inl ⟨by rfl, ?hy119⟩) (by assumption) ?rest119
        case hy119 => (intro w hSw; (try dsimp only at hSw); go_simp; try with_reducible rfl)
        simp only [Act.put, List.setIfInBounds_toArray, List.set_cons_zero, List.set_cons_succ]
        refine wpAnyH_take (i := 47) (oi := ⟨some 161, _, _, _, _, _⟩) (v := ?v120) rfl (by kernel_rfl) (by kernel_rfl) (by kernel_rfl) (fun _ _ _ h => h) (Or.inl ⟨by rfl, ?hy120⟩) (by assumption) ?rest120
        case hy120 => (intro w hSw; (try dsimp only at hSw); go_simp; try with_reducible rfl)
        simp only [Act.put, List.setIfInBounds_toArray, List.set_cons_zero, List.set_cons_succ]
        refine wpAnyH_done (by kernel_rfl) ?_ _
        go_wp2
        go_roundw
        case rel => exact ⟨j + 1, by omega, by go_num, bs2, ss2, g2, OK2.out, HL2.out, HS2.out, HB2.out, HK2.out, Things.less (ts := [_, _]) V7.out⟩
        case measure => simp [intOf]; omega
      have HSN : Hid (ss.length ≤ 2 * (j + 1)) := by show _ ≤ _; omega
      have HX1 : Hid (∀ w0, Things w w0 [Pa a bs ss p g, Ra r bs ss q g, Blk B (.cells #[.int .i64 kd, .int .i64 x] 39 (0, 0))] → Calls Tryd.prog 17 #[.pointer (some ⟨p, 0, none⟩)] w0 fun e w' => e = .returned (.int .i64 (g.used : Int)) ∧ Things w w' [Pa a bs ss p g, Ra r bs ss q g, Blk B (.cells #[.int .i64 kd, .int .i64 x] 39 (0, 0))]) := fun w0 h => g_used h HG.out 0 rfl OK0.out
      have HX2 : Hid (∀ w0, Things w w0 [Pa a bs ss p g, Ra r bs ss q g, Blk B (.cells #[.int .i64 kd, .int .i64 x] 39 (0, 0))] → Calls Tryd.prog 18 #[.pointer (some ⟨q, 0, none⟩)] w0 fun e w' => e = .returned (.int .i64 (g.used : Int)) ∧ Things w w' [Pa a bs ss p g, Ra r bs ss q g, Blk B (.cells #[.int .i64 kd, .int .i64 x] 39 (0, 0))]) := fun w0 h => z_used h 1 rfl OK0.out
      have HX3 : Hid (∀ w0, Things w w0 [Pa a bs ss p g, Ra r bs ss q g, Blk B (.cells #[.int .i64 kd, .int .i64 x] 39 (0, 0))] → Calls Tryd.prog 19 #[.pointer (some ⟨p, 0, none⟩)] w0 fun e w' => e = .returned (.bool (decide g.Full)) ∧ Things w w' [Pa a bs ss p g, Ra r bs ss q g, Blk B (.cells #[.int .i64 kd, .int .i64 x] 39 (0, 0))]) := fun w0 h => g_full h HG.out 0 rfl OK0.out
      have HX4 : Hid (∀ w0, Things w w0 [Pa a bs ss p g, Ra r bs ss q g, Blk B (.cells #[.int .i64 kd, .int .i64 x] 39 (0, 0))] → Calls Tryd.prog 20 #[.pointer (some ⟨q, 0, none⟩)] w0 fun e w' => e = .returned (.bool (decide g.Full)) ∧ Things w w' [Pa a bs ss p g, Ra r bs ss q g, Blk B (.cells #[.int .i64 kd, .int .i64 x] 39 (0, 0))]) := fun w0 h => z_full h HG.out.tab 1 rfl OK0.out
      have HX5 : Hid (∀ w0, Things w w0 [Pa a bs ss p g, Ra r bs ss q g, Blk B (.cells #[.int .i64 kd, .int .i64 x] 39 (0, 0))] → Calls Tryd.prog 21 #[.pointer (some ⟨p, 0, none⟩), .int .i64 x] w0 fun e w' => e = .returned (.bool (decide (g.May x))) ∧ Things w w' [Pa a bs ss p g, Ra r bs ss q g, Blk B (.cells #[.int .i64 kd, .int .i64 x] 39 (0, 0))]) := fun w0 h => g_has h HG.out 0 rfl OK0.out HX0.out
      have HX6 : Hid (∀ w0, Things w w0 [Pa a bs ss p g, Ra r bs ss q g, Blk B (.cells #[.int .i64 kd, .int .i64 x] 39 (0, 0))] → Calls Tryd.prog 22 #[.pointer (some ⟨q, 0, none⟩), .int .i64 x] w0 fun e w' => e = .returned (.bool (decide (g.May x))) ∧ Things w w' [Pa a bs ss p g, Ra r bs ss q g, Blk B (.cells #[.int .i64 kd, .int .i64 x] 39 (0, 0))]) := fun w0 h => z_has h HG.out.tab 1 rfl OK0.out x
      have HX7 : Hid (∀ w0, Things w w0 [Pa a bs ss p g, Ra r bs ss q g, Blk B (.cells #[.int .i64 kd, .int .i64 x] 39 (0, 0))] → Calls Tryd.prog 23 #[.pointer (some ⟨p, 0, none⟩)] w0 fun e w' => e = .returned (.int .i64 b) ∧ Things w w' [Pa a bs ss p g, Ra r bs ss q g, Blk B (.cells #[.int .i64 kd, .int .i64 x] 39 (0, 0))]) := fun w0 h => by have := g_base h 0 rfl; rwa [HGB.out] at this
      have HX8 : Hid (∀ w0, Things w w0 [Pa a bs ss p g, Ra r bs ss q g, Blk B (.cells #[.int .i64 kd, .int .i64 x] 39 (0, 0))] → Calls Tryd.prog 24 #[.pointer (some ⟨p, 0, none⟩)] w0 fun e w' => e = .returned (.int .i64 k) ∧ Things w w' [Pa a bs ss p g, Ra r bs ss q g, Blk B (.cells #[.int .i64 kd, .int .i64 x] 39 (0, 0))]) := fun w0 h => by have := g_kind h 0 rfl; rwa [HGK.out] at this
      have HXA : Hid (∀ w0, Things w w0 [Pa a bs ss p g, Ra r bs ss q g, Blk B (.cells #[.int .i64 kd, .int .i64 x] 39 (0, 0))] → w0.cell? ⟨q, 1, none⟩ = some (.int .i64 b) ∧ w0.cell? ⟨B, 1, none⟩ = some (.int .i64 x)) := fun w0 h => ⟨by have := (h.at12 1 rfl).1; rwa [HGB.out] at this, (cellZ (h.cells 2 rfl)).2.1⟩
      generalize (g.used : Int) = un at HX1 HX2
      generalize decide g.Full = fl at HX3 HX4
      generalize decide (g.May x) = hs at HX5 HX6
      obtain ⟨y0, y1⟩ := HXA.out _ T0.out
      go_wp2_with fail
      refine wp_region_held_drew (S := fun w' => w'.cell? ⟨q, 1, none⟩ = some (.int .i64 b) ∧ w'.cell? ⟨B, 1, none⟩ = some (.int .i64 x)) (by kernel_rfl) ?_ (fun hHeld => ?_)
      · exact ⟨y0, y1⟩
      refine wpAnyH_take (i := 0) (oi := ⟨some 114, _, _, _, _, _⟩) (v := ?v121) rfl (by kernel_rfl) (by kernel_rfl) (by kernel_rfl) (fun _ _ _ h => h) (Or.inl ⟨by rfl, ?hy121⟩) (by assumption) ?rest121
      case hy121 => (intro w hSw; (try dsimp only at hSw); go_simp; try with_reducible rfl)
      simp only [Act.put, List.setIfInBounds_toArray, List.set_cons_zero, List.set_cons_succ]
      refine wpAnyH_take (i := 1) (oi := ⟨some 115, _, _, _, _, _⟩) (v := ?v122) rfl (by kernel_rfl) (by kernel_rfl) (by kernel_rfl) (fun _ _ _ h => h) (Or.inl ⟨by rfl, ?hy122⟩) (by assumption) ?rest122
      case hy122 => (intro w hSw; (try dsimp only at hSw); go_simp; try with_reducible rfl)
      simp only [Act.put, List.setIfInBounds_toArray, List.set_cons_zero, List.set_cons_succ]
      refine wpAnyH_take (i := 2) (oi := ⟨some 116, _, _, _, _, _⟩) (v := ?v123) rfl (by kernel_rfl) (by kernel_rfl) (by kernel_rfl) (fun _ _ _ h => h) (Or.inl ⟨by rfl, ?hy123⟩) (by assumption) ?rest123
      case hy123 => (intro w hSw; (try dsimp only at hSw); go_simp; try with_reducible rfl)
      simp only [Act.put, List.setIfInBounds_toArray, List.set_cons_zero, List.set_cons_succ]
      refine wpAnyH_take (i := 3) (oi := ⟨some 117, _, _, _, _, _⟩) (v := ?v124) rfl (by kernel_rfl) (by kernel_rfl) (by kernel_rfl) (fun _ _ _ h => h) (Or.inl ⟨by rfl, ?hy124⟩) (by assumption) ?rest124
      case hy124 => (intro w hSw; (try dsimp only at hSw); go_simp; try with_reducible rfl)
      simp only [Act.put, List.setIfInBounds_toArray, List.set_cons_zero, List.set_cons_succ]
      refine wpAnyH_take (i := 4) (oi := ⟨some 118, _, _, _, _, _⟩) (v := ?v125) rfl (by kernel_rfl) (by kernel_rfl) (by kernel_rfl) (fun _ _ _ h => h) (Or.inl ⟨by rfl, ?hy125⟩) (by assumption) ?rest125
      case hy125 => (intro w hSw; (try dsimp only at hSw); go_simp; try with_reducible rfl)
      simp only [Act.put, List.setIfInBounds_toArray, List.set_cons_zero, List.set_cons_succ]
      refine wpAnyH_take (i := 5) (oi := ⟨some 119, _, _, _, _, _⟩) (v := ?v126) rfl (by kernel_rfl) (by kernel_rfl) (by kernel_rfl) (fun _ _ _ h => h) (Or.inl ⟨by rfl, ?hy126⟩) (by assumption) ?rest126
      case hy126 => (intro w hSw; (try dsimp only at hSw); go_simp; try with_reducible rfl)
      simp only [Act.put, List.setIfInBounds_toArray, List.set_cons_zero, List.set_cons_succ]
      refine wpAnyH_take (i := 6) (oi := ⟨some 120, _, _, _, _, _⟩) (v := ?v127) rfl (by kernel_rfl) (by kernel_rfl) (by kernel_rfl) (fun _ _ _ h => h) (Or.inl ⟨by rfl, ?hy127⟩) (by assumption) ?rest127
      case hy127 => (intro w hSw; (try dsimp only at hSw); go_simp; try with_reducible rfl)
      simp only [Act.put, List.setIfInBounds_toArray, List.set_cons_zero, List.set_cons_succ]
      refine wpAnyH_take (i := 7) (oi := ⟨some 121, _, _, _, _, _⟩) (v := ?v128) rfl (by kernel_rfl) (by kernel_rfl) (by kernel_rfl) (fun _ _ _ h => h) (Or.inl ⟨by rfl, ?hy128⟩) (by assumption) ?rest128
      case hy128 => (intro w hSw; (try dsimp only at hSw); go_simp; try with_reducible rfl)
      simp only [Act.put, List.setIfInBounds_toArray, List.set_cons_zero, List.set_cons_succ]
      refine wpAnyH_take (i := 8) (oi := ⟨some 122, _, _, _, _, _⟩) (v := ?v129) rfl (by kernel_rfl) (by kernel_rfl) (by kernel_rfl) (fun _ _ _ h => h) (Or.inl ⟨by rfl, ?hy129⟩) (by assumption) ?rest129
      case hy129 => (intro w hSw; (try dsimp only at hSw); go_simp; try with_reducible rfl)
      simp only [Act.put, List.setIfInBounds_toArray, List.set_cons_zero, List.set_cons_succ]
      refine wpAnyH_take (i := 9) (oi := ⟨some 123, _, _, _, _, _⟩) (v := ?v130) rfl (by kernel_rfl) (by kernel_rfl) (by kernel_rfl) (fun _ _ _ h => h) (Or.inl ⟨by rfl, ?hy130⟩) (by assumption) ?rest130
      case hy130 => (intro w hSw; (try dsimp only at hSw); go_simp; try with_reducible rfl)
      simp only [Act.put, List.setIfInBounds_toArray, List.set_cons_zero, List.set_cons_succ]
      refine wpAnyH_take (i := 11) (oi := ⟨some 125, _, _, _, _, _⟩) (v := ?v131) rfl (by kernel_rfl) (by kernel_rfl) (by kernel_rfl) (fun _ _ _ h => h) (Or.inl ⟨by rfl, ?hy131⟩) (by assumption) ?rest131
      case hy131 => (intro w hSw; (try dsimp only at hSw); go_simp; try with_reducible rfl)
      simp only [Act.put, List.setIfInBounds_toArray, List.set_cons_zero, List.set_cons_succ]
      refine wpAnyH_ready (rs := [10]) (by kernel_rfl) (by simp) ?_
      refine AllReadyH.cons (o := ⟨some 124, _, _, _, _, _⟩) rfl (fun K hK => ?_) AllReadyH.nil
      go_simp
      go_wp2_with (go_at_call 17; refine (HX1.out _ (T0.out.kept (Fr.refl _ _).drew)).mono ?_; rintro e v0 ⟨rfl, h1⟩; have V0 := hid h1; obtain ⟨y0a, y0b⟩ := HXA.out _ h1; clear h1)
      refine hK.out _ _ ?_ (fun hHeld => ?_)
      · exact ⟨y0a, y0b⟩
      clear hK K
      refine wpAnyH_ready (rs := [12]) (by kernel_rfl) (by simp) ?_
      refine AllReadyH.cons (o := ⟨some 126, _, _, _, _, _⟩) rfl (fun K hK => ?_) AllReadyH.nil
      go_simp
      go_wp2_with (go_at_call 18; refine (HX2.out _ V0.out).mono ?_; rintro e v1 ⟨rfl, h1⟩; have V1 := hid h1; obtain ⟨y1a, y1b⟩ := HXA.out _ h1; clear h1)
      refine hK.out _ _ ?_ (fun hHeld => ?_)
      · exact ⟨y1a, y1b⟩
      clear hK K
      refine wpAnyH_take (i := 13) (oi := ⟨some 127, _, _, _, _, _⟩) (v := ?v132) rfl (by kernel_rfl) (by kernel_rfl) (by kernel_rfl) (fun _ _ _ h => h) (Or.inl ⟨by rfl, ?hy132⟩) (by assumption) ?rest132
      case hy132 => (intro w hSw; (try dsimp only at hSw); go_simp; try with_reducible rfl)
      simp only [Act.put, List.setIfInBounds_toArray, List.set_cons_zero, List.set_cons_succ]
      refine wpAnyH_take (i := 14) (oi := ⟨some 128, _, _, _, _, _⟩) (v := ?v133) rfl (by kernel_rfl) (by kernel_rfl) (by kernel_rfl) (fun _ _ _ h => h) (Or.inl ⟨by rfl, ?hy133⟩) (by assumption) ?rest133
      case hy133 => (intro w hSw; (try dsimp only at hSw); go_simp; try with_reducible rfl)
      simp only [Act.put, List.setIfInBounds_toArray, List.set_cons_zero, List.set_cons_succ]
      refine wpAnyH_take (i := 15) (oi := ⟨some 129, _, _, _, _, _⟩) (v := ?v134) rfl (by kernel_rfl) (by kernel_rfl) (by kernel_rfl) (fun _ _ _ h => h) (Or.inl ⟨by rfl, ?hy134⟩) (by assumption) ?rest134
      case hy134 => (intro w hSw; (try dsimp only at hSw); go_simp; try with_reducible rfl)
      simp only [Act.put, List.setIfInBounds_toArray, List.set_cons_zero, List.set_cons_succ]
      refine wpAnyH_take (i := 16) (oi := ⟨some 130, _, _, _, _, _⟩) (v := ?v135) rfl (by kernel_rfl) (by kernel_rfl) (by kernel_rfl) (fun _ _ _ h => h) (Or.inl ⟨by rfl, ?hy135⟩) (by assumption) ?rest135
      case hy135 => (intro w hSw; (try dsimp only at hSw); go_simp; try with_reducible rfl)
      simp only [Act.put, List.setIfInBounds_toArray, List.set_cons_zero, List.set_cons_succ]
      refine wpAnyH_take (i := 18) (oi := ⟨some 132, _, _, _, _, _⟩) (v := ?v136) rfl (by kernel_rfl) (by kernel_rfl) (by kernel_rfl) (fun _ _ _ h => h) (Or.inl ⟨by rfl, ?hy136⟩) (by assumption) ?rest136
      case hy136 => (intro w hSw; (try dsimp only at hSw); go_simp; try with_reducible rfl)
      simp only [Act.put, List.setIfInBounds_toArray, List.set_cons_zero, List.set_cons_succ]
      refine wpAnyH_ready (rs := [17]) (by kernel_rfl) (by simp) ?_
      refine AllReadyH.cons (o := ⟨some 131, _, _, _, _, _⟩) rfl (fun K hK => ?_) AllReadyH.nil
      go_simp
      go_wp2_with (go_at_call 19; refine (HX3.out _ V1.out).mono ?_; rintro e v2 ⟨rfl, h1⟩; have V2 := hid h1; obtain ⟨y2a, y2b⟩ := HXA.out _ h1; clear h1)
      refine hK.out _ _ ?_ (fun hHeld => ?_)
      · exact ⟨y2a, y2b⟩
      clear hK K
      refine wpAnyH_ready (rs := [19]) (by kernel_rfl) (by simp) ?_
      refine AllReadyH.cons (o := ⟨some 133, _, _, _, _, _⟩) rfl (fun K hK => ?_) AllReadyH.nil
      go_simp
      go_wp2_with (go_at_call 20; refine (HX4.out _ V2.out).mono ?_; rintro e v3 ⟨rfl, h1⟩; have V3 := hid h1; obtain ⟨y3a, y3b⟩ := HXA.out _ h1; clear h1)
      refine hK.out _ _ ?_ (fun hHeld => ?_)
      · exact ⟨y3a, y3b⟩
      clear hK K
      refine wpAnyH_take (i := 20) (oi := ⟨some 134, _, _, _, _, _⟩) (v := ?v137) rfl (by kernel_rfl) (by kernel_rfl) (by kernel_rfl) (fun _ _ _ h => h) (Or.inl ⟨by rfl, ?hy137⟩) (by assumption) ?rest137
      case hy137 => (intro w hSw; (try dsimp only at hSw); go_simp; try with_reducible rfl)
      simp only [Act.put, List.setIfInBounds_toArray, List.set_cons_zero, List.set_cons_succ]
      refine wpAnyH_take (i := 21) (oi := ⟨some 135, _, _, _, _, _⟩) (v := ?v138) rfl (by kernel_rfl) (by kernel_rfl) (by kernel_rfl) (fun _ _ _ h => h) (Or.inl ⟨by rfl, ?hy138⟩) (by assumption) ?rest138
      case hy138 => (intro w hSw; (try dsimp only at hSw); go_simp; try with_reducible rfl)
      simp only [Act.put, List.setIfInBounds_toArray, List.set_cons_zero, List.set_cons_succ]
      refine wpAnyH_take (i := 22) (oi := ⟨some 136, _, _, _, _, _⟩) (v := ?v139) rfl (by kernel_rfl) (by kernel_rfl) (by kernel_rfl) (fun _ _ _ h => h) (Or.inl ⟨by rfl, ?hy139⟩) (by assumption) ?rest139
      case hy139 => (intro w hSw; (try dsimp only at hSw); go_simp; try with_reducible rfl)
      simp only [Act.put, List.setIfInBounds_toArray, List.set_cons_zero, List.set_cons_succ]
      refine wpAnyH_take (i := 23) (oi := ⟨some 137, _, _, _, _, _⟩) (v := ?v140) rfl (by kernel_rfl) (by kernel_rfl) (by kernel_rfl) (fun _ _ _ h => h) (Or.inl ⟨by rfl, ?hy140⟩) (by assumption) ?rest140
      case hy140 => (intro w hSw; (try dsimp only at hSw); go_simp; try with_reducible rfl)
      simp only [Act.put, List.setIfInBounds_toArray, List.set_cons_zero, List.set_cons_succ]
      refine wpAnyH_take (i := 24) (oi := ⟨some 138, _, _, _, _, _⟩) (v := ?v141) rfl (by kernel_rfl) (by kernel_rfl) (by kernel_rfl) (fun _ _ _ h => h) (Or.inl ⟨by rfl, ?hy141⟩) (by assumption) ?rest141
      case hy141 => (intro w hSw; (try dsimp only at hSw); go_simp; try with_reducible rfl)
      simp only [Act.put, List.setIfInBounds_toArray, List.set_cons_zero, List.set_cons_succ]
      refine wpAnyH_take (i := 25) (oi := ⟨some 139, _, _, _, _, _⟩) (v := ?v142) rfl (by kernel_rfl) (by kernel_rfl) (by kernel_rfl) (fun _ _ _ h => h) (Or.inl ⟨by rfl, ?hy142⟩) (by assumption) ?rest142
      case hy142 => (intro w hSw; (try dsimp only at hSw); go_simp; try with_reducible rfl)
      simp only [Act.put, List.setIfInBounds_toArray, List.set_cons_zero, List.set_cons_succ]
      refine wpAnyH_take (i := 27) (oi := ⟨some 141, _, _, _, _, _⟩) (v := ?v143) rfl (by kernel_rfl) (by kernel_rfl) (by kernel_rfl) (fun _ _ _ h => h) (Or.inl ⟨by rfl, ?hy143⟩) (by assumption) ?rest143
      case hy143 => (intro w hSw; (try dsimp only at hSw); go_simp; try with_reducible rfl)
      simp only [Act.put, List.setIfInBounds_toArray, List.set_cons_zero, List.set_cons_succ]
      refine wpAnyH_take (i := 28) (oi := ⟨some 142, _, _, _, _, _⟩) (v := ?v144) rfl (by kernel_rfl) (by kernel_rfl) (by kernel_rfl) (fun _ _ _ h => h) (Or.inl ⟨by rfl, ?hy144⟩) (by assumption) ?rest144
      case hy144 => (intro w hSw; (try dsimp only at hSw); go_simp; try with_reducible rfl)
      simp only [Act.put, List.setIfInBounds_toArray, List.set_cons_zero, List.set_cons_succ]
      refine wpAnyH_take (i := 29) (oi := ⟨some 143, _, _, _, _, _⟩) (v := ?v145) rfl (by kernel_rfl) (by kernel_rfl) (by kernel_rfl) (fun _ _ _ h => h) (Or.inl ⟨by rfl, ?hy145⟩) (by assumption) ?rest145
      case hy145 => (intro w hSw; (try dsimp only at hSw); go_simp; try with_reducible rfl)
      simp only [Act.put, List.setIfInBounds_toArray, List.set_cons_zero, List.set_cons_succ]
      refine wpAnyH_ready (rs := [26]) (by kernel_rfl) (by simp) ?_
      refine AllReadyH.cons (o := ⟨some 140, _, _, _, _, _⟩) rfl (fun K hK => ?_) AllReadyH.nil
      go_simp
      go_wp2_with (go_at_call 21; refine (HX5.out _ V3.out).mono ?_; rintro e v4 ⟨rfl, h1⟩; have V4 := hid h1; obtain ⟨y4a, y4b⟩ := HXA.out _ h1; clear h1)
      refine hK.out _ _ ?_ (fun hHeld => ?_)
      · exact ⟨y4a, y4b⟩
      clear hK K
      refine wpAnyH_ready (rs := [30]) (by kernel_rfl) (by simp) ?_
      refine AllReadyH.cons (o := ⟨some 144, _, _, _, _, _⟩) rfl (fun K hK => ?_) AllReadyH.nil
      go_simp
      go_wp2_with (go_at_call 22; refine (HX6.out _ V4.out).mono ?_; rintro e v5 ⟨rfl, h1⟩; have V5 := hid h1; obtain ⟨y5a, y5b⟩ := HXA.out _ h1; clear h1)
      refine hK.out _ _ ?_ (fun hHeld => ?_)
      · exact ⟨y5a, y5b⟩
      clear hK K
      refine wpAnyH_take (i := 31) (oi := ⟨some 145, _, _, _, _, _⟩) (v := ?v146) rfl (by kernel_rfl) (by kernel_rfl) (by kernel_rfl) (fun _ _ _ h => h) (Or.inl ⟨by rfl, ?hy146⟩) (by assumption) ?rest146
      case hy146 => (intro w hSw; (try dsimp only at hSw); go_simp; try with_reducible rfl)
      simp only [Act.put, List.setIfInBounds_toArray, List.set_cons_zero, List.set_cons_succ]
      refine wpAnyH_take (i := 32) (oi := ⟨some 146, _, _, _, _, _⟩) (v := ?v147) rfl (by kernel_rfl) (by kernel_rfl) (by kernel_rfl) (fun _ _ _ h => h) (Or.inl ⟨by rfl, ?hy147⟩) (by assumption) ?rest147
      case hy147 => (intro w hSw; (try dsimp only at hSw); go_simp; try with_reducible rfl)
      simp only [Act.put, List.setIfInBounds_toArray, List.set_cons_zero, List.set_cons_succ]
      refine wpAnyH_take (i := 33) (oi := ⟨some 147, _, _, _, _, _⟩) (v := ?v148) rfl (by kernel_rfl) (by kernel_rfl) (by kernel_rfl) (fun _ _ _ h => h) (Or.inl ⟨by rfl, ?hy148⟩) (by assumption) ?rest148
      case hy148 => (intro w hSw; (try dsimp only at hSw); go_simp; try with_reducible rfl)
      simp only [Act.put, List.setIfInBounds_toArray, List.set_cons_zero, List.set_cons_succ]
      refine wpAnyH_take (i := 34) (oi := ⟨some 148, _, _, _, _, _⟩) (v := ?v149) rfl (by kernel_rfl) (by kernel_rfl) (by kernel_rfl) (fun _ _ _ h => h) (Or.inl ⟨by rfl, ?hy149⟩) (by assumption) ?rest149
      case hy149 => (intro w hSw; (try dsimp only at hSw); go_simp; try with_reducible rfl)
      simp only [Act.put, List.setIfInBounds_toArray, List.set_cons_zero, List.set_cons_succ]
      refine wpAnyH_take (i := 36) (oi := ⟨some 150, _, _, _, _, _⟩) (v := ?v150) rfl (by kernel_rfl) (by kernel_rfl) (by kernel_rfl) (fun _ _ _ h => h) (Or.inl ⟨by rfl, ?hy150⟩) (by assumption) ?rest150
      case hy150 => (intro w hSw; (try dsimp only at hSw); go_simp; try with_reducible rfl)
      simp only [Act.put, List.setIfInBounds_toArray, List.set_cons_zero, List.set_cons_succ]
      refine wpAnyH_take (i := 37) (oi := ⟨some 151, _, _, _, _, _⟩) (v := ?v151) rfl (by kernel_rfl) (by kernel_rfl) (by kernel_rfl) (fun _ _ _ h => h) (Or.inl ⟨by rfl, ?hy151⟩) (by assumption) ?rest151
      case hy151 => (intro w hSw; (try dsimp only at hSw); go_simp; try with_reducible rfl)
      simp only [Act.put, List.setIfInBounds_toArray, List.set_cons_zero, List.set_cons_succ]
      refine wpAnyH_take (i := 38) (oi := ⟨some 152, _, _, _, _, _⟩) (v := ?v152) rfl (by kernel_rfl) (by kernel_rfl) (by kernel_rfl) (fun _ _ _ h => h) (Or.inl ⟨by rfl, ?hy152⟩) (by assumption) ?rest152
      case hy152 => (intro w hSw; (try dsimp only at hSw); go_simp; try with_reducible rfl)
      simp only [Act.put, List.setIfInBounds_toArray, List.set_cons_zero, List.set_cons_succ]
      refine wpAnyH_take (i := 39) (oi := ⟨some 153, _, _, _, _, _⟩) (v := ?v153) rfl (by kernel_rfl) (by kernel_rfl) (by kernel_rfl) (fun _ _ _ h => h) (Or.inl ⟨by rfl, ?hy153⟩) (by assumption) ?rest153
      case hy153 => (intro w hSw; (try dsimp only at hSw); go_simp; try with_reducible rfl)
      simp only [Act.put, List.setIfInBounds_toArray, List.set_cons_zero, List.set_cons_succ]
      refine wpAnyH_ready (rs := [35]) (by kernel_rfl) (by simp) ?_
      refine AllReadyH.cons (o := ⟨some 149, _, _, _, _, _⟩) rfl (fun K hK => ?_) AllReadyH.nil
      go_simp
      go_wp2_with (go_at_call 23; refine (HX7.out _ V5.out).mono ?_; rintro e v6 ⟨rfl, h1⟩; have V6 := hid h1; obtain ⟨y6a, y6b⟩ := HXA.out _ h1; clear h1)
      refine hK.out _ _ ?_ (fun hHeld => ?_)
      · exact ⟨y6a, y6b⟩
      clear hK K
      refine wpAnyH_take (i := 40) (oi := ⟨some 154, _, _, _, _, _⟩) (v := ?v154) rfl (by kernel_rfl) (by kernel_rfl) (by kernel_rfl) (fun _ _ _ h => h) (Or.inl ⟨by rfl, ?hy154⟩) (by assumption) ?rest154
      case hy154 => (intro w hSw; (try dsimp only at hSw); go_simp; try with_reducible rfl)
      simp only [Act.put, List.setIfInBounds_toArray, List.set_cons_zero, List.set_cons_succ]
      refine wpAnyH_take (i := 41) (oi := ⟨some 155, _, _, _, _, _⟩) (v := ?v155) rfl (by kernel_rfl) (by kernel_rfl) (by kernel_rfl) (fun _ _ _ h => h) (Or.inl ⟨by rfl, ?hy155⟩) (by assumption) ?rest155
      case hy155 => (intro w hSw; (try dsimp only at hSw); go_simp; try with_reducible rfl)
      simp only [Act.put, List.setIfInBounds_toArray, List.set_cons_zero, List.set_cons_succ]
      refine wpAnyH_take (i := 42) (oi := ⟨some 156, _, _, _, _, _⟩) (v := ?v156) rfl (by kernel_rfl) (by kernel_rfl) (by kernel_rfl) (fun _ _ _ h => h) (Or.inl ⟨by rfl, ?hy156⟩) (by assumption) ?rest156
      case hy156 => (intro w hSw; (try dsimp only at hSw); go_simp; try with_reducible rfl)
      simp only [Act.put, List.setIfInBounds_toArray, List.set_cons_zero, List.set_cons_succ]
      refine wpAnyH_take (i := 43) (oi := ⟨some 157, _, _, _, _, _⟩) (v := ?v157) rfl (by kernel_rfl) (by kernel_rfl) (by kernel_rfl) (fun _ _ _ h => h) (Or.inl ⟨by rfl, ?hy157⟩) (by assumption) ?rest157
      case hy157 => (intro w hSw; (try dsimp only at hSw); go_simp; try with_reducible rfl)
      simp only [Act.put, List.setIfInBounds_toArray, List.set_cons_zero, List.set_cons_succ]
      refine wpAnyH_take (i := 45) (oi := ⟨some 159, _, _, _, _, _⟩) (v := ?v158) rfl (by kernel_rfl) (by kernel_rfl) (by kernel_rfl) (fun _ _ _ h => h) (Or.inl ⟨by rfl, ?hy158⟩) (by assumption) ?rest158
      case hy158 => (intro w hSw; (try dsimp only at hSw); go_simp; try with_reducible rfl)
      simp only [Act.put, List.setIfInBounds_toArray, List.set_cons_zero, List.set_cons_succ]
      refine wpAnyH_ready (rs := [44]) (by kernel_rfl) (by simp) ?_
      refine AllReadyH.cons (o := ⟨some 158, _, _, _, _, _⟩) rfl (fun K hK => ?_) AllReadyH.nil
      go_simp
      go_wp2_with (go_at_call 24; refine (HX8.out _ V6.out).mono ?_; rintro e v7 ⟨rfl, h1⟩; have V7 := hid h1; obtain ⟨y7a, y7b⟩ := HXA.out _ h1; clear h1)
      refine hK.out _ _ ?_ (fun hHeld => ?_)
      · exact ⟨y7a, y7b⟩
      clear hK K
      refine wpAnyH_take (i := 46) (oi := ⟨some 160, _, _, _, _, _⟩) (v := ?v159) rfl (by kernel_rfl) (by kernel_rfl) (by kernel_rfl) (fun _ _ _ h => h) (Or.inl ⟨by rfl, ?hy159⟩) (by assumption) ?rest159
      case hy159 => (intro w hSw; (try dsimp only at hSw); go_simp; try with_reducible rfl)
      simp only [Act.put, List.setIfInBounds_toArray, List.set_cons_zero, List.set_cons_succ]
      refine wpAnyH_take (i := 47) (oi := ⟨some 161, _, _, _, _, _⟩) (v := ?v160) rfl (by kernel_rfl) (by kernel_rfl) (by kernel_rfl) (fun _ _ _ h => h) (Or.inl ⟨by rfl, ?hy160⟩) (by assumption) ?rest160
      case hy160 => (intro w hSw; (try dsimp only at hSw); go_simp; try with_reducible rfl)
      simp only [Act.put, List.setIfInBounds_toArray, List.set_cons_zero, List.set_cons_succ]
      refine wpAnyH_done (by kernel_rfl) ?_ _
      go_wp2
      go_roundw
      case rel => exact ⟨j + 1, by omega, by go_num, bs, ss, g, OK0.out, HLN.out, HSN.out, HGB.out, HGK.out, Things.less (ts := [_, _]) V7.out⟩
      case measure => simp [intOf]; omega
    · obtain rfl : j = l.length := by omega
      have H1 : Hid (∀ w0, Things w w0 [Pa a bs ss p g, Ra r bs ss q g] → Calls Tryd.prog 25 #[.pointer (some ⟨a, 0, none⟩)] w0 fun e w' => ∃ base ad cap, e = .returned (.slice ad ss.length cap) ∧ Things w w' [Pa a bs ss p g, Ra r bs ss q g, Spn base (.slice ad ss.length cap) ss]) := fun w0 h => g_touches h 0 rfl (by omega)
      have H2 : Hid (∀ w0 Y, Things w w0 [Pa a bs ss p g, Ra r bs ss q g, Y] → Calls Tryd.prog 26 #[.pointer (some ⟨a, 0, none⟩), .int .i64 0, .int .i64 N] w0 fun e w' => e = .returned (.tuple #[.string ⟨bs.toArray⟩, .int .i64 0]) ∧ Things w w' [Pa a bs (noted ss 0 N false) p g, Ra r bs ss q g, Y]) := fun w0 Y h => (g_read h 0 rfl 0 N (by rw [HLN.out]; omega) (by omega)).mono fun e w' ⟨he, h2⟩ => ⟨by rw [he, List.drop_zero, List.take_of_length_le (by rw [HLN.out]; omega)], h2⟩
      have HFT := hid OK0.out.lies
      rw [HLN.out] at HFT
      have hsl : ss.length ≤ 800 := by omega
      clear OK0 HGB HGK hs
      go_wp2_with fail
      refine (H1.out _ T.out).mono ?_
      rintro e w6 ⟨base, tad, tcap, rfl, h6⟩
      have T6 := hid h6
      clear h6 H1 T
      go_wp2_with fail
      refine (H2.out _ _ T6.out).mono ?_
      rintro e w7 ⟨rfl, h7⟩
      have T7 := hid h7
      clear h7 H2 T6
      generalize noted ss 0 N false = ss1 at *
      go_wp2
      go_loopw [25, 173] (fun _ i wr => ∃ (j : Nat) (g1 : Pg), j ≤ l.length ∧ i = .int .i64 j ∧ g1.Fit N ∧ Things w wr [Pa a bs ss1 p g1, Ra r bs ss q g1, Spn base (.slice tad ss.length tcap) ss]) (fun _ i _ => l.length - (intOf i).toNat)
      case atStart => exact ⟨0, g, by omega, rfl, HFT.out, T7.out⟩
      case round =>
        clear T7 HFT
        obtain ⟨j, g1, hj2, rfl, hfit, ht⟩ := hrel
        have T := hid ht
        have HFT := hid hfit
        clear ht hfit
        by_cases hlt : j < l.length
        · obtain ⟨bb, off, rfl, hbb, p1, p2, hB⟩ := HOP.out.fr T.out.nw.fr j hlt
          generalize hop : l[j] = op2 at p1 p2 hB
          obtain ⟨kd, x⟩ := op2
          simp only at p1 p2 hB
          have HX0 : Hid (I64 x) := hB
          have T0 : Hid (Things w (wr.alloc (.cells #[.int .i64 kd, .int .i64 x] 39)) [Pa a bs ss1 p g1, Ra r bs ss q g1, Spn base (.slice tad ss.length tcap) ss, Blk wr.heap.size (.cells #[.int .i64 kd, .int .i64 x] 39 (0, 0))]) := T.out.blk _
          clear hop HOP T hB
          generalize hw0 : wr.alloc (.cells #[.int .i64 kd, .int .i64 x] 39) = wa at T0
          generalize hB : wr.heap.size = B at T0
          obtain ⟨c0, c1, fz⟩ := cellZ (T0.out.cells 3 rfl)
          have H5 : Hid (∀ w0, Things w w0 [Pa a bs ss1 p g1, Ra r bs ss q g1, Spn base (.slice tad ss.length tcap) ss, Blk B (.cells #[.int .i64 kd, .int .i64 x] 39 (0, 0))] → Calls Tryd.prog 27 #[.pointer (some ⟨p, 0, none⟩), .int .i64 x] w0 fun e w' => e = .returned (.int .i64 (pmE N x)) ∧ Things w w' [Pa a bs ss1 p (pmS g1 N x), Ra r bs ss q g1, Spn base (.slice tad ss.length tcap) ss, Blk B (.cells #[.int .i64 kd, .int .i64 x] 39 (0, 0))]) := fun w0 h => by
            have := g_move h HG.out 0 rfl (x := x) (by rw [HLN.out]; exact HFT.out) HX0.out
            rwa [HLN.out] at this
          have H6 : Hid (∀ w0 P, Things w w0 [P, Ra r bs ss q g1, Spn base (.slice tad ss.length tcap) ss, Blk B (.cells #[.int .i64 kd, .int .i64 x] 39 (0, 0))] → Calls Tryd.prog 28 #[.pointer (some ⟨q, 0, none⟩), .int .i64 x] w0 fun e w' => e = .returned (.int .i64 (pmE N x)) ∧ Things w w' [P, Ra r bs ss q (pmS g1 N x), Spn base (.slice tad ss.length tcap) ss, Blk B (.cells #[.int .i64 kd, .int .i64 x] 39 (0, 0))]) := fun w0 P h => by
            have := z_move h 1 rfl (by rw [HLN.out]; exact HFT.out) x
            rwa [HLN.out] at this
          have HF2 := hid (pmS_fit HFT.out x)
          generalize pmE N x = pe at *
          generalize pmS g1 N x = g2 at *
          have H7 : Hid (∀ w0 Q, Things w w0 [Pa a bs ss1 p g2, Q, Spn base (.slice tad ss.length tcap) ss, Blk B (.cells #[.int .i64 kd, .int .i64 x] 39 (0, 0))] → Calls Tryd.prog 23 #[.pointer (some ⟨p, 0, none⟩)] w0 fun e w' => e = .returned (.int .i64 g2.base) ∧ Things w w' [Pa a bs ss1 p g2, Q, Spn base (.slice tad ss.length tcap) ss, Blk B (.cells #[.int .i64 kd, .int .i64 x] 39 (0, 0))]) := fun w0 Q h => g_base h 0 rfl
          clear HFT HX0
          go_wp2_with fail
          refine wp_region_held_drew (S := fun w' => w'.cell? ⟨B, 1, none⟩ = some (.int .i64 x)) (by kernel_rfl) ?_ (fun hHeld => ?_)
          · exact (by assumption)
          refine wpAnyH_take (i := 0) (oi := ⟨some 177, _, _, _, _, _⟩) (v := ?v161) rfl (by kernel_rfl) (by kernel_rfl) (by kernel_rfl) (fun _ _ _ h => h) (Or.inl ⟨by rfl, ?hy161⟩) (by assumption) ?rest161
          case hy161 => (intro w hSw; (try dsimp only at hSw); go_simp; try with_reducible rfl)
          simp only [Act.put, List.setIfInBounds_toArray, List.set_cons_zero, List.set_cons_succ]
          refine wpAnyH_take (i := 1) (oi := ⟨some 178, _, _, _, _, _⟩) (v := ?v162) rfl (by kernel_rfl) (by kernel_rfl) (by kernel_rfl) (fun _ _ _ h => h) (Or.inl ⟨by rfl, ?hy162⟩) (by assumption) ?rest162
          case hy162 => (intro w hSw; (try dsimp only at hSw); go_simp; try with_reducible rfl)
          simp only [Act.put, List.setIfInBounds_toArray, List.set_cons_zero, List.set_cons_succ]
          refine wpAnyH_take (i := 2) (oi := ⟨some 179, _, _, _, _, _⟩) (v := ?v163) rfl (by kernel_rfl) (by kernel_rfl) (by kernel_rfl) (fun _ _ _ h => h) (Or.inl ⟨by rfl, ?hy163⟩) (by assumption) ?rest163
          case hy163 => (intro w hSw; (try dsimp only at hSw); go_simp; try with_reducible rfl)
          simp only [Act.put, List.setIfInBounds_toArray, List.set_cons_zero, List.set_cons_succ]
          refine wpAnyH_take (i := 4) (oi := ⟨some 181, _, _, _, _, _⟩) (v := ?v164) rfl (by kernel_rfl) (by kernel_rfl) (by kernel_rfl) (fun _ _ _ h => h) (Or.inl ⟨by rfl, ?hy164⟩) (by assumption) ?rest164
          case hy164 => (intro w hSw; (try dsimp only at hSw); go_simp; try with_reducible rfl)
          simp only [Act.put, List.setIfInBounds_toArray, List.set_cons_zero, List.set_cons_succ]
          refine wpAnyH_take (i := 5) (oi := ⟨some 182, _, _, _, _, _⟩) (v := ?v165) rfl (by kernel_rfl) (by kernel_rfl) (by kernel_rfl) (fun _ _ _ h => h) (Or.inl ⟨by rfl, ?hy165⟩) (by assumption) ?rest165
          case hy165 => (intro w hSw; (try dsimp only at hSw); go_simp; try with_reducible rfl)
          simp only [Act.put, List.setIfInBounds_toArray, List.set_cons_zero, List.set_cons_succ]
          refine wpAnyH_take (i := 6) (oi := ⟨some 183, _, _, _, _, _⟩) (v := ?v166) rfl (by kernel_rfl) (by kernel_rfl) (by kernel_rfl) (fun _ _ _ h => h) (Or.inl ⟨by rfl, ?hy166⟩) (by assumption) ?rest166
          case hy166 => (intro w hSw; (try dsimp only at hSw); go_simp; try with_reducible rfl)
          simp only [Act.put, List.setIfInBounds_toArray, List.set_cons_zero, List.set_cons_succ]
          refine wpAnyH_ready (rs := [3]) (by kernel_rfl) (by simp) ?_
          refine AllReadyH.cons (o := ⟨some 180, _, _, _, _, _⟩) rfl (fun K hK => ?_) AllReadyH.nil
          go_simp
          go_wp2_with (go_at_call 27; refine (H5.out _ (T0.out.kept (Fr.refl _ _).drew)).mono ?_; rintro e v1 ⟨rfl, h6⟩; have V1 := hid h6; obtain ⟨c60, c61, _⟩ := cellZ (h6.cells 3 rfl); clear h6)
          refine hK.out _ _ ?_ (fun hHeld => ?_)
          · exact c61
          clear hK K
          refine wpAnyH_ready (rs := [7]) (by kernel_rfl) (by simp) ?_
          refine AllReadyH.cons (o := ⟨some 184, _, _, _, _, _⟩) rfl (fun K hK => ?_) AllReadyH.nil
          go_simp
          go_wp2_with (go_at_call 28; refine (H6.out _ _ V1.out).mono ?_; rintro e v2 ⟨rfl, h7⟩; have V2 := hid h7; obtain ⟨c70, c71, _⟩ := cellZ (h7.cells 3 rfl); have y2 := (h7.at12 1 rfl).1; clear h7)
          refine hK.out _ _ ?_ (fun hHeld => ?_)
          · exact c71
          clear hK K
          refine held_switch (S2 := fun w' => w'.cell? ⟨B, 1, none⟩ = some (.int .i64 x) ∧ w'.cell? ⟨q, 1, none⟩ = some (.int .i64 g2.base)) (fun _ h => h.1) _ _ _ _ ?_
          have hHeld2 : v2.cell? ⟨B, 1, none⟩ = some (.int .i64 x) ∧ v2.cell? ⟨q, 1, none⟩ = some (.int .i64 g2.base) := ⟨c71, y2⟩
          clear hHeld
          refine wpAnyH_take (i := 8) (oi := ⟨some 185, _, _, _, _, _⟩) (v := ?v167) rfl (by kernel_rfl) (by kernel_rfl) (by kernel_rfl) (fun _ _ _ h => h) (Or.inl ⟨by rfl, ?hy167⟩) (by assumption) ?rest167
          case hy167 => (intro w hSw; (try dsimp only at hSw); go_simp; try with_reducible rfl)
          simp only [Act.put, List.setIfInBounds_toArray, List.set_cons_zero, List.set_cons_succ]
          refine wpAnyH_take (i := 9) (oi := ⟨some 186, _, _, _, _, _⟩) (v := ?v168) rfl (by kernel_rfl) (by kernel_rfl) (by kernel_rfl) (fun _ _ _ h => h) (Or.inl ⟨by rfl, ?hy168⟩) (by assumption) ?rest168
          case hy168 => (intro w hSw; (try dsimp only at hSw); go_simp; try with_reducible rfl)
          simp only [Act.put, List.setIfInBounds_toArray, List.set_cons_zero, List.set_cons_succ]
          refine wpAnyH_take (i := 10) (oi := ⟨some 187, _, _, _, _, _⟩) (v := ?v169) rfl (by kernel_rfl) (by kernel_rfl) (by kernel_rfl) (fun _ _ _ h => h) (Or.inl ⟨by rfl, ?hy169⟩) (by assumption) ?rest169
          case hy169 => (intro w hSw; (try dsimp only at hSw); go_simp; try with_reducible rfl)
          simp only [Act.put, List.setIfInBounds_toArray, List.set_cons_zero, List.set_cons_succ]
          refine wpAnyH_take (i := 12) (oi := ⟨some 189, _, _, _, _, _⟩) (v := ?v170) rfl (by kernel_rfl) (by kernel_rfl) (by kernel_rfl) (fun _ _ _ h => h) (Or.inl ⟨by rfl, ?hy170⟩) (by assumption) ?rest170
          case hy170 => (intro w hSw; (try dsimp only at hSw); go_simp; try with_reducible rfl)
          simp only [Act.put, List.setIfInBounds_toArray, List.set_cons_zero, List.set_cons_succ]
          refine wpAnyH_take (i := 13) (oi := ⟨some 190, _, _, _, _, _⟩) (v := ?v171) rfl (by kernel_rfl) (by kernel_rfl) (by kernel_rfl) (fun _ _ _ h => h) (Or.inl ⟨by rfl, ?hy171⟩) (by assumption) ?rest171
          case hy171 => (intro w hSw; (try dsimp only at hSw); go_simp; try with_reducible rfl)
          simp only [Act.put, List.setIfInBounds_toArray, List.set_cons_zero, List.set_cons_succ]
          refine wpAnyH_take (i := 14) (oi := ⟨some 191, _, _, _, _, _⟩) (v := ?v172) rfl (by kernel_rfl) (by kernel_rfl) (by kernel_rfl) (fun _ _ _ h => h) (Or.inl ⟨by rfl, ?hy172⟩) (by assumption) ?rest172
          case hy172 => (intro w hSw; (try dsimp only at hSw); go_simp; try with_reducible rfl)
          simp only [Act.put, List.setIfInBounds_toArray, List.set_cons_zero, List.set_cons_succ]
          refine wpAnyH_take (i := 15) (oi := ⟨some 192, _, _, _, _, _⟩) (v := ?v173) rfl (by kernel_rfl) (by kernel_rfl) (by kernel_rfl) (fun _ _ _ h => h) (Or.inl ⟨by rfl, ?hy173⟩) (by assumption) ?rest173
          case hy173 => (intro w hSw; (try dsimp only at hSw); go_simp; try with_reducible rfl)
          simp only [Act.put, List.setIfInBounds_toArray, List.set_cons_zero, List.set_cons_succ]
          refine wpAnyH_ready (rs := [11]) (by kernel_rfl) (by simp) ?_
          refine AllReadyH.cons (o := ⟨some 188, _, _, _, _, _⟩) rfl (fun K hK => ?_) AllReadyH.nil
          go_simp
          go_wp2_with (go_at_call 23; refine (H7.out _ _ V2.out).mono ?_; rintro e v3 ⟨rfl, h8⟩; have V3 := hid h8; obtain ⟨c80, c81, _⟩ := cellZ (h8.cells 3 rfl); have y3 := (h8.at12 1 rfl).1; clear h8)
          refine hK.out _ _ ?_ (fun hHeld => ?_)
          · exact ⟨c81, y3⟩
          clear hK K
          refine wpAnyH_take (i := 16) (oi := ⟨some 193, _, _, _, _, _⟩) (v := ?v174) rfl (by kernel_rfl) (by kernel_rfl) (by kernel_rfl) (fun _ _ _ h => h) (Or.inl ⟨by rfl, ?hy174⟩) (by assumption) ?rest174
          case hy174 => (intro w hSw; (try dsimp only at hSw); go_simp; try with_reducible rfl)
          simp only [Act.put, List.setIfInBounds_toArray, List.set_cons_zero, List.set_cons_succ]
          refine wpAnyH_take (i := 17) (oi := ⟨some 194, _, _, _, _, _⟩) (v := ?v175) rfl (by kernel_rfl) (by kernel_rfl) (by kernel_rfl) (fun _ _ _ h => h) (Or.inl ⟨by rfl, ?hy175⟩) (by assumption) ?rest175
          case hy175 => (intro w hSw; (try dsimp only at hSw); go_simp; try with_reducible rfl)
          simp only [Act.put, List.setIfInBounds_toArray, List.set_cons_zero, List.set_cons_succ]
          refine wpAnyH_done (by kernel_rfl) ?_ _
          go_wp2
          go_roundw
          case rel => exact ⟨j + 1, g2, by omega, by go_num, HF2.out, Things.less (ts := [_, _, _]) V3.out⟩
          case measure => simp [intOf]; omega
        · have H3 : Hid (∀ w0 (base B2 : Nat) (y1 y2 : Value), w0.ownsRow base 92 3 y1 ss.length (spcs ss) → w0.ownsRow B2 92 3 y2 ss.length (spcs ss) → Calls Tryd.prog 29 #[y1, y2] w0 fun e w' => e = .returned (.bool true) ∧ Fr (fun _ => False) w0 w') := fun w0 base B2 y1 y2 h1 h2 => same_any h1 h2 (by omega)
          obtain ⟨B6, b6, v6, har⟩ := T.out.refA 1 rfl
          have r0 := har.c0
          have r1 := har.c1
          have hlen := HLN.out
          have hcv : (convert 54 9 (.slice (some ⟨b6, 0, none⟩) bs.length bs.length)).run Tryd.prog wr = .ok (.string ⟨bs.toArray⟩) wr := by
            have := run_bytes_string (P := Tryd.prog) 54 5 9 Tryd.underlying54 Tryd.underlying5 Tryd.underlying9 har.by' 0 bs.length bs.length (by omega)
            rw [List.drop_zero, List.take_of_length_le (Nat.le_refl _)] at this
            exact this
          have HR := hid har.tr
          clear har hlen
          go_wp2_with fail
          refine (H3.out _ _ _ _ _ (T.out.spans 2 rfl) HR.out).mono ?_
          rintro e w8 ⟨rfl, f8⟩
          have T8 := hid (T.out.nw.kept f8)
          clear f8 T H3
          go_wp2
          go_ret
          exact ⟨by simp, T8.out.fr⟩
end Go.Proofs.YthndakhnhnipnaaDoor
