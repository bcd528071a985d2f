/-
  The closure of the law PageMoves: two pages that are alike answer alike, and stay alike.
-/
import Derived.Test.YthndakhnhnipnaaDoorPaWin
import Derived.Test.YthndakhnhnipnaaDoorPaOpen
import Derived.Test.YthndakhnhnipnaaDoorObjs2
namespace Go.Proofs.YthndakhnhnipnaaDoor
open Go.RowKit
open An

/-- A variable that the closure has: where it lies there is a page. -/
def pob (p : Nat) : Obj := .cells #[.pointer (some ⟨p, 0, none⟩)] 31 (0, 0)
theorem pobc {w : World} {B p : Nat} (h : w.heap[B]? = some (pob p)) : w.cell? ⟨B, 0, none⟩ = some (.pointer (some ⟨p, 0, none⟩)) := by unfold pob at h; simp [World.cell?, h]
/-- Two pages that are alike, and the two variables; b0: where the first one lies; z: what lies at a place apart from it. -/
def Tw (W w : World) (a b p q Bp Bq b0 n c : Nat) (z : List UInt8) : Prop := ∃ bs ss g bs' ss' g', Pg.Ok g' bs' ∧ Like g g' bs bs' ∧ (g.base = b0 ∧ g'.base = 0) ∧ (ss.length ≤ n ∧ ss'.length ≤ n) ∧ bs.length = 1024 ∧ bs'.length = 512 ∧ win bs c = z ∧ Things W w [Pa a bs ss p g, Pa b bs' ss' q g', Blk Bp (pob p), Blk Bq (pob q)]
set_option maxRecDepth 20000 in
set_option maxHeartbeats 4000000 in
theorem play_any {W w : World} {a b p q Bp Bq b0 n c : Nat} {z : List UInt8} (h : Tw W w a b p q Bp Bq b0 n c z) (gr : Gr W) (hc : c + 512 ≤ b0 ∨ b0 + 512 ≤ c) {ad : Option Addr} {l : List (Int × Int)} (cap : Nat) (ho : OpsAt W ad l) (hl : l.length ≤ 200) (hn : n ≤ 10000) : Calls Tryd.prog 33 #[.slice ad l.length cap, .pointer (some ⟨Bp, 0, none⟩), .pointer (some ⟨Bq, 0, none⟩)] w fun e w' => e = .returned (.bool true) ∧ Tw W w' a b p q Bp Bq b0 (n + 400) c z := by
  have HT := hid h
  have HG := hid gr
  have HO := hid ho
  clear h gr ho
  go_enter Tryd.func33, Tryd.ntmps33
  go_wp2
  go_loopw [6, 7, 8, 9, 10, 13] (fun _ _ _ _ _ i wr => ∃ j : Nat, j ≤ l.length ∧ i = .int .i64 j ∧ Tw W wr a b p q Bp Bq b0 (n + 2 * j) c z) (fun _ _ _ _ _ i _ => l.length - (intOf i).toNat)
  case atStart => exact ⟨0, by omega, rfl, HT.out⟩
  case round =>
    clear HT
    obtain ⟨j, hj, rfl, bs, ss, g, bs', ss', g', hok, hlk, hbb, hss, hl1, hl2, hz, ht⟩ := hrel
    have T := hid ht
    have OK := hid hok
    have LK := hid hlk
    have HB := hid hbb
    have HL : Hid (bs.length = 1024 ∧ bs'.length = 512 ∧ win bs c = z) := ⟨hl1, hl2, hz⟩
    obtain ⟨s1, s2⟩ := hss
    clear ht hok hlk hbb hl1 hl2 hz
    by_cases hlt : j < l.length
    · obtain ⟨bb, off, rfl, hbk, p1, p2, hI⟩ := HO.out.fr T.out.nw.fr j hlt
      generalize hop : l[j] = op2 at p1 p2 hI
      obtain ⟨kd, x⟩ := op2
      simp only at p1 p2 hI
      have HX : Hid (I64 x) := hI
      have T0 : Hid (Things W (wr.alloc (.cells #[.int .i64 kd, .int .i64 x] 39)) [Pa a bs ss p g, Pa b bs' ss' q g', Blk Bp (pob p), Blk Bq (pob q), Blk wr.heap.size (.cells #[.int .i64 kd, .int .i64 x] 39 (0, 0))]) := T.out.blk _
      clear hop HO T hI
      generalize hw0 : wr.alloc (.cells #[.int .i64 kd, .int .i64 x] 39) = wa at T0
      generalize hBB : wr.heap.size = B at T0
      obtain ⟨c0, c1, fz⟩ := cellZ (T0.out.cells 4 rfl)
      have d0 := pobc (T0.out.cells 2 rfl)
      have e0 := pobc (T0.out.cells 3 rfl)
      by_cases h1 : kd = 1
      · subst h1
        obtain ⟨a1, a2, _⟩ := LK.out.ans
        have H5 : Hid (∀ w0, Things W w0 [Pa a bs ss p g, Pa b bs' ss' q g', Blk Bp (pob p), Blk Bq (pob q), Blk B (.cells #[.int .i64 1, .int .i64 x] 39 (0, 0))] → Calls Tryd.prog 13 #[.pointer (some ⟨p, 0, none⟩)] w0 fun e w' => e = .returned (.tuple #[.int .i64 (paV g'), .int .i64 (paE g')]) ∧ Things W w' [Pa a (paB g bs) (paT g ss) p (paS g), Pa b bs' ss' q g', Blk Bp (pob p), Blk Bq (pob q), Blk B (.cells #[.int .i64 1, .int .i64 x] 39 (0, 0))]) := fun w0 h => by rw [← a1, ← a2]; exact g_alloc h HG.out 0 rfl (LK.out.ok OK.out) (by omega)
        have H6 : Hid (∀ w0, Things W w0 [Pa a (paB g bs) (paT g ss) p (paS g), Pa b bs' ss' q g', Blk Bp (pob p), Blk Bq (pob q), Blk B (.cells #[.int .i64 1, .int .i64 x] 39 (0, 0))] → Calls Tryd.prog 13 #[.pointer (some ⟨q, 0, none⟩)] w0 fun e w' => e = .returned (.tuple #[.int .i64 (paV g'), .int .i64 (paE g')]) ∧ Things W w' [Pa a (paB g bs) (paT g ss) p (paS g), Pa b (paB g' bs') (paT g' ss') q (paS g'), Blk Bp (pob p), Blk Bq (pob q), Blk B (.cells #[.int .i64 1, .int .i64 x] 39 (0, 0))]) := fun w0 h => g_alloc h HG.out 1 rfl OK.out (by omega)
        obtain ⟨k1, k2, k3⟩ := LK.out.alloc OK.out
        have HN : Hid (∀ w0, Things W w0 [Pa a (paB g bs) (paT g ss) p (paS g), Pa b (paB g' bs') (paT g' ss') q (paS g'), Blk Bp (pob p), Blk Bq (pob q), Blk B (.cells #[.int .i64 1, .int .i64 x] 39 (0, 0))] → Tw W w0 a b p q Bp Bq b0 (n + 2 * (j + 1)) c z) := fun w0 h => ⟨_, _, _, _, _, _, OK.out.alloc.1, k1, ⟨k2.trans HB.out.1, (paS_at g').1.trans HB.out.2⟩, ⟨by have := paT_len g ss; omega, by have := paT_len g' ss'; omega⟩, (LK.out.ok OK.out).alloc.2.trans HL.out.1, OK.out.alloc.2.trans HL.out.2.1, (k3 c (by rw [HB.out.1]; exact hc)).trans HL.out.2.2, Things.less (ts := [_, _, _, _]) h⟩
        clear k1 k2 k3 a1 a2 OK LK HB HL HX hc
        generalize paV g' = pv at *
        generalize paE g' = pe at *
        generalize paB g bs = bs2 at *
        generalize paT g ss = ss2 at *
        generalize paS g = g2 at *
        generalize paB g' bs' = bs3 at *
        generalize paT g' ss' = ss3 at *
        generalize paS g' = g3 at *
        go_wp2_with fail
        refine (H5.out _ T0.out).mono ?_
        rintro e w6 ⟨rfl, h6⟩
        have T7 := hid h6
        have e1 := pobc (h6.cells 3 rfl)
        clear h6 H5 T0 c0 c1 fz d0 e0
        go_wp2_with fail
        refine (H6.out _ T7.out).mono ?_
        rintro e w7 ⟨rfl, h7⟩
        have T8 := hid h7
        clear h7 H6 T7 e1
        go_wp2
        go_roundw
        case rel => exact ⟨j + 1, by omega, by go_num, HN.out _ T8.out⟩
        case measure => simp [intOf]; omega
      · obtain ⟨_, _, a3⟩ := LK.out.ans
        have H5 : Hid (∀ w0, Things W w0 [Pa a bs ss p g, Pa b bs' ss' q g', Blk Bp (pob p), Blk Bq (pob q), Blk B (.cells #[.int .i64 kd, .int .i64 x] 39 (0, 0))] → Calls Tryd.prog 15 #[.pointer (some ⟨p, 0, none⟩), .int .i64 x] w0 fun e w' => e = .returned (.int .i64 (pfE g' x)) ∧ Things W w' [Pa a (pfB g bs x) (pfT g ss x) p (pfS g x), Pa b bs' ss' q g', Blk Bp (pob p), Blk Bq (pob q), Blk B (.cells #[.int .i64 kd, .int .i64 x] 39 (0, 0))]) := fun w0 h => by rw [← a3 x]; exact g_free h HG.out 0 rfl (LK.out.ok OK.out) (by omega) HX.out
        have H6 : Hid (∀ w0, Things W w0 [Pa a (pfB g bs x) (pfT g ss x) p (pfS g x), Pa b bs' ss' q g', Blk Bp (pob p), Blk Bq (pob q), Blk B (.cells #[.int .i64 kd, .int .i64 x] 39 (0, 0))] → Calls Tryd.prog 15 #[.pointer (some ⟨q, 0, none⟩), .int .i64 x] w0 fun e w' => e = .returned (.int .i64 (pfE g' x)) ∧ Things W w' [Pa a (pfB g bs x) (pfT g ss x) p (pfS g x), Pa b (pfB g' bs' x) (pfT g' ss' x) q (pfS g' x), Blk Bp (pob p), Blk Bq (pob q), Blk B (.cells #[.int .i64 kd, .int .i64 x] 39 (0, 0))]) := fun w0 h => g_free h HG.out 1 rfl OK.out (by omega) HX.out
        obtain ⟨k1, k2, k3⟩ := LK.out.free OK.out x
        have HN : Hid (∀ w0, Things W w0 [Pa a (pfB g bs x) (pfT g ss x) p (pfS g x), Pa b (pfB g' bs' x) (pfT g' ss' x) q (pfS g' x), Blk Bp (pob p), Blk Bq (pob q), Blk B (.cells #[.int .i64 kd, .int .i64 x] 39 (0, 0))] → Tw W w0 a b p q Bp Bq b0 (n + 2 * (j + 1)) c z) := fun w0 h => ⟨_, _, _, _, _, _, (OK.out.free x).1, k1, ⟨k2.trans HB.out.1, (pfS_at g' x).1.trans HB.out.2⟩, ⟨by have := pfT_len g ss x; omega, by have := pfT_len g' ss' x; omega⟩, ((LK.out.ok OK.out).free x).2.trans HL.out.1, (OK.out.free x).2.trans HL.out.2.1, (k3 c (by rw [HB.out.1]; exact hc)).trans HL.out.2.2, Things.less (ts := [_, _, _, _]) h⟩
        clear k1 k2 k3 a3 OK LK HB HL HX hc
        generalize pfE g' x = pe at *
        generalize pfB g bs x = bs2 at *
        generalize pfT g ss x = ss2 at *
        generalize pfS g x = g2 at *
        generalize pfB g' bs' x = bs3 at *
        generalize pfT g' ss' x = ss3 at *
        generalize pfS g' x = g3 at *
        go_wp2_with fail
        go_region_held3 (fun w' => w'.cell? ⟨B, 1, none⟩ = some (.int .i64 x) ∧ w'.cell? ⟨Bp, 0, none⟩ = some (.pointer (some ⟨p, 0, none⟩)) ∧ w'.cell? ⟨Bq, 0, none⟩ = some (.pointer (some ⟨q, 0, none⟩))) (first | exact ⟨by assumption, by assumption, by assumption⟩ | go_keep) (first | (go_at_call_of 15 p; refine (H5.out _ (T0.out.kept (Fr.refl _ _).drew)).mono ?_; rintro e w6 ⟨rfl, h6⟩; have T7 := hid h6; obtain ⟨c60, c61, _⟩ := cellZ (h6.cells 4 rfl); have d6 := pobc (h6.cells 2 rfl); have e6 := pobc (h6.cells 3 rfl); clear h6) | (go_at_call_of 15 q; refine (H6.out _ T7.out).mono ?_; rintro e w7 ⟨rfl, h7⟩; have T8 := hid h7; obtain ⟨c70, c71, _⟩ := cellZ (h7.cells 4 rfl); have d7 := pobc (h7.cells 2 rfl); have e7 := pobc (h7.cells 3 rfl); clear h7))
        go_wp2
        go_roundw
        case rel => exact ⟨j + 1, by omega, by go_num, HN.out _ T8.out⟩
        case measure => simp [intOf]; omega
    · have HN : Hid (Tw W wr a b p q Bp Bq b0 (n + 400) c z) := ⟨bs, ss, g, bs', ss', g', OK.out, LK.out, HB.out, ⟨by omega, by omega⟩, HL.out.1, HL.out.2.1, HL.out.2.2, T.out⟩
      clear OK LK HB HL T HO s1 s2 hc
      go_wp2
      go_ret
      exact ⟨by simp, HN.out⟩
end Go.Proofs.YthndakhnhnipnaaDoor
