/-
  A page that was copied to another place goes on there as it would have here: the walk of the law PageMoves.
-/
import Derived.Test.YthndakhnhnipnaaDoorPaHad
import Derived.Test.YthndakhnhnipnaaDoorPaPlay
import Derived.Test.YthndakhnhnipnaaDoorAnMake
import Derived.Test.YthndakhnhnipnaaDoorPaOpen
import Derived.Test.YthndakhnhnipnaaDoorObjs2
namespace Go.Proofs.YthndakhnhnipnaaDoor
open Go.RowKit
open An

theorem win_zeros (n b : Nat) (h : b + 512 ≤ n) : win (List.replicate n 0) b = zs 512 := by
  apply List.ext_getElem?
  intro i
  by_cases hi : i < 512
  · rw [win_get? _ _ _ hi]
    unfold zs
    rw [List.getElem?_replicate, List.getElem?_replicate, if_pos (by omega), if_pos hi]
  · rw [List.getElem?_eq_none (by rw [win_length (by rw [List.length_replicate]; exact h)]; omega), List.getElem?_eq_none (by rw [zs_length]; omega)]
theorem over_all {xs ds : List UInt8} (h : ds.length = xs.length) : over xs 0 ds = ds := by
  unfold over
  rw [List.take_zero, List.nil_append, Nat.zero_add, h, List.drop_length, List.append_nil]
/-- Copied to the other half, and noughts where it was. -/
theorem moved {bs : List UInt8} (h : bs.length = 1024) : (over (over bs 512 ((bs.drop 0).take 512)) 0 (List.replicate 512 0)).length = 1024 ∧ win (over (over bs 512 ((bs.drop 0).take 512)) 0 (List.replicate 512 0)) 512 = win bs 0 ∧ win (over (over bs 512 ((bs.drop 0).take 512)) 0 (List.replicate 512 0)) 0 = zs 512 := by
  have e0 : (bs.drop 0).take 512 = win bs 0 := rfl
  rw [e0]
  have l0 : (win bs 0).length = 512 := win_length (by omega)
  have l1 : (over bs 512 (win bs 0)).length = 1024 := (over_length _ _ _ (by omega)).trans h
  have l2 : (List.replicate 512 (0 : UInt8)).length = 512 := List.length_replicate
  refine ⟨(over_length _ _ _ (by omega)).trans l1, ?_, ?_⟩
  · rw [win_far (by omega) (by omega)]
    have := win_over (bs := bs) (ds := win bs 0) (b := 512) (q := 0) (by omega) (by omega)
    rw [Nat.add_zero] at this
    rw [this, over_all (by rw [l0, win_length (by omega)])]
  · have := win_over (bs := over bs 512 (win bs 0)) (ds := List.replicate 512 0) (b := 0) (q := 0) (by omega) (by omega)
    rw [Nat.add_zero] at this
    rw [this, over_all (by rw [l2, win_length (by omega)])]
    rfl
set_option maxRecDepth 20000 in
set_option maxHeartbeats 4000000 in
theorem moves_walk (kd : Int) (sv mv : Value) (w : World) (gr : Gr w) (h : ∃ ad cap l, sv = .slice ad (List.length l) cap ∧ OpsAt w ad l ∧ l.length ≤ maxLen) (h2 : ∃ ad cap l, mv = .slice ad (List.length l) cap ∧ OpsAt w ad l ∧ l.length ≤ maxLen) : Calls Tryd.prog 5 #[.int .i64 kd, sv, mv] w fun e w' => e = .returned (.bool true) ∧ Fr (fun _ => False) w w' := by
  obtain ⟨ad, cap, l, rfl, hops, hmax⟩ := h
  obtain ⟨ad2, cap2, l2, rfl, hops2, hmax2⟩ := h2
  obtain ⟨k, hk, hkl⟩ := modu kd 8 8 rfl (by omega) (by omega)
  have HST := hid (Things.start (Nw.start w))
  have H1 : Hid (∀ w0, Things w w0 [] → Calls Tryd.prog 7 #[.int .i64 1024] w0 fun e w' => ∃ a, e = .returned (.tuple #[.pointer (some ⟨a, 0, none⟩), .int .i64 0]) ∧ Things w w' [Am 70 a (List.replicate 1024 0) []]) := fun w0 h => g_arena h 1024 (by omega)
  have H2 : Hid (∀ w0 P, Things w w0 [P] → Calls Tryd.prog 7 #[.int .i64 512] w0 fun e w' => ∃ a, e = .returned (.tuple #[.pointer (some ⟨a, 0, none⟩), .int .i64 0]) ∧ Things w w' [P, Am 70 a (List.replicate 512 0) []]) := fun w0 P h => g_arena h 512 (by omega)
  have H3 : Hid (∀ w0 a P, Things w w0 [Am 70 a (List.replicate 1024 0) [], P] → Calls Tryd.prog 9 #[.pointer (some ⟨a, 0, none⟩), .int .i64 0, .int .i64 k] w0 fun e w' => ∃ p, e = .returned (.tuple #[.pointer (some ⟨p, 0, none⟩), .int .i64 0]) ∧ Things w w' [Pa a (List.replicate 1024 0) [] p ⟨0, k, 0, [], []⟩, P]) := fun w0 a P h => g_new h gr 0 rfl (x := 0) (by omega) (by rw [List.length_replicate]; decide)
  have H4 : Hid (∀ w0 a P Q, Things w w0 [P, Am 70 a (List.replicate 512 0) [], Q] → Calls Tryd.prog 9 #[.pointer (some ⟨a, 0, none⟩), .int .i64 0, .int .i64 k] w0 fun e w' => ∃ p, e = .returned (.tuple #[.pointer (some ⟨p, 0, none⟩), .int .i64 0]) ∧ Things w w' [P, Pa a (List.replicate 512 0) [] p ⟨0, k, 0, [], []⟩, Q]) := fun w0 a P Q h => g_new h gr 1 rfl (x := 0) (by omega) (by rw [List.length_replicate]; decide)
  have HA : Hid (∀ w0 ts, Things w w0 ts → Calls Tryd.prog 11 #[] w0 fun e w' => e = .returned (.bool true) ∧ Things w w' ts) := fun w0 ts h => awake_t h gr
  have HOK : Hid (Pg.Ok ⟨0, k, 0, [], []⟩ (List.replicate 512 0)) := Pg.fresh_ok (by omega) (by rw [List.length_replicate]; decide)
  have HLK : Hid (Like ⟨0, k, 0, [], []⟩ ⟨0, k, 0, [], []⟩ (List.replicate 1024 0) (List.replicate 512 0)) := ⟨rfl, rfl, rfl, rfl, (win_zeros 1024 0 (by omega)).trans (win_zeros 512 0 (by omega)).symm, rfl, by rw [List.length_replicate]; show 0 + 512 ≤ 1024; omega⟩
  have HO1 := hid hops
  have HO2 := hid hops2
  have HG := hid gr
  clear hops hops2 gr
  go_enter Tryd.func5, Tryd.ntmps5
  go_wp2_with fail
  refine (H1.out _ HST.out).mono ?_
  rintro e w1 ⟨a, rfl, h1⟩
  have T1 := hid h1
  clear h1 HST H1
  go_wp2_with fail
  refine (H2.out _ _ T1.out).mono ?_
  rintro e w2 ⟨b, rfl, h1⟩
  have T2 := hid h1
  clear h1 T1 H2
  go_wp2_with fail
  refine (H3.out _ _ _ T2.out).mono ?_
  rintro e w3 ⟨p, rfl, h1⟩
  have T3 := hid (h1.blk (pob p))
  clear h1 T2 H3
  go_wp2_with fail
  refine (H4.out _ _ _ _ T3.out).mono ?_
  rintro e w4 ⟨q, rfl, h1⟩
  have T4 := hid (h1.blk (pob q))
  clear h1 T3 H4
  go_wp2_with fail
  refine (HA.out _ _ T4.out).mono ?_
  rintro e w5 ⟨rfl, h1⟩
  generalize hBp : w3.heap.size = Bp at *
  generalize hBq : w4.heap.size = Bq at *
  have T5 : Hid (Things w w5 [Pa a (List.replicate 1024 0) [] p ⟨0, k, 0, [], []⟩, Pa b (List.replicate 512 0) [] q ⟨0, k, 0, [], []⟩, Blk Bp (pob p), Blk Bq (pob q)]) := h1
  clear h1 T4
  by_cases hgr : 200 < l.length ∨ 200 < l2.length
  · have hgr2 : 200 < (l.length : Int) ∨ (¬ 200 < (l.length : Int) ∧ 200 < (l2.length : Int)) := by omega
    clear HO1 HO2 HG HOK HLK hgr
    rcases hgr2 with h1 | ⟨h1, h2⟩
    all_goals
      go_wp2_with fail
      refine (HA.out _ _ T5.out).mono ?_
      rintro e w6 ⟨rfl, h6⟩
      have T6 := hid h6.nw
      clear h6 T5 HA
      go_wp2
      go_ret
      exact ⟨by simp, T6.out.fr⟩
  have hl1 : l.length ≤ 200 := by omega
  have hl2 : l2.length ≤ 200 := by omega
  have hl1' : (l.length : Int) ≤ 200 := by omega
  have hl2' : (l2.length : Int) ≤ 200 := by omega
  have TW : Hid (Tw w w5 a b p q Bp Bq 0 0 512 (zs 512)) := ⟨_, _, _, _, _, _, HOK.out, HLK.out, ⟨rfl, rfl⟩, ⟨Nat.le_refl _, Nat.le_refl _⟩, List.length_replicate, List.length_replicate, win_zeros 1024 512 (by omega), T5.out⟩
  have H5 : Hid (∀ w0, Tw w w0 a b p q Bp Bq 0 0 512 (zs 512) → Calls Tryd.prog 33 #[.slice ad l.length cap, .pointer (some ⟨Bp, 0, none⟩), .pointer (some ⟨Bq, 0, none⟩)] w0 fun e w' => e = .returned (.bool true) ∧ Tw w w' a b p q Bp Bq 0 400 512 (zs 512)) := fun w0 h => play_any h HG.out (by omega) cap HO1.out hl1 (by omega)
  have H6 : Hid (∀ w0, Tw w w0 a b p q Bp Bq 512 1000 0 (zs 512) → Calls Tryd.prog 33 #[.slice ad2 l2.length cap2, .pointer (some ⟨Bp, 0, none⟩), .pointer (some ⟨Bq, 0, none⟩)] w0 fun e w' => e = .returned (.bool true) ∧ Tw w w' a b p q Bp Bq 512 1400 0 (zs 512)) := fun w0 h => play_any h HG.out (by omega) cap2 HO2.out hl2 (by omega)
  have hmf : ∀ (fn : Fn) (first cap : Array Value) (w : World), (Instr.makeFunc fn first cap).run Tryd.prog w = .ok (.func fn first cap) w := fun _ _ _ _ => rfl
  clear HO1 HO2 HOK HLK HA T5 hgr hl1 hl2
  go_wp2_with fail
  refine (H5.out _ TW.out).mono ?_
  rintro e w6 ⟨rfl, bs, ss, g, bs', ss', g', hok, hlk, ⟨hb1, hb2⟩, ⟨s1, s2⟩, n1, n2, _, h6⟩
  have T6 := hid h6
  have OK := hid hok
  have LK := hid hlk
  have HB : Hid (g.base = 0 ∧ g'.base = 0 ∧ bs.length = 1024 ∧ bs'.length = 512) := ⟨hb1, hb2, n1, n2⟩
  have H7 : Hid (∀ w0, Things w w0 [Pa a bs ss p g, Pa b bs' ss' q g', Blk Bp (pob p), Blk Bq (pob q)] → Calls Tryd.prog 34 #[.pointer (some ⟨a, 0, none⟩), .int .i64 512, .int .i64 0, .int .i64 512] w0 fun e w' => e = .returned (.int .i64 0) ∧ ∃ ss1, ss1.length ≤ 500 ∧ Things w w' [Pa a (over bs 512 ((bs.drop 0).take 512)) ss1 p g, Pa b bs' ss' q g', Blk Bp (pob p), Blk Bq (pob q)]) := fun w0 h => (g_copy h 0 rfl 512 0 512 (by omega) (by omega) (by omega)).mono fun e w' ⟨he, h2⟩ => ⟨he, _, Nat.le_trans (noted_le _ _ _ _) (by have := noted_le ss ((0 : Nat) : Int) ((512 : Nat) : Int) false; omega), h2⟩
  have HL1 : Hid ((over bs 512 ((bs.drop 0).take 512)).length = 1024) := (over_length _ _ _ (by simp; omega)).trans n1
  have H8 : Hid (∀ w0 ss1, ss1.length ≤ 500 → Things w w0 [Pa a (over bs 512 ((bs.drop 0).take 512)) ss1 p g, Pa b bs' ss' q g', Blk Bp (pob p), Blk Bq (pob q)] → Calls Tryd.prog 35 #[.pointer (some ⟨a, 0, none⟩), .int .i64 0, .int .i64 512] w0 fun e w' => e = .returned (.int .i64 0) ∧ ∃ ss2, ss2.length ≤ 600 ∧ Things w w' [Pa a (over (over bs 512 ((bs.drop 0).take 512)) 0 (List.replicate 512 0)) ss2 p g, Pa b bs' ss' q g', Blk Bp (pob p), Blk Bq (pob q)]) := fun w0 ss1 hs h => (g_zero h 0 rfl 0 512 (by rw [HL1.out]; omega) (by omega)).mono fun e w' ⟨he, h2⟩ => ⟨he, _, Nat.le_trans (noted_le _ _ _ _) (by omega), h2⟩
  obtain ⟨m1, m2, m3⟩ := moved n1
  have HM : Hid (win (over (over bs 512 ((bs.drop 0).take 512)) 0 (List.replicate 512 0)) 512 = win bs 0 ∧ win (over (over bs 512 ((bs.drop 0).take 512)) 0 (List.replicate 512 0)) 0 = zs 512 ∧ (over (over bs 512 ((bs.drop 0).take 512)) 0 (List.replicate 512 0)).length = 1024) := ⟨m2, m3, m1⟩
  clear h6 hok hlk hb1 hb2 n1 n2 m1 m2 m3 TW H5
  generalize over (over bs 512 ((bs.drop 0).take 512)) 0 (List.replicate 512 0) = bs2 at *
  generalize over bs 512 ((bs.drop 0).take 512) = bs1 at *
  have hfit : g.Fit bs2.length := by
    have h1 := (LK.out.ok OK.out).lies
    rw [HB.out.2.2.1] at h1
    rw [HM.out.2.2]
    exact h1
  have hE : pmE bs2.length 512 = 0 := if_pos (by rw [HM.out.2.2]; decide)
  have hS : pmS g bs2.length 512 = ⟨512, g.kind, g.fresh, g.R, g.D⟩ := if_pos (by rw [HM.out.2.2]; decide)
  have H9 : Hid (∀ w0 ss2, ss2.length ≤ 600 → Things w w0 [Pa a bs2 ss2 p g, Pa b bs' ss' q g', Blk Bp (pob p), Blk Bq (pob q)] → Calls Tryd.prog 27 #[.pointer (some ⟨p, 0, none⟩), .int .i64 512] w0 fun e w' => e = .returned (.int .i64 0) ∧ Tw w w' a b p q Bp Bq 512 1000 0 (zs 512)) := fun w0 ss2 hs h => by
    have := g_move h HG.out 0 rfl hfit (x := 512) (by decide)
    rw [hE, hS] at this
    exact this.mono fun e w' ⟨he, h2⟩ => ⟨he, bs2, ss2, ⟨512, g.kind, g.fresh, g.R, g.D⟩, bs', ss', g', OK.out, ⟨LK.out.kind, LK.out.fresh, LK.out.r, LK.out.d, by show win bs2 512 = _; rw [HM.out.1, HB.out.2.1]; have := LK.out.same; rw [HB.out.1, HB.out.2.1] at this; exact this, by show 512 % 512 = 0; omega, by show 512 + 512 ≤ _; rw [HM.out.2.2]; omega⟩, ⟨rfl, HB.out.2.1⟩, ⟨by omega, by omega⟩, HM.out.2.2, HB.out.2.2.2, HM.out.2.1, h2⟩
  clear hE hS hfit HL1
  go_wp2_with fail
  refine (H7.out _ T6.out).mono ?_
  rintro e w7 ⟨rfl, ss1, hs1, h7⟩
  have T7 := hid h7
  clear h7 T6 H7
  go_wp2_with fail
  refine (H8.out _ _ hs1 T7.out).mono ?_
  rintro e w8 ⟨rfl, ss2, hs2, h8⟩
  have T8 := hid h8
  have d8 := pobc (h8.cells 2 rfl)
  clear h8 T7 H8 hs1
  go_wp2_with fail
  refine (H9.out _ _ hs2 T8.out).mono ?_
  rintro e w9 ⟨rfl, h9⟩
  have T9 := hid h9
  clear h9 T8 H9 hs2 d8
  go_wp2_with fail
  refine (H6.out _ T9.out).mono ?_
  rintro e wa ⟨rfl, cs, us, f, cs', us', f', hok, hlk, ⟨hb1, hb2⟩, ⟨s3, s4⟩, n1, n2, hz, h6⟩
  have Ta := hid h6
  have R1 : Hid (∀ w0, Things w w0 [Pa a cs us p f, Pa b cs' us' q f', Blk Bp (pob p), Blk Bq (pob q)] → Calls Tryd.prog 26 #[.pointer (some ⟨a, 0, none⟩), .int .i64 512, .int .i64 512] w0 fun e w' => e = .returned (.tuple #[.string ⟨(win cs 512).toArray⟩, .int .i64 0]) ∧ ∃ u1, u1.length ≤ 2000 ∧ Things w w' [Pa a cs u1 p f, Pa b cs' us' q f', Blk Bp (pob p), Blk Bq (pob q)]) := fun w0 h => (g_read h 0 rfl 512 512 (by omega) (by omega)).mono fun e w' ⟨he, h2⟩ => ⟨he, _, Nat.le_trans (noted_le _ _ _ _) (by omega), h2⟩
  have R2 : Hid (∀ w0 u1, Things w w0 [Pa a cs u1 p f, Pa b cs' us' q f', Blk Bp (pob p), Blk Bq (pob q)] → Calls Tryd.prog 26 #[.pointer (some ⟨b, 0, none⟩), .int .i64 0, .int .i64 512] w0 fun e w' => e = .returned (.tuple #[.string ⟨(win cs' 0).toArray⟩, .int .i64 0]) ∧ ∃ u2, Things w w' [Pa a cs u1 p f, Pa b cs' u2 q f', Blk Bp (pob p), Blk Bq (pob q)]) := fun w0 u1 h => (g_read h 1 rfl 0 512 (by omega) (by omega)).mono fun e w' ⟨he, h2⟩ => ⟨he, _, h2⟩
  have R3 : Hid (∀ w0 u1 u2, u1.length ≤ 2000 → Things w w0 [Pa a cs u1 p f, Pa b cs' u2 q f', Blk Bp (pob p), Blk Bq (pob q)] → Calls Tryd.prog 26 #[.pointer (some ⟨a, 0, none⟩), .int .i64 0, .int .i64 512] w0 fun e w' => e = .returned (.tuple #[.string ⟨(zs 512).toArray⟩, .int .i64 0]) ∧ Nw w w') := fun w0 u1 u2 hu h => (g_read h 0 rfl 0 512 (by omega) (by omega)).mono fun e w' ⟨he, h2⟩ => ⟨by rw [he, ← hz]; rfl, h2.nw⟩
  have hsame : win cs 512 = win cs' 0 := by have := hlk.same; rw [hb1, hb2] at this; exact this
  rw [hsame] at R1
  clear h6 hok hlk hb1 hb2 n1 n2 hz hsame s3 s4 H6 T9
  generalize win cs' 0 = sx at *
  go_wp2_with fail
  refine (R1.out _ Ta.out).mono ?_
  rintro e wb ⟨rfl, u1, hu1, hb⟩
  have Tb := hid hb
  clear hb Ta R1
  go_wp2_with fail
  refine (R2.out _ _ Tb.out).mono ?_
  rintro e wc ⟨rfl, u2, hc⟩
  have Tc := hid hc
  clear hc Tb R2
  go_wp2_with fail
  refine (R3.out _ _ _ hu1 Tc.out).mono ?_
  rintro e wd ⟨rfl, hd⟩
  have Td := hid hd
  clear hd Tc R3
  have hmk : (Instr.makeSlice 54 (.int .i64 512) (.int .i64 512)).run Tryd.prog wd = .ok (.slice (some ⟨wd.heap.size, 0, none⟩) 512 512) (wd.alloc (.cells (bc (zs 512)).toArray 5)) := run_make_bytes wd 512 (by omega)
  have hcv := run_made_text wd 512
  generalize zs 512 = zz at *
  go_wp2
  go_ret
  exact ⟨by simp, (Td.out.kept ((Fr.refl _ _).alloc _)).fr⟩
end Go.Proofs.YthndakhnhnipnaaDoor
