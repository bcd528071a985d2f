/-
  The document's own examples stand, so the laws are awake.
-/
import Derived.Test.YtjgkcaibapffhaaChThings
namespace Go.Proofs.Ytjgkcaibapffhaa
open Go.RowKit
open An

/-- The chain of the example, and what its calls leave. -/
def aw0 : Ck := ⟨32, 16, 4, 0⟩
theorem aw_ok : NewOk (List.replicate 96 (0 : UInt8)).length 32 16 4 := by decide
theorem aw_ch : Ch aw0 (List.replicate 96 0) [] := Ch.new (x := 32) (u := 16) (p := 4) (n := 96) (by decide)
def awB1 : List UInt8 := puB aw0 (List.replicate 96 0) 2
def aw1 : Ck := puS aw0 2
def awB2 : List UInt8 := puB aw1 awB1 0
def aw2 : Ck := puS aw1 0
theorem aw_ch1 : Ch aw1 awB1 [2] := aw_ch.push (x := 2) (by decide) (by simp)
theorem aw_ch2 : Ch aw2 awB2 [0, 2] := aw_ch1.push (x := 0) (by decide) (by simp)
theorem aw_len : awB2.length = 96 := by
  have h1 : awB1.length = 96 := (puB_len aw_ch.ok 2).trans (by simp)
  exact (puB_len aw_ch1.ok 0).trans h1
theorem aw_load : wd awB2 32 = 3 := aw_ch2.rep.1
theorem aw_all : alL aw2 awB2 = [0, 2] ∧ alE aw2 awB2 = 0 := aw_ch2.all
theorem aw_pop : poE aw2 awB2 = 0 ∧ poV aw2 awB2 = 0 := ⟨aw_ch2.pop.1, aw_ch2.pop.2.1⟩
theorem aw_after : wd (poB aw2 awB2) 32 = 0 := by
  have h : aw2.Good awB2 := by
    refine ⟨by decide, ?_⟩
    have : aw2.top = 32 := rfl
    rw [this, aw_load]; decide
  unfold poB
  rw [if_pos h]
  exact wd_same (by rw [aw_len]; decide) (by omega)
theorem aw_plen : (poB aw2 awB2).length = 96 := (poB_len aw_ch2.ok).trans aw_len
set_option maxRecDepth 20000 in
set_option maxHeartbeats 1000000 in
theorem awake_any {W w : World} (h : Nw W w) : Calls Try.prog 9 #[] w fun e w' => e = .returned (.bool true) ∧ Nw W w' := by
  have HT := hid (Things.start h)
  have H0 : Hid (∀ w, Things W w [] → Calls Try.prog 15 #[.int .i64 96] w fun e w' => ∃ a, e = .returned (.tuple #[.pointer (some ⟨a, 0, none⟩), .int .i64 0]) ∧ Things W w' [Pc a (List.replicate 96 0) [] []]) := fun w h => g_arena h 96 (by omega)
  have H1 : Hid (∀ w a, Things W w [Pc a (List.replicate 96 0) [] []] → Calls Try.prog 16 #[.pointer (some ⟨a, 0, none⟩), .int .i64 32, .int .i64 16, .int .i64 4] w fun e w' => ∃ c, e = .returned (.tuple #[.pointer (some ⟨c, 0, none⟩), .int .i64 0]) ∧ Things W w' [Pc a (List.replicate 96 0) [] [(c, aw0)]]) := fun w a h => g_new h 0 rfl aw_ok
  have H2 : Hid (∀ w a c, Things W w [Pc a (List.replicate 96 0) [] [(c, aw0)]] → Calls Try.prog 11 #[.pointer (some ⟨c, 0, none⟩)] w fun e w' => e = .returned (.bool true) ∧ Things W w' [Pc a (List.replicate 96 0) [] [(c, aw0)]]) := fun w a c h => g_empty h 0 rfl 0 rfl
  have H3 : Hid (∀ w a c, Things W w [Pc a (List.replicate 96 0) [] [(c, aw0)]] → Calls Try.prog 17 #[.pointer (some ⟨c, 0, none⟩), .int .i64 2] w fun e w' => e = .returned (.int .i64 0) ∧ ∃ ss, ss.length ≤ 100 ∧ Things W w' [Pc a awB1 ss [(c, aw1)]]) := fun w a c h => (g_push h 0 rfl (by simp) 0 rfl 2).mono fun e w' ⟨he, h⟩ => ⟨he, _, by have := puT_len (k := aw0) (ss := []) 2; simp at this; omega, h⟩
  have H4 : Hid (∀ w a c ss, ss.length ≤ 100 → Things W w [Pc a awB1 ss [(c, aw1)]] → Calls Try.prog 17 #[.pointer (some ⟨c, 0, none⟩), .int .i64 0] w fun e w' => e = .returned (.int .i64 0) ∧ ∃ ss, ss.length ≤ 200 ∧ Things W w' [Pc a awB2 ss [(c, aw2)]]) := fun w a c ss hs h => (g_push h 0 rfl (by omega) 0 rfl 0).mono fun e w' ⟨he, h⟩ => ⟨he, _, by have := puT_len (k := aw1) (ss := ss) 0; omega, h⟩
  have H5 : Hid (∀ w a c ss, ss.length ≤ 200 → Things W w [Pc a awB2 ss [(c, aw2)]] → Calls Try.prog 27 #[.pointer (some ⟨a, 0, none⟩), .int .i64 32] w fun e w' => e = .returned (.tuple #[.int .u64 3, .int .i64 0]) ∧ ∃ ss, ss.length ≤ 300 ∧ Things W w' [Pc a awB2 ss [(c, aw2)]]) := fun w a c ss hs h => (g_load h 0 rfl 32 (by rw [aw_len]; omega) (by omega)).mono fun e w' ⟨he, h⟩ => ⟨by rw [he, aw_load]; rfl, _, by simp; omega, h⟩
  have H6 : Hid (∀ w a c ss, ss.length ≤ 300 → Things W w [Pc a awB2 ss [(c, aw2)]] → Calls Try.prog 18 #[.pointer (some ⟨c, 0, none⟩)] w fun e w' => ∃ ad cap, e = .returned (.tuple #[.slice ad 2 cap, .int .i64 0]) ∧ ∃ ss, ss.length ≤ 400 ∧ Things W w' [Pc a awB2 ss [(c, aw2)], Lv ad [0, 2]]) := fun w a c ss hs h => (g_all h 0 rfl (by omega) 0 rfl).mono fun e w' ⟨ad, cap, he, h⟩ => by
    rw [aw_all.1, aw_all.2] at he
    rw [aw_all.1] at h
    exact ⟨ad, cap, he, _, by have := alT_len (k := aw2) (bs := awB2) (ss := ss) aw_ch2.ok; omega, h⟩
  have H7 : Hid (∀ w a c ss ad, ss.length ≤ 400 → Things W w [Pc a awB2 ss [(c, aw2)], Lv ad [0, 2]] → Calls Try.prog 19 #[.pointer (some ⟨c, 0, none⟩)] w fun e w' => e = .returned (.tuple #[.int .i64 0, .int .i64 0]) ∧ ∃ ss, ss.length ≤ 500 ∧ Things W w' [Pc a (poB aw2 awB2) ss [(c, poS aw2 awB2)], Lv ad [0, 2]]) := fun w a c ss ad hs h => (g_pop h 0 rfl (by omega) 0 rfl).mono fun e w' ⟨he, h⟩ => ⟨by rw [he, aw_pop.1, aw_pop.2], _, by have := poT_len (k := aw2) (bs := awB2) (ss := ss); omega, h⟩
  have H8 : Hid (∀ w a c ss ad, ss.length ≤ 500 → Things W w [Pc a (poB aw2 awB2) ss [(c, poS aw2 awB2)], Lv ad [0, 2]] → Calls Try.prog 27 #[.pointer (some ⟨a, 0, none⟩), .int .i64 32] w fun e w' => e = .returned (.tuple #[.int .u64 0, .int .i64 0]) ∧ ∃ P, Things W w' [P, Lv ad [0, 2]]) := fun w a c ss ad hs h => (g_load h 0 rfl 32 (by rw [aw_plen]; omega) (by omega)).mono fun e w' ⟨he, h⟩ => ⟨by rw [he, aw_after]; rfl, _, h⟩
  have HSM : Hid (∀ w ad cap P, Things W w [P, Lv ad [0, 2]] → Calls Try.prog 24 #[.slice ad 2 cap, .slice (some ⟨w.heap.size, 0, none⟩) 2 2] (w.alloc (.cells #[.int .i64 0, .int .i64 2] 3)) fun e w' => e = .returned (.bool true) ∧ Fr (fun _ => False) (w.alloc (.cells #[.int .i64 0, .int .i64 2] 3)) w') := fun w ad cap P h => by
    obtain ⟨U, h1, _⟩ := h.get 1 rfl
    exact same_yes (l := [0, 2]) cap 2 (h1.1.alloc _) (nums_new (l := [0, 2]) (heap_alloc_new w _) (Fr.refl _ _)) (by decide)
  clear h
  go_enter Try.func9, Try.ntmps9
  go_wp2_with fail
  refine (H0.out _ HT.out).mono ?_
  rintro e w1 ⟨a, rfl, h1⟩
  have T1 := hid h1
  clear h1 HT H0
  go_wp2_with fail
  refine (H1.out _ _ T1.out).mono ?_
  rintro e w2 ⟨c, rfl, h1⟩
  have T2 := hid h1
  clear h1 T1 H1
  go_wp2_with fail
  refine (H2.out _ _ _ T2.out).mono ?_
  rintro e w3 ⟨rfl, h1⟩
  have T3 := hid h1
  clear h1 T2 H2
  go_wp2_with fail
  refine (H3.out _ _ _ T3.out).mono ?_
  rintro e w4 ⟨rfl, ss4, hs4, h4⟩
  have T4 := hid h4
  clear h4 T3 H3
  go_wp2_with fail
  refine (H4.out _ _ _ _ hs4 T4.out).mono ?_
  rintro e w5 ⟨rfl, ss5, hs5, h5⟩
  have T5 := hid h5
  clear h5 T4 H4 hs4
  go_wp2_with fail
  refine (H5.out _ _ _ _ hs5 T5.out).mono ?_
  rintro e w6 ⟨rfl, ss6, hs6, h6⟩
  have T6 := hid h6
  clear h6 T5 H5 hs5
  go_wp2_with fail
  refine (H6.out _ _ _ _ hs6 T6.out).mono ?_
  rintro e w7 ⟨ad, cap, rfl, ss7, hs7, h7⟩
  have T7 := hid h7
  clear h7 T6 H6 hs6
  go_wp2_with fail
  refine (H7.out _ _ _ _ _ hs7 T7.out).mono ?_
  rintro e w8 ⟨rfl, ss8, hs8, h8⟩
  have T8 := hid h8
  clear h8 T7 H7 hs7
  go_wp2_with fail
  refine (H8.out _ _ _ _ _ hs8 T8.out).mono ?_
  rintro e w9 ⟨rfl, P9, h9⟩
  have T9 := hid h9
  clear h9 T8 H8 hs8
  go_wp2_with fail
  refine (HSM.out _ _ _ _ T9.out).mono ?_
  rintro e wa ⟨rfl, fa⟩
  have TA := hid (T9.out.nw.kept (((Fr.refl (fun _ => False) _).alloc _).trans fa))
  clear fa T9 HSM
  go_wp2
  go_ret
  exact ⟨by simp, TA.out⟩
end Go.Proofs.Ytjgkcaibapffhaa
