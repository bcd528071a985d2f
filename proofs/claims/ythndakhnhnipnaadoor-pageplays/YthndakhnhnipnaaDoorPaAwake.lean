/-
  The document's own examples stand, so the laws are awake.
-/
import Derived.Test.YthndakhnhnipnaaDoorPaState
namespace Go.Proofs.YthndakhnhnipnaaDoor
open Go.RowKit
open An

theorem Pg.fresh_ok {bs : List UInt8} {x kd : Nat} (hk : kd ≤ 7) (hf : Fits bs.length x) : Pg.Ok ⟨x, kd, 0, [], []⟩ bs := ⟨hk, by show x % 512 = 0; have := hf.2.1; omega, by show x + 512 ≤ bs.length; have := hf.2.2; omega, trivial, trivial, List.nodup_nil, fun y hy => by simp at hy, Nat.zero_le _⟩
theorem paT_len (g : Pg) (ss : List Sp) : (paT g ss).length ≤ ss.length + 2 := by unfold paT; split <;> simp
theorem pfT_len (g : Pg) (ss : List Sp) (k : Int) : (pfT g ss k).length ≤ ss.length + 2 := by unfold pfT; split <;> simp
theorem paS_at (g : Pg) : (paS g).base = g.base ∧ (paS g).kind = g.kind := by
  unfold paS
  split
  · exact ⟨rfl, rfl⟩
  · split <;> exact ⟨rfl, rfl⟩
theorem pfS_at (g : Pg) (k : Int) : (pfS g k).base = g.base ∧ (pfS g k).kind = g.kind := by
  unfold pfS
  split <;> exact ⟨rfl, rfl⟩
/-- A page of the program's, with so many touches at most. -/
def St (W w : World) (a p : Nat) (g : Pg) (n : Nat) : Prop := ∃ bs ss, g.Ok bs ∧ ss.length ≤ n ∧ Things W w [Pa a bs ss p g]
section
variable {W w : World} {a p n : Nat} {g : Pg}
theorem st_alloc (h : St W w a p g n) (gr : Gr W) (hn : n ≤ 800000) {v e : Int} {g' : Pg} (hv : paV g = v) (he : paE g = e) (hs : paS g = g') : Calls Tryd.prog 13 #[.pointer (some ⟨p, 0, none⟩)] w fun x w' => x = .returned (.tuple #[.int .i64 v, .int .i64 e]) ∧ St W w' a p g' (n + 2) := by
  subst hv he hs
  obtain ⟨bs, ss, ok, hl, ht⟩ := h
  exact (g_alloc ht gr 0 rfl ok (by omega)).mono fun x w' ⟨hx, h2⟩ => ⟨hx, _, _, ok.alloc.1, by have := paT_len g ss; omega, h2⟩
theorem st_free (h : St W w a p g n) (gr : Gr W) (hn : n ≤ 800000) {k e : Int} {g' : Pg} (hi : I64 k) (he : pfE g k = e) (hs : pfS g k = g') : Calls Tryd.prog 15 #[.pointer (some ⟨p, 0, none⟩), .int .i64 k] w fun x w' => x = .returned (.int .i64 e) ∧ St W w' a p g' (n + 2) := by
  subst he hs
  obtain ⟨bs, ss, ok, hl, ht⟩ := h
  exact (g_free ht gr 0 rfl ok (by omega) hi).mono fun x w' ⟨hx, h2⟩ => ⟨hx, _, _, (ok.free k).1, by have := pfT_len g ss k; omega, h2⟩
theorem st_full (h : St W w a p g n) (gr : Gr W) {b : Bool} (hb : decide g.Full = b) : Calls Tryd.prog 19 #[.pointer (some ⟨p, 0, none⟩)] w fun x w' => x = .returned (.bool b) ∧ St W w' a p g n := by
  subst hb
  obtain ⟨bs, ss, ok, hl, ht⟩ := h
  exact (g_full ht gr 0 rfl ok).mono fun x w' ⟨hx, h2⟩ => ⟨hx, bs, ss, ok, hl, h2⟩
theorem st_used (h : St W w a p g n) (gr : Gr W) {v : Int} (hv : (g.used : Int) = v) : Calls Tryd.prog 17 #[.pointer (some ⟨p, 0, none⟩)] w fun x w' => x = .returned (.int .i64 v) ∧ St W w' a p g n := by
  subst hv
  obtain ⟨bs, ss, ok, hl, ht⟩ := h
  exact (g_used ht gr 0 rfl ok).mono fun x w' ⟨hx, h2⟩ => ⟨hx, bs, ss, ok, hl, h2⟩
theorem st_base (h : St W w a p g n) {v : Int} (hv : (g.base : Int) = v) : Calls Tryd.prog 23 #[.pointer (some ⟨p, 0, none⟩)] w fun x w' => x = .returned (.int .i64 v) ∧ St W w' a p g n := by
  subst hv
  obtain ⟨bs, ss, ok, hl, ht⟩ := h
  exact (g_base ht 0 rfl).mono fun x w' ⟨hx, h2⟩ => ⟨hx, bs, ss, ok, hl, h2⟩
theorem st_kind (h : St W w a p g n) {v : Int} (hv : (g.kind : Int) = v) : Calls Tryd.prog 24 #[.pointer (some ⟨p, 0, none⟩)] w fun x w' => x = .returned (.int .i64 v) ∧ St W w' a p g n := by
  subst hv
  obtain ⟨bs, ss, ok, hl, ht⟩ := h
  exact (g_kind ht 0 rfl).mono fun x w' ⟨hx, h2⟩ => ⟨hx, bs, ss, ok, hl, h2⟩
end
def ag (n : Nat) (R D : List Nat) : Pg := ⟨512, 7, n, R, D⟩
set_option maxRecDepth 20000 in
set_option maxHeartbeats 1000000 in
theorem awake_any {W w : World} (h : Nw W w) (gr : Gr W) : Calls Tryd.prog 11 #[] w fun e w' => e = .returned (.bool true) ∧ Nw W w' := by
  have HT := hid (Things.start h)
  have H0 : Hid (∀ w, Things W w [] → Calls Tryd.prog 7 #[.int .i64 1024] w fun e w' => ∃ a, e = .returned (.tuple #[.pointer (some ⟨a, 0, none⟩), .int .i64 0]) ∧ Things W w' [Am 70 a (List.replicate 1024 0) []]) := fun w h => g_arena h 1024 (by omega)
  have H1 : Hid (∀ w a, Things W w [Am 70 a (List.replicate 1024 0) []] → Calls Tryd.prog 9 #[.pointer (some ⟨a, 0, none⟩), .int .i64 512, .int .i64 7] w fun e w' => ∃ p, e = .returned (.tuple #[.pointer (some ⟨p, 0, none⟩), .int .i64 0]) ∧ St W w' a p (ag 0 [] []) 0) := fun w a h => (g_new h gr 0 rfl (x := 512) (kd := 7) (by omega) (by rw [List.length_replicate]; decide)).mono fun e w' ⟨p, he, h2⟩ => ⟨p, he, _, _, Pg.fresh_ok (by omega) (by rw [List.length_replicate]; decide), by simp, h2⟩
  have H2 := hid fun w a p (h : St W w a p (ag 0 [] []) 0) => st_alloc h gr (by omega) (v := 0) (e := 0) (g' := ag 1 [] []) (by decide) (by decide) rfl
  have H3 := hid fun w a p (h : St W w a p (ag 1 [] []) 2) => st_alloc h gr (by omega) (v := 1) (e := 0) (g' := ag 2 [] []) (by decide) (by decide) rfl
  have H4 := hid fun w a p (h : St W w a p (ag 2 [] []) 4) => st_alloc h gr (by omega) (v := 0) (e := 10) (g' := ag 2 [] []) (by decide) (by decide) rfl
  have H5 := hid fun w a p (h : St W w a p (ag 2 [] []) 6) => st_full h gr (b := true) (by decide)
  have H6 := hid fun w a p (h : St W w a p (ag 2 [] []) 6) => st_free h gr (by omega) (k := 0) (e := 0) (g' := ag 2 [] [0]) (by decide) (by decide) rfl
  have H7 := hid fun w a p (h : St W w a p (ag 2 [] [0]) 8) => st_free h gr (by omega) (k := 1) (e := 0) (g' := ag 2 [] [1, 0]) (by decide) (by decide) rfl
  have H8 := hid fun w a p (h : St W w a p (ag 2 [] [1, 0]) 10) => st_alloc h gr (by omega) (v := 1) (e := 0) (g' := ag 2 [0] []) (by decide) (by decide) rfl
  have H9 := hid fun w a p (h : St W w a p (ag 2 [0] []) 12) => st_alloc h gr (by omega) (v := 0) (e := 0) (g' := ag 2 [] []) (by decide) (by decide) rfl
  have HA := hid fun w a p (h : St W w a p (ag 2 [] []) 14) => st_used h gr (v := 2) (by decide)
  have HB := hid fun w a p (h : St W w a p (ag 2 [] []) 14) => st_base h (v := 512) (by decide)
  have HC := hid fun w a p (h : St W w a p (ag 2 [] []) 14) => st_kind h (v := 7) (by decide)
  have HN : Hid (∀ w a p, St W w a p (ag 2 [] []) 14 → Nw W w) := fun w a p ⟨_, _, _, _, h⟩ => h.nw
  clear h gr
  go_enter Tryd.func11, Tryd.ntmps11
  go_wp2_with fail
  refine (H0.out _ HT.out).mono ?_
  rintro e w1 ⟨a, rfl, h1⟩
  have T1 := hid h1
  clear h1 HT H0
  go_wp2_with fail
  refine (H1.out _ _ T1.out).mono ?_
  rintro e w2 ⟨p, rfl, h2⟩
  have T2 := hid h2
  clear h2 T1 H1
  go_wp2_with fail
  refine (H2.out _ _ _ T2.out).mono ?_
  rintro e u0 ⟨rfl, h1⟩
  have T3 := hid h1
  clear h1 T2 H2
  go_wp2_with fail
  refine (H3.out _ _ _ T3.out).mono ?_
  rintro e u1 ⟨rfl, h1⟩
  have T4 := hid h1
  clear h1 T3 H3
  go_wp2_with fail
  refine (H4.out _ _ _ T4.out).mono ?_
  rintro e u2 ⟨rfl, h1⟩
  have T5 := hid h1
  clear h1 T4 H4
  go_wp2_with fail
  refine (H5.out _ _ _ T5.out).mono ?_
  rintro e u3 ⟨rfl, h1⟩
  have T6 := hid h1
  clear h1 T5 H5
  go_wp2_with fail
  refine (H6.out _ _ _ T6.out).mono ?_
  rintro e u4 ⟨rfl, h1⟩
  have T7 := hid h1
  clear h1 T6 H6
  go_wp2_with fail
  refine (H7.out _ _ _ T7.out).mono ?_
  rintro e u5 ⟨rfl, h1⟩
  have T8 := hid h1
  clear h1 T7 H7
  go_wp2_with fail
  refine (H8.out _ _ _ T8.out).mono ?_
  rintro e u6 ⟨rfl, h1⟩
  have T9 := hid h1
  clear h1 T8 H8
  go_wp2_with fail
  refine (H9.out _ _ _ T9.out).mono ?_
  rintro e u7 ⟨rfl, h1⟩
  have TA := hid h1
  clear h1 T9 H9
  go_wp2_with fail
  refine (HA.out _ _ _ TA.out).mono ?_
  rintro e u8 ⟨rfl, h1⟩
  have TB := hid h1
  clear h1 TA HA
  go_wp2_with fail
  refine (HB.out _ _ _ TB.out).mono ?_
  rintro e u9 ⟨rfl, h1⟩
  have TC := hid h1
  clear h1 TB HB
  go_wp2_with fail
  refine (HC.out _ _ _ TC.out).mono ?_
  rintro e u10 ⟨rfl, h1⟩
  have TE := hid h1
  clear h1 TC HC
  go_wp2
  go_ret
  exact ⟨by simp, HN.out _ _ _ TE.out⟩
end Go.Proofs.YthndakhnhnipnaaDoor
