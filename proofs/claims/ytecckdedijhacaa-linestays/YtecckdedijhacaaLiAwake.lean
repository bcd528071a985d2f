/-
  The document's own examples stand, so the laws are awake.
-/
import Derived.Test.YtecckdedijhacaaLiState
import Derived.Test.YtecckdedijhacaaLists2
import Derived.LoopTactic
namespace Go.Proofs.Ytecckdedijhacaa
open Go.RowKit

theorem aw_ok0 : LiOk [] := LiOk.none
theorem aw_ok1 : LiOk [5] := aw_ok0.push (k := 5) (by decide)
theorem aw_ok2 : LiOk [5, 2] := aw_ok1.push (k := 2) (by decide)
theorem aw_ok3 : LiOk [5, 2, 9] := aw_ok2.push (k := 9) (by decide)
theorem aw_ok4 : LiOk [5, 9] := aw_ok3.remove 2
set_option maxRecDepth 20000 in
set_option maxHeartbeats 1000000 in
theorem awake_any {W w : World} (h : Nw W w) : Calls Try.prog 7 #[] w fun e w' => e = .returned (.bool true) ∧ Nw W w' := by
  have HT := hid (Things.start h)
  have H0 : Hid (∀ w, Things W w [] → Calls Try.prog 8 #[] w fun e w' => ∃ p, e = .returned (.pointer (some ⟨p, 0, none⟩)) ∧ Things W w' [Lm p []]) := fun w h => l_new h
  have H1 : Hid (∀ w p, Things W w [Lm p []] → Calls Try.prog 9 #[.pointer (some ⟨p, 0, none⟩), .int .i64 5] w fun e w' => e = .returned (.int .i64 0) ∧ Things W w' [Lm p [5]]) := fun w p h => l_push h 0 rfl aw_ok0 (by decide) (k := 5) (by decide)
  have H2 : Hid (∀ w p, Things W w [Lm p [5]] → Calls Try.prog 9 #[.pointer (some ⟨p, 0, none⟩), .int .i64 2] w fun e w' => e = .returned (.int .i64 0) ∧ Things W w' [Lm p [5, 2]]) := fun w p h => l_push h 0 rfl aw_ok1 (by decide) (k := 2) (by decide)
  have H3 : Hid (∀ w p, Things W w [Lm p [5, 2]] → Calls Try.prog 9 #[.pointer (some ⟨p, 0, none⟩), .int .i64 9] w fun e w' => e = .returned (.int .i64 0) ∧ Things W w' [Lm p [5, 2, 9]]) := fun w p h => l_push h 0 rfl aw_ok2 (by decide) (k := 9) (by decide)
  have H4 : Hid (∀ w p, Things W w [Lm p [5, 2, 9]] → Calls Try.prog 9 #[.pointer (some ⟨p, 0, none⟩), .int .i64 2] w fun e w' => e = .returned (.int .i64 7) ∧ Things W w' [Lm p [5, 2, 9]]) := fun w p h => l_push h 0 rfl aw_ok3 (by decide) (k := 2) (by decide)
  have H5 : Hid (∀ w p, Things W w [Lm p [5, 2, 9]] → Calls Try.prog 19 #[.pointer (some ⟨p, 0, none⟩)] w fun e w' => ∃ ad cap, e = .returned (.slice ad 3 cap) ∧ Things W w' [Lm p [5, 2, 9], Lv ad [5, 2, 9]]) := fun w p h => l_all h 0 rfl aw_ok3 (by decide)
  have H6 : Hid (∀ w p ad, Things W w [Lm p [5, 2, 9], Lv ad [5, 2, 9]] → Calls Try.prog 11 #[.pointer (some ⟨p, 0, none⟩), .int .i64 2] w fun e w' => e = .returned (.int .i64 0) ∧ Things W w' [Lm p [5, 9], Lv ad [5, 2, 9]]) := fun w p ad h => l_remove h 0 rfl aw_ok3 (by decide) (k := 2) (by decide)
  have H7 : Hid (∀ w p ad cap, Things W w [Lm p [5, 9], Lv ad [5, 2, 9]] → Calls Try.prog 18 #[.slice ad 3 cap, .slice (some ⟨w.heap.size, 0, none⟩) 3 3] (w.alloc (.cells #[.int .i64 5, .int .i64 2, .int .i64 9] 3)) fun e w' => e = .returned (.bool true) ∧ Things W w' [Lm p [5, 9]]) := fun w p ad cap h => by
    obtain ⟨U, h1, _⟩ := h.get 1 rfl
    exact (same_yes (l := [5, 2, 9]) cap 3 (h1.1.alloc _) (nums_new (l := [5, 2, 9]) (heap_alloc_new w _) (Fr.refl _ _)) (by decide)).mono fun _ _ ⟨he, f⟩ => ⟨he, Things.less (ts := [_]) (h.kept (Fr.trans' ((Fr.refl _ _).alloc _) f fun _ _ e => e))⟩
  have H8 : Hid (∀ w p, Things W w [Lm p [5, 9]] → Calls Try.prog 19 #[.pointer (some ⟨p, 0, none⟩)] w fun e w' => ∃ ad cap, e = .returned (.slice ad 2 cap) ∧ Things W w' [Lm p [5, 9], Lv ad [5, 9]]) := fun w p h => l_all h 0 rfl aw_ok4 (by decide)
  have H9 : Hid (∀ w p ad cap, Things W w [Lm p [5, 9], Lv ad [5, 9]] → Calls Try.prog 18 #[.slice ad 2 cap, .slice (some ⟨w.heap.size, 0, none⟩) 2 2] (w.alloc (.cells #[.int .i64 5, .int .i64 9] 3)) fun e w' => e = .returned (.bool true) ∧ Things W w' [Lm p [5, 9]]) := fun w p ad cap h => by
    obtain ⟨U, h1, _⟩ := h.get 1 rfl
    exact (same_yes (l := [5, 9]) cap 2 (h1.1.alloc _) (nums_new (l := [5, 9]) (heap_alloc_new w _) (Fr.refl _ _)) (by decide)).mono fun _ _ ⟨he, f⟩ => ⟨he, Things.less (ts := [_]) (h.kept (Fr.trans' ((Fr.refl _ _).alloc _) f fun _ _ e => e))⟩
  have H10 : Hid (∀ w p, Things W w [Lm p [5, 9]] → Calls Try.prog 14 #[.pointer (some ⟨p, 0, none⟩)] w fun e w' => e = .returned (.int .i64 5) ∧ Things W w' [Lm p [5, 9]]) := fun w p h => l_front h 0 rfl aw_ok4
  have H11 : Hid (∀ w p, Things W w [Lm p [5, 9]] → Calls Try.prog 20 #[.pointer (some ⟨p, 0, none⟩)] w fun e w' => e = .returned (.int .i64 2) ∧ Things W w' [Lm p [5, 9]]) := fun w p h => l_len h 0 rfl aw_ok4 (by decide)
  clear h
  go_enter Try.func7, Try.ntmps7
  go_wp2_with fail
  refine (H0.out _ HT.out).mono ?_
  rintro e w1 ⟨p, rfl, h1⟩
  have T1 := hid h1
  clear h1 HT H0
  go_wp2_with fail
  refine (H1.out _ _ T1.out).mono ?_
  rintro e w2 ⟨rfl, h1⟩
  have T2 := hid h1
  clear h1 T1 H1
  go_wp2_with fail
  refine (H2.out _ _ T2.out).mono ?_
  rintro e w3 ⟨rfl, h1⟩
  have T3 := hid h1
  clear h1 T2 H2
  go_wp2_with fail
  refine (H3.out _ _ T3.out).mono ?_
  rintro e w4 ⟨rfl, h1⟩
  have T4 := hid h1
  clear h1 T3 H3
  go_wp2_with fail
  refine (H4.out _ _ T4.out).mono ?_
  rintro e w5 ⟨rfl, h1⟩
  have T5 := hid h1
  clear h1 T4 H4
  go_wp2_with fail
  refine (H5.out _ _ T5.out).mono ?_
  rintro e w6 ⟨ad, cap, rfl, h1⟩
  have T6 := hid h1
  clear h1 T5 H5
  go_wp2_with fail
  refine (H6.out _ _ _ T6.out).mono ?_
  rintro e w7 ⟨rfl, h1⟩
  have T7 := hid h1
  clear h1 T6 H6
  go_wp2_with fail
  refine (H7.out _ _ _ cap T7.out).mono ?_
  rintro e w8 ⟨rfl, h1⟩
  have T8 := hid h1
  clear h1 T7 H7
  go_wp2_with fail
  refine (H8.out _ _ T8.out).mono ?_
  rintro e w9 ⟨ad2, cap2, rfl, h1⟩
  have T9 := hid h1
  clear h1 T8 H8
  go_wp2_with fail
  refine (H9.out _ _ _ cap2 T9.out).mono ?_
  rintro e w10 ⟨rfl, h1⟩
  have T10 := hid h1
  clear h1 T9 H9
  go_wp2_with fail
  refine (H10.out _ _ T10.out).mono ?_
  rintro e w11 ⟨rfl, h1⟩
  have T11 := hid h1
  clear h1 T10 H10
  go_wp2_with fail
  refine (H11.out _ _ T11.out).mono ?_
  rintro e w12 ⟨rfl, h1⟩
  have T12 := hid h1
  clear h1 T11 H11
  go_wp2
  go_ret
  exact ⟨by simp, T12.out.nw⟩
theorem awake_t {W w : World} {ts : List (World → (Nat → Prop) → Prop)} (h : Things W w ts) : Calls Try.prog 7 #[] w fun e w' => e = .returned (.bool true) ∧ Things W w' ts :=
  (awake_any (Nw.start w)).mono fun _ _ ⟨he, n⟩ => ⟨he, h.kept n.fr⟩
end Go.Proofs.Ytecckdedijhacaa
