/-
  The document's own examples stand, so the laws are awake.
-/
import Derived.Test.YtpmajadljlibbaaTaState
import Derived.Test.YtpmajadljlibbaaLists2
import Derived.LoopTactic
import Derived.Deep.RegionHeld3
import Derived.Deep.QuietTactic
import Derived.BigQuiet
import Derived.BigRegion
namespace Go.Proofs.Ytpmajadljlibbaa
open Go.RowKit

def aw1 : Tb := [(256, 7)]
def aw2 : Tb := [(256, 7), (257, 3)]
theorem aw_ok1 : TbOk aw1 := TbOk.none.map 256 7
theorem aw_ok2 : TbOk aw2 := aw_ok1.map 257 3
/-- Spans in a block of their own. -/
theorem spans_two {w : World} {B : Nat} {a b c d : Int} (h : w.heap[B]? = some (.cells #[.int .i64 a, .int .i64 b, .bool false, .int .i64 c, .int .i64 d, .bool false] 49 (0, 0))) : SpAt w (some ⟨B, 0, none⟩) [(a, b, false), (c, d, false)] := fun i hi => by
  refine ⟨B, 0, rfl, (Array.getElem?_eq_some_iff.1 h).1, ?_⟩
  match i, hi with
  | 0, _ => simp [World.cell?, h]
  | 1, _ => simp [World.cell?, h]
set_option maxRecDepth 20000 in
set_option maxHeartbeats 1000000 in
theorem awake_any {W w : World} (h : Nw W w) : Calls Try.prog 7 #[] w fun e w' => e = .returned (.bool true) ∧ Nw W w' := by
  have T0 := hid (Things.start h)
  have H0 : Hid (∀ w, Things W w [] → Calls Try.prog 8 #[] w fun e w' => ∃ t, e = .returned (.pointer (some ⟨t, 0, none⟩)) ∧ Things W w' [Tm t []]) := fun w h => g_new h
  have H1 : Hid (∀ w t, Things W w [Tm t []] → Calls Try.prog 9 #[.pointer (some ⟨t, 0, none⟩), .int .i64 256, .int .i64 7] w fun e w' => e = .returned (.int .i64 0) ∧ Things W w' [Tm t aw1]) := fun w t h => g_map h 0 rfl TbOk.none (v := 256) (p := 7) (by decide) (by decide)
  have H2 : Hid (∀ w t, Things W w [Tm t aw1] → Calls Try.prog 9 #[.pointer (some ⟨t, 0, none⟩), .int .i64 257, .int .i64 3] w fun e w' => e = .returned (.int .i64 0) ∧ Things W w' [Tm t aw2]) := fun w t h => g_map h 0 rfl aw_ok1 (v := 257) (p := 3) (by decide) (by decide)
  have e1 : piL aw2 131572 20 = [(4084, 12, false), (1536, 8, false)] := by decide +kernel
  have e2 : piE aw2 131572 20 = 0 := by decide +kernel
  have e3 : piL aw2 132072 30 = [] := by decide +kernel
  have e4 : piE aw2 132072 30 = 4 := by decide +kernel
  have H3 : Hid (∀ w t, Things W w [Tm t aw2] → Calls Try.prog 15 #[.pointer (some ⟨t, 0, none⟩), .int .i64 131572, .int .i64 20] w fun e w' => ∃ ad cap, e = .returned (.tuple #[.slice ad 2 cap, .int .i64 0]) ∧ Things W w' [Tm t aw2, Sv ad [(4084, 12, false), (1536, 8, false)]]) := fun w t h => by
    have := g_pieces h 0 rfl aw_ok2 (a := 131572) (n := 20) (by decide) (by decide)
    rw [e1, e2] at this
    exact this
  have H4 : Hid (∀ w t ad, Things W w [Tm t aw2, Sv ad [(4084, 12, false), (1536, 8, false)]] → Calls Try.prog 15 #[.pointer (some ⟨t, 0, none⟩), .int .i64 132072, .int .i64 30] w fun e w' => ∃ ad2 cap2, e = .returned (.tuple #[.slice ad2 0 cap2, .int .i64 4]) ∧ Things W w' [Tm t aw2, Sv ad [(4084, 12, false), (1536, 8, false)]]) := fun w t ad h => by
    have := g_pieces h 0 rfl aw_ok2 (a := 132072) (n := 30) (by decide) (by decide)
    rw [e3, e4] at this
    exact this.mono fun e w' ⟨ad2, cap2, he, h2⟩ => ⟨ad2, cap2, he, Things.less (ts := [_, _]) h2⟩
  have H5 : Hid (∀ w t ad cap, Things W w [Tm t aw2, Sv ad [(4084, 12, false), (1536, 8, false)]] → Calls Try.prog 17 #[.slice ad 2 cap, .slice (some ⟨w.heap.size, 0, none⟩) 2 2] (w.alloc (.cells #[.int .i64 4084, .int .i64 12, .bool false, .int .i64 1536, .int .i64 8, .bool false] 49)) fun e w' => e = .returned (.bool true) ∧ Things W w' [Tm t aw2]) := fun w t ad cap h => by
    have hs := (h.sps 1 rfl).fr ((Fr.refl _ w).alloc (.cells #[.int .i64 4084, .int .i64 12, .bool false, .int .i64 1536, .int .i64 8, .bool false] 49))
    exact (spans_same (ss := [(4084, 12, false), (1536, 8, false)]) (c1 := cap) (c2 := 2) hs (spans_two (heap_alloc_new w _)) (by decide)).mono fun _ _ ⟨he, f⟩ => ⟨he, Things.less (ts := [_]) (h.kept (Fr.trans' ((Fr.refl _ _).alloc _) f fun _ _ e => e))⟩
  have H6 : Hid (∀ w t, Things W w [Tm t aw2] → Calls Try.prog 21 #[.pointer (some ⟨t, 0, none⟩), .int .i64 3] w fun e w' => e = .returned (.int .i64 257) ∧ Things W w' [Tm t aw2]) := fun w t h => g_holder h 0 rfl aw_ok2 (p := 3) (by decide)
  have H7 : Hid (∀ w t, Things W w [Tm t aw2] → Calls Try.prog 23 #[.pointer (some ⟨t, 0, none⟩)] w fun e w' => e = .returned (.int .i64 2) ∧ Things W w' [Tm t aw2]) := fun w t h => g_len h 0 rfl aw_ok2
  clear h e1 e2 e3 e4
  go_enter Try.func7, Try.ntmps7
  go_wp2_with fail
  refine (H0.out _ T0.out).mono ?_
  rintro e w1 ⟨t, rfl, h1⟩
  have T1 := hid h1
  clear h1 T0
  go_wp2_with fail
  refine (H1.out _ _ T1.out).mono ?_
  rintro e w2 ⟨rfl, h1⟩
  have T2 := hid h1
  clear h1 T1
  go_wp2_with fail
  refine (H2.out _ _ T2.out).mono ?_
  rintro e w3 ⟨rfl, h1⟩
  have T3 := hid h1
  clear h1 T2
  go_wp2_with fail
  refine (H3.out _ _ T3.out).mono ?_
  rintro e w4 ⟨ad, cap, rfl, h1⟩
  have T4 := hid h1
  clear h1 T3
  go_wp2_with fail
  refine (H4.out _ _ _ T4.out).mono ?_
  rintro e w5 ⟨ad2, cap2, rfl, h1⟩
  have T5 := hid h1
  clear h1 T4
  go_wp2_with fail
  refine (H5.out _ _ _ cap T5.out).mono ?_
  rintro e w6 ⟨rfl, h1⟩
  have T6 := hid h1
  clear h1 T5
  go_wp2_with fail
  refine (H6.out _ _ T6.out).mono ?_
  rintro e w7 ⟨rfl, h1⟩
  have T7 := hid h1
  clear h1 T6
  go_wp2_with fail
  refine (H7.out _ _ T7.out).mono ?_
  rintro e w8 ⟨rfl, h1⟩
  have T8 := hid h1
  clear h1 T7
  go_wp2
  go_ret
  exact ⟨by simp, T8.out.nw⟩
theorem awake_t {W w : World} {ts : List (World → (Nat → Prop) → Prop)} (h : Things W w ts) : Calls Try.prog 7 #[] w fun e w' => e = .returned (.bool true) ∧ Things W w' ts :=
  (awake_any (Nw.start w)).mono fun _ _ ⟨he, n⟩ => ⟨he, h.kept n.fr⟩
end Go.Proofs.Ytpmajadljlibbaa
