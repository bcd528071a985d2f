/-
  The same contracts for a shelf that the call itself has made: what was there before stays as it was.
-/
import Derived.Test.YtifoeakgefgddaaDoorShNew
namespace Go.Proofs.YtifoeakgefgddaaDoor
open Go.RowKit

/-- In w there is a shelf that was made behind W; all that W had is as it was. -/
structure Mine (W w : World) (a b : Nat) (has : List Bool) : Prop where
  sh : Sh w a b has
  la : W.heap.size ≤ a
  lb : W.heap.size ≤ b
  fr : Fr (fun _ => False) W w
  pos : 0 < W.heap.size

section
variable {W w w' : World} {a b : Nat} {has has' : List Bool}
theorem Mine.step (h : Mine W w a b has) (h1 : Sh w' a b has') (hf : Fr (fun i => i = b) w w') : Mine W w' a b has' :=
  ⟨h1, h.la, h.lb, h.fr.trans' hf (fun i hi he => by have := h.lb; omega), h.pos⟩
theorem Mine.kept {S : Nat → Prop} (h : Mine W w a b has) (hf : Fr S w w') (h1 : ∀ i, S i → W.heap.size ≤ i ∧ i ≠ a ∧ i ≠ b) : Mine W w' a b has := by
  have h0 : ¬ S 0 := fun h2 => by have := h1 0 h2; have := h.pos; omega
  exact ⟨h.sh.carry hf (fun h2 => (h1 a h2).2.1 rfl) (fun h2 => (h1 b h2).2.2 rfl) h0, h.la, h.lb, h.fr.trans' hf (fun i hi he => by have := (h1 i he).1; omega), h.pos⟩
theorem m_new (n : Nat) (hW : Fr (fun _ => False) W w) (h : n ≤ 65536) (hT : Tab W) :
    Calls Tryd.prog 10 #[.int .i64 n] w fun e w' => ∃ a b, e = .returned (.tuple #[.pointer (some ⟨a, 0, none⟩), .int .i64 0]) ∧ Mine W w' a b (List.replicate n false) :=
  (new_ok n w h (hT.carry hW (fun h => h))).mono fun _ _ ⟨he, hs, hf⟩ => ⟨_, _, he, hs, by have := hW.size; omega, hW.size, hW.trans hf, hT.pos⟩
theorem m_take (h : Mine W w a b has) :
    Calls Tryd.prog 13 #[.pointer (some ⟨a, 0, none⟩)] w fun e w' => e = .returned (.tuple #[.int .i64 (takV has), .int .i64 (takE has)]) ∧ Mine W w' a b (takS has) :=
  (s_take h.sh).mono fun _ _ ⟨he, hs, hf⟩ => ⟨he, h.step hs hf⟩
theorem m_takeAt (h : Mine W w a b has) (k : Int) :
    Calls Tryd.prog 22 #[.pointer (some ⟨a, 0, none⟩), .int .i64 k] w fun e w' => e = .returned (.int .i64 (taE has k)) ∧ Mine W w' a b (taS has k) :=
  (s_takeAt h.sh k).mono fun _ _ ⟨he, hs, hf⟩ => ⟨he, h.step hs hf⟩
theorem m_give (h : Mine W w a b has) (k : Int) :
    Calls Tryd.prog 23 #[.pointer (some ⟨a, 0, none⟩), .int .i64 k] w fun e w' => e = .returned (.int .i64 (giE has k)) ∧ Mine W w' a b (giS has k) :=
  (s_give h.sh k).mono fun _ _ ⟨he, hs, hf⟩ => ⟨he, h.step hs hf⟩
theorem m_taken (h : Mine W w a b has) (k : Int) :
    Calls Tryd.prog 19 #[.pointer (some ⟨a, 0, none⟩), .int .i64 k] w fun e w' => e = .returned (.bool (isT has k)) ∧ Mine W w' a b has :=
  (s_taken h.sh k).mono fun _ _ ⟨he, n, hw⟩ => ⟨he, by subst hw; exact ⟨h.sh.drewN n, h.la, h.lb, h.fr.drewN n, h.pos⟩⟩
theorem m_lowest (h : Mine W w a b has) :
    Calls Tryd.prog 17 #[.pointer (some ⟨a, 0, none⟩)] w fun e w' => e = .returned (.int .i64 (lowI has)) ∧ Mine W w' a b has :=
  (s_lowest h.sh).mono fun _ _ ⟨he, hw⟩ => ⟨he, by subst hw; exact h⟩
theorem m_free (h : Mine W w a b has) :
    Calls Tryd.prog 15 #[.pointer (some ⟨a, 0, none⟩)] w fun e w' => e = .returned (.int .i64 (frees has : Int)) ∧ Mine W w' a b has :=
  (s_free h.sh).mono fun _ _ ⟨he, hw⟩ => ⟨he, by subst hw; exact h⟩
theorem m_size (h : Mine W w a b has) :
    Calls Tryd.prog 21 #[.pointer (some ⟨a, 0, none⟩)] w fun e w' => e = .returned (.int .i64 (has.length : Int)) ∧ Mine W w' a b has :=
  (s_size h.sh).mono fun _ _ ⟨he, hw⟩ => ⟨he, by subst hw; exact h⟩
end

set_option maxRecDepth 20000 in
set_option maxHeartbeats 1000000 in
theorem awake_any (w : World) (hT : Tab w) : Calls Tryd.prog 9 #[] w fun e w' => e = .returned (.bool true) ∧ Fr (fun _ => False) w w' := by
  have HN : Hid (Calls Tryd.prog 10 #[.int .i64 3] w fun e w' => ∃ a b, e = .returned (.tuple #[.pointer (some ⟨a, 0, none⟩), .int .i64 0]) ∧ Mine w w' a b [false, false, false]) := m_new 3 (Fr.refl _ w) (by decide) hT
  go_enter Tryd.func9, Tryd.ntmps9
  go_wp2_with fail
  refine HN.out.mono ?_
  rintro e w1 ⟨a, b, rfl, h1⟩
  have H1 : Hid (Calls Tryd.prog 13 #[.pointer (some ⟨a, 0, none⟩)] w1 fun e w' => e = .returned (.tuple #[.int .i64 0, .int .i64 0]) ∧ Mine w w' a b [true, false, false]) := m_take h1
  clear h1 HN
  go_wp2_with fail
  refine H1.out.mono ?_
  rintro e w2 ⟨rfl, h2⟩
  have H2 : Hid (Calls Tryd.prog 13 #[.pointer (some ⟨a, 0, none⟩)] w2 fun e w' => e = .returned (.tuple #[.int .i64 1, .int .i64 0]) ∧ Mine w w' a b [true, true, false]) := m_take h2
  clear h2 H1
  go_wp2_with fail
  refine H2.out.mono ?_
  rintro e w3 ⟨rfl, h3⟩
  have H3 : Hid (Calls Tryd.prog 23 #[.pointer (some ⟨a, 0, none⟩), .int .i64 0] w3 fun e w' => e = .returned (.int .i64 0) ∧ Mine w w' a b [false, true, false]) := m_give h3 0
  clear h3 H2
  go_wp2_with fail
  refine H3.out.mono ?_
  rintro e w4 ⟨rfl, h4⟩
  have H4 : Hid (Calls Tryd.prog 13 #[.pointer (some ⟨a, 0, none⟩)] w4 fun e w' => e = .returned (.tuple #[.int .i64 0, .int .i64 0]) ∧ Mine w w' a b [true, true, false]) := m_take h4
  clear h4 H3
  go_wp2_with fail
  refine H4.out.mono ?_
  rintro e w5 ⟨rfl, h5⟩
  have H5 : Hid (Calls Tryd.prog 13 #[.pointer (some ⟨a, 0, none⟩)] w5 fun e w' => e = .returned (.tuple #[.int .i64 2, .int .i64 0]) ∧ Mine w w' a b [true, true, true]) := m_take h5
  clear h5 H4
  go_wp2_with fail
  refine H5.out.mono ?_
  rintro e w6 ⟨rfl, h6⟩
  have H6 : Hid (Calls Tryd.prog 13 #[.pointer (some ⟨a, 0, none⟩)] w6 fun e w' => e = .returned (.tuple #[.int .i64 0, .int .i64 13]) ∧ Mine w w' a b [true, true, true]) := m_take h6
  clear h6 H5
  go_wp2_with fail
  refine H6.out.mono ?_
  rintro e w7 ⟨rfl, h7⟩
  have H7 : Hid (Calls Tryd.prog 17 #[.pointer (some ⟨a, 0, none⟩)] w7 fun e w' => e = .returned (.int .i64 (-1)) ∧ Mine w w' a b [true, true, true]) := m_lowest h7
  clear h7 H6
  go_wp2_with fail
  refine H7.out.mono ?_
  rintro e w8 ⟨rfl, h8⟩
  have H8 := hid h8.fr
  clear h8 H7
  go_wp2
  go_ret
  exact ⟨by simp, H8.out⟩
end Go.Proofs.YtifoeakgefgddaaDoor
