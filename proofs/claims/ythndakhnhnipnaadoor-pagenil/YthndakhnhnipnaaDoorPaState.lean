/-
  What the calls leave of things side by side, of which one is an arena with a page: the program's.
-/
import Derived.Test.YthndakhnhnipnaaDoorPaCalls
namespace Go.Proofs.YthndakhnhnipnaaDoor
open Go.RowKit
open An

section
variable {W w : World} {ts : List (World → (Nat → Prop) → Prop)} {p a : Nat} {bs : List UInt8} {ss : List Sp} {g : Pg}
theorem g_arena (h : Things W w ts) (n : Nat) (hn : n ≤ 2097152) : Calls Tryd.prog 7 #[.int .i64 n] w fun e w' => ∃ a, e = .returned (.tuple #[.pointer (some ⟨a, 0, none⟩), .int .i64 0]) ∧ Things W w' (ts ++ [Am 70 a (List.replicate n 0) []]) :=
  (am_new n w hn).mono fun _ _ ⟨a, _, he, hm, hz, f⟩ => ⟨a, he, h.more (Am.good _ _ _ _) hm f fun i hi => ⟨hz i hi, hm.lt i hi⟩⟩
theorem g_new (h : Things W w ts) (gr : Gr W) (j : Nat) (hj : ts[j]? = some (Am 70 a bs ss)) {x kd : Nat} (hk : kd ≤ 7) (hf : Fits bs.length x) : Calls Tryd.prog 9 #[.pointer (some ⟨a, 0, none⟩), .int .i64 x, .int .i64 kd] w fun e w' => ∃ p, e = .returned (.tuple #[.pointer (some ⟨p, 0, none⟩), .int .i64 0]) ∧ Things W w' (ts.set j (Pa a bs ss p ⟨x, kd, 0, [], []⟩)) := by
  obtain ⟨Z, h1, _, h2⟩ := h.turn j hj
  exact (x_new h1 (gr.fr h.nw.fr) hk hf).mono fun e w' ⟨p, U', he, q, f⟩ => ⟨p, he, h2 _ w' U' (Pa.good _ _ _ _ _) q f⟩
theorem g_new_no (h : Things W w ts) (j : Nat) (hj : ts[j]? = some (Am 70 a bs ss)) {x kd : Int} (hx : I64 x) (hkd : I64 kd) (hn : ¬ ((0 ≤ kd ∧ kd ≤ 7) ∧ Fits bs.length x)) : Calls Tryd.prog 9 #[.pointer (some ⟨a, 0, none⟩), .int .i64 x, .int .i64 kd] w fun e w' => e = .returned (.tuple #[.pointer none, .int .i64 12]) ∧ Things W w' ts :=
  h.ask j hj fun _ q => x_new_no q hx hkd hn
theorem g_alloc (h : Things W w ts) (gr : Gr W) (j : Nat) (hj : ts[j]? = some (Pa a bs ss p g)) (ok : g.Ok bs) (hk : ss.length ≤ 900000) : Calls Tryd.prog 13 #[.pointer (some ⟨p, 0, none⟩)] w fun e w' => e = .returned (.tuple #[.int .i64 (paV g), .int .i64 (paE g)]) ∧ Things W w' (ts.set j (Pa a (paB g bs) (paT g ss) p (paS g))) :=
  h.lift j hj (Pa.good _ _ _ _ _) fun _ q => x_alloc q (gr.fr h.nw.fr) ok hk
theorem g_free (h : Things W w ts) (gr : Gr W) (j : Nat) (hj : ts[j]? = some (Pa a bs ss p g)) (ok : g.Ok bs) (hk : ss.length ≤ 900000) {k : Int} (hi : I64 k) : Calls Tryd.prog 15 #[.pointer (some ⟨p, 0, none⟩), .int .i64 k] w fun e w' => e = .returned (.int .i64 (pfE g k)) ∧ Things W w' (ts.set j (Pa a (pfB g bs k) (pfT g ss k) p (pfS g k))) :=
  h.lift j hj (Pa.good _ _ _ _ _) fun _ q => x_free q (gr.fr h.nw.fr) ok hk hi
theorem g_move (h : Things W w ts) (gr : Gr W) (j : Nat) (hj : ts[j]? = some (Pa a bs ss p g)) (fit : g.Fit bs.length) {x : Int} (hi : I64 x) : Calls Tryd.prog 27 #[.pointer (some ⟨p, 0, none⟩), .int .i64 x] w fun e w' => e = .returned (.int .i64 (pmE bs.length x)) ∧ Things W w' (ts.set j (Pa a bs ss p (pmS g bs.length x))) :=
  h.lift j hj (Pa.good _ _ _ _ _) fun _ q => x_move q (gr.fr h.nw.fr) fit hi
theorem g_has (h : Things W w ts) (gr : Gr W) (j : Nat) (hj : ts[j]? = some (Pa a bs ss p g)) (ok : g.Ok bs) {k : Int} (hi : I64 k) : Calls Tryd.prog 21 #[.pointer (some ⟨p, 0, none⟩), .int .i64 k] w fun e w' => e = .returned (.bool (decide (g.May k))) ∧ Things W w' ts :=
  h.ask j hj fun _ q => x_has q (gr.fr h.nw.fr) ok hi
theorem g_used (h : Things W w ts) (gr : Gr W) (j : Nat) (hj : ts[j]? = some (Pa a bs ss p g)) (ok : g.Ok bs) : Calls Tryd.prog 17 #[.pointer (some ⟨p, 0, none⟩)] w fun e w' => e = .returned (.int .i64 (g.used : Int)) ∧ Things W w' ts :=
  h.ask j hj fun _ q => x_used q (gr.fr h.nw.fr) ok
theorem g_full (h : Things W w ts) (gr : Gr W) (j : Nat) (hj : ts[j]? = some (Pa a bs ss p g)) (ok : g.Ok bs) : Calls Tryd.prog 19 #[.pointer (some ⟨p, 0, none⟩)] w fun e w' => e = .returned (.bool (decide g.Full)) ∧ Things W w' ts :=
  h.ask j hj fun _ q => x_full q (gr.fr h.nw.fr) ok
theorem g_base (h : Things W w ts) (j : Nat) (hj : ts[j]? = some (Pa a bs ss p g)) : Calls Tryd.prog 23 #[.pointer (some ⟨p, 0, none⟩)] w fun e w' => e = .returned (.int .i64 g.base) ∧ Things W w' ts :=
  h.ask j hj fun _ q => x_base q
theorem g_kind (h : Things W w ts) (j : Nat) (hj : ts[j]? = some (Pa a bs ss p g)) : Calls Tryd.prog 24 #[.pointer (some ⟨p, 0, none⟩)] w fun e w' => e = .returned (.int .i64 g.kind) ∧ Things W w' ts :=
  h.ask j hj fun _ q => x_kind q
theorem g_read (h : Things W w ts) (j : Nat) (hj : ts[j]? = some (Pa a bs ss p g)) (q m : Nat) (hin : q + m ≤ bs.length) (hk : ss.length ≤ 1000000) : Calls Tryd.prog 26 #[.pointer (some ⟨a, 0, none⟩), .int .i64 q, .int .i64 m] w fun e w' => e = .returned (.tuple #[.string ⟨((bs.drop q).take m).toArray⟩, .int .i64 0]) ∧ Things W w' (ts.set j (Pa a bs (noted ss q m false) p g)) :=
  h.lift j hj (Pa.good _ _ _ _ _) fun _ b => Both.call b (Pm.good _ _ _) fun _ h1 => am_read h1 q m hin hk
theorem g_write (h : Things W w ts) (j : Nat) (hj : ts[j]? = some (Pa a bs ss p g)) (q : Nat) (s : ByteArray) (hin : q + s.size ≤ bs.length) (hk : ss.length ≤ 1000000) : Calls Tryd.prog 32 #[.pointer (some ⟨a, 0, none⟩), .int .i64 q, .string s] w fun e w' => e = .returned (.int .i64 0) ∧ Things W w' (ts.set j (Pa a (over bs q s.data.toList) (noted ss q s.size true) p g)) :=
  h.lift j hj (Pa.good _ _ _ _ _) fun _ b => Both.call b (Pm.good _ _ _) fun _ h1 => am_write h1 q s hin hk
theorem g_zero (h : Things W w ts) (j : Nat) (hj : ts[j]? = some (Pa a bs ss p g)) (q m : Nat) (hin : q + m ≤ bs.length) (hk : ss.length ≤ 1000000) : Calls Tryd.prog 35 #[.pointer (some ⟨a, 0, none⟩), .int .i64 q, .int .i64 m] w fun e w' => e = .returned (.int .i64 0) ∧ Things W w' (ts.set j (Pa a (over bs q (List.replicate m 0)) (noted ss q m true) p g)) :=
  h.lift j hj (Pa.good _ _ _ _ _) fun _ b => Both.call b (Pm.good _ _ _) fun _ h1 => am_zero h1 q m hin hk
theorem g_copy (h : Things W w ts) (j : Nat) (hj : ts[j]? = some (Pa a bs ss p g)) (q r m : Nat) (hin : q + m ≤ bs.length) (hin2 : r + m ≤ bs.length) (hk : ss.length < 1000000) : Calls Tryd.prog 34 #[.pointer (some ⟨a, 0, none⟩), .int .i64 q, .int .i64 r, .int .i64 m] w fun e w' => e = .returned (.int .i64 0) ∧ Things W w' (ts.set j (Pa a (over bs q ((bs.drop r).take m)) (noted (noted ss r m false) q m true) p g)) :=
  h.lift j hj (Pa.good _ _ _ _ _) fun _ b => Both.call b (Pm.good _ _ _) fun _ h1 => am_copy h1 q r m hin hin2 hk
theorem g_touched (h : Things W w ts) (j : Nat) (hj : ts[j]? = some (Pa a bs ss p g)) (hk : ss.length ≤ 1000002) : Calls Tryd.prog 25 #[.pointer (some ⟨a, 0, none⟩)] w fun e w' => ∃ ad cap, e = .returned (.slice ad ss.length cap) ∧ w'.ownsRow w.heap.size 92 3 (.slice ad ss.length cap) ss.length (spcs ss) ∧ Fr (fun _ => False) w w' := by
  obtain ⟨U, q, _⟩ := h.get j hj
  obtain ⟨Z, h1⟩ := Both.fst q
  exact am_touched h1 hk
end
end Go.Proofs.YthndakhnhnipnaaDoor
