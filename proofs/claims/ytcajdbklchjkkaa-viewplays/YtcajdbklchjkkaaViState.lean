/-
  The program's table among things side by side.
  Views among things side by side: an arena and a table.
-/
import Derived.Test.YtcajdbklchjkkaaTaCalls
import Derived.Test.YtcajdbklchjkkaaViCalls
import Derived.Test.YtcajdbklchjkkaaAnMem2
namespace Go.Proofs.Ytcajdbklchjkkaa
open Go.RowKit

section
variable {W w : World} {ts : List (World → (Nat → Prop) → Prop)} {t : Nat} {T : Tb}
theorem g_new (h : Things W w ts) : Calls Try.prog 8 #[] w fun e w' => ∃ t, e = .returned (.pointer (some ⟨t, 0, none⟩)) ∧ Things W w' (ts ++ [Tm t []]) :=
  (c_new w).mono fun _ _ ⟨t, _, he, h1, f, hz⟩ => ⟨t, he, h.more (Tm.good _ _) h1 f hz⟩
theorem g_map (h : Things W w ts) (j : Nat) (hj : ts[j]? = some (Tm t T)) (ok : TbOk T) {v p : Int} (hv : I64 v) (hp : I64 p) : Calls Try.prog 17 #[.pointer (some ⟨t, 0, none⟩), .int .i64 v, .int .i64 p] w fun e w' => e = .returned (.int .i64 (tbME T v p)) ∧ Things W w' (ts.set j (Tm t (tbM T v p))) :=
  h.lift j hj (Tm.good _ _) fun _ h1 => c_map h1 ok hv hp
theorem g_find (h : Things W w ts) (j : Nat) (hj : ts[j]? = some (Tm t T)) (ok : TbOk T) {v : Int} (hv : I64 v) : Calls Try.prog 35 #[.pointer (some ⟨t, 0, none⟩), .int .i64 v] w fun e w' => e = .returned (.int .i64 (tbF T v)) ∧ Things W w' ts := h.ask j hj fun _ h1 => c_find h1 ok hv
theorem g_holder (h : Things W w ts) (j : Nat) (hj : ts[j]? = some (Tm t T)) (ok : TbOk T) {p : Int} (hp : I64 p) : Calls Try.prog 24 #[.pointer (some ⟨t, 0, none⟩), .int .i64 p] w fun e w' => e = .returned (.int .i64 (tbH T p)) ∧ Things W w' ts := h.ask j hj fun _ h1 => c_holder h1 ok hp
theorem g_pieces (h : Things W w ts) (j : Nat) (hj : ts[j]? = some (Tm t T)) (ok : TbOk T) {a n : Int} (ha : I64 a) (hn : I64 n) : Calls Try.prog 21 #[.pointer (some ⟨t, 0, none⟩), .int .i64 a, .int .i64 n] w fun e w' => ∃ ad cap, e = .returned (.tuple #[.slice ad (piL T a n).length cap, .int .i64 (piE T a n)]) ∧ Things W w' (ts ++ [Sv ad (piL T a n)]) := by
  obtain ⟨U, h1, _⟩ := h.get j hj
  exact (c_pieces h1 ok ha hn).mono fun e w' ⟨ad, cap, he, hs, hb, f⟩ => ⟨ad, cap, he, h.moreSpans hs hb f⟩
end
end Go.Proofs.Ytcajdbklchjkkaa

namespace Go.Proofs.Ytcajdbklchjkkaa
open Go.RowKit
open An

section
variable {W w : World} {ts : List (World → (Nat → Prop) → Prop)} {a t : Nat} {bs : List UInt8} {ss : List Sp} {T : Tb}
/-- Two things of several: the first one turns, the second one is looked into. -/
theorem Things.lift2 {P P' Q : World → (Nat → Prop) → Prop} (h : Things W w ts) (i j : Nat) (hij : i ≠ j) (hi : ts[i]? = some P) (hj : ts[j]? = some Q) (hP : Good P') {Pg : Program} {F : Nat} {args : Array Value} {R : Ending → Prop}
    (base : ∀ U V, P w U → Q w V → (∀ x, U x → ¬ V x) → Calls Pg F args w fun e w' => R e ∧ ∃ U', P' w' U' ∧ Gw w w' U U') : Calls Pg F args w fun e w' => R e ∧ Things W w' (ts.set i P') := by
  obtain ⟨o, h1, h2, h3, h4⟩ := h
  have hil := (List.getElem?_eq_some_iff.1 hi).1
  refine (base _ _ (h4 i P hi) (h4 j Q hj) fun x e1 e2 => by unfold lab at e1 e2; omega).mono fun e w' ⟨he, U', hp, g⟩ => ⟨he, ?_⟩
  obtain ⟨o', l1, l2, l3, l4, l5⟩ := h1.step (j := i + 1) (by omega) g
  refine ⟨o', l1, fun x => ?_, fun R hR => ?_, fun m R hm => ?_⟩
  · rw [List.length_set]
    by_cases h0 : o' x = 0
    · omega
    · rcases l5 x h0 with e | e
      · omega
      · rw [← e]; exact h2 x
  · rcases List.mem_or_eq_of_mem_set hR with e | rfl
    · exact h3 R e
    · exact hP
  · rw [List.getElem?_set] at hm
    split at hm
    case isTrue e =>
      subst e
      simp only [Option.some.injEq] at hm
      subst hm
      exact l2 _ hP hp
    case isFalse e => exact l3 (m + 1) (by omega) (by omega) R (h3 R (List.mem_of_getElem? hm)) (h4 m R hm)
theorem gv_read (h : Things W w ts) (i j : Nat) (hij : i ≠ j) (hi : ts[i]? = some (Am 77 a bs ss)) (hj : ts[j]? = some (Tm t T)) (ok : TbOk T) {x n : Int} (hx : I64 x) (hn : I64 n) (hb : n ≤ 16384) (hk : ss.length ≤ 900000) : Calls Try.prog 20 #[.pointer (some ⟨a, 0, none⟩), .pointer (some ⟨t, 0, none⟩), .int .i64 x, .int .i64 n] w fun e w' => e = .returned (.tuple #[.string ⟨(vrV T bs x n).toArray⟩, .int .i64 (vwE T bs.length x n)]) ∧ Things W w' (ts.set i (Am 77 a bs (vrT T bs.length ss x n))) :=
  h.lift2 i j hij hi hj (Am.good _ _ _ _) fun _ _ h1 h2 hd => v_read h1 h2 hd ok hx hn hb hk
theorem gv_write (h : Things W w ts) (i j : Nat) (hij : i ≠ j) (hi : ts[i]? = some (Am 77 a bs ss)) (hj : ts[j]? = some (Tm t T)) (ok : TbOk T) {x : Int} (hx : I64 x) (s : ByteArray) (hb : s.size ≤ 16384) (hk : ss.length ≤ 900000) : Calls Try.prog 19 #[.pointer (some ⟨a, 0, none⟩), .pointer (some ⟨t, 0, none⟩), .int .i64 x, .string s] w fun e w' => e = .returned (.int .i64 (vwE T bs.length x s.size)) ∧ Things W w' (ts.set i (Am 77 a (vwB T bs x s.data.toList) (vwT T bs.length ss x s.size))) :=
  h.lift2 i j hij hi hj (Am.good _ _ _ _) fun _ _ h1 h2 hd => v_write h1 h2 hd ok hx s hb hk
theorem gv_zero (h : Things W w ts) (i j : Nat) (hij : i ≠ j) (hi : ts[i]? = some (Am 77 a bs ss)) (hj : ts[j]? = some (Tm t T)) (ok : TbOk T) {x n : Int} (hx : I64 x) (hn : I64 n) (hb : n ≤ 16384) (hk : ss.length ≤ 900000) : Calls Try.prog 22 #[.pointer (some ⟨a, 0, none⟩), .pointer (some ⟨t, 0, none⟩), .int .i64 x, .int .i64 n] w fun e w' => e = .returned (.int .i64 (vwE T bs.length x n)) ∧ Things W w' (ts.set i (Am 77 a (vzB T bs x n) (vwT T bs.length ss x n))) :=
  h.lift2 i j hij hi hj (Am.good _ _ _ _) fun _ _ h1 h2 hd => v_zero h1 h2 hd ok hx hn hb hk
theorem gv_copy (h : Things W w ts) (i j : Nat) (hij : i ≠ j) (hi : ts[i]? = some (Am 77 a bs ss)) (hj : ts[j]? = some (Tm t T)) (ok : TbOk T) {x y n : Int} (hx : I64 x) (hy : I64 y) (hn : I64 n) (hb : n ≤ 16384) (hk : ss.length ≤ 900000) : Calls Try.prog 23 #[.pointer (some ⟨a, 0, none⟩), .pointer (some ⟨t, 0, none⟩), .int .i64 x, .int .i64 y, .int .i64 n] w fun e w' => e = .returned (.int .i64 (vcE T bs.length x y n)) ∧ Things W w' (ts.set i (Am 77 a (vcB T bs x y n) (vcT T bs.length ss x y n))) :=
  h.lift2 i j hij hi hj (Am.good _ _ _ _) fun _ _ h1 h2 hd => v_copy h1 h2 hd ok hx hy hn hb hk
theorem ga_new (h : Things W w ts) (n : Nat) (hn : n ≤ 2097152) : Calls Try.prog 9 #[.int .i64 n] w fun e w' => ∃ a, e = .returned (.tuple #[.pointer (some ⟨a, 0, none⟩), .int .i64 0]) ∧ Things W w' (ts ++ [Am 77 a (List.replicate n 0) []]) :=
  (am_new n w hn).mono fun _ _ ⟨a, _, he, hm, hz, f⟩ => ⟨a, he, h.more (Am.good _ _ _ _) hm f fun i hi => ⟨hz i hi, hm.lt i hi⟩⟩
theorem ga_read (h : Things W w ts) (i : Nat) (hi : ts[i]? = some (Am 77 a bs ss)) (p m : Nat) (hin : p + m ≤ bs.length) (hk : ss.length ≤ 1000000) : Calls Try.prog 15 #[.pointer (some ⟨a, 0, none⟩), .int .i64 p, .int .i64 m] w fun e w' => e = .returned (.tuple #[.string ⟨((bs.drop p).take m).toArray⟩, .int .i64 0]) ∧ Things W w' (ts.set i (Am 77 a bs (noted ss p m false))) :=
  h.lift i hi (Am.good _ _ _ _) fun _ h1 => am_read h1 p m hin hk
theorem ga_write (h : Things W w ts) (i : Nat) (hi : ts[i]? = some (Am 77 a bs ss)) (p : Nat) (s : ByteArray) (hin : p + s.size ≤ bs.length) (hk : ss.length ≤ 1000000) : Calls Try.prog 18 #[.pointer (some ⟨a, 0, none⟩), .int .i64 p, .string s] w fun e w' => e = .returned (.int .i64 0) ∧ Things W w' (ts.set i (Am 77 a (over bs p s.data.toList) (noted ss p s.size true))) :=
  h.lift i hi (Am.good _ _ _ _) fun _ h1 => am_write h1 p s hin hk
end
end Go.Proofs.Ytcajdbklchjkkaa
