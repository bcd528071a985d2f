/-
  The program's table among things side by side.
-/
import Derived.Test.YtcajdbklchjkkaaTaCalls
namespace Go.Proofs.Ytcajdbklchjkkaa
open Go.RowKit

section
variable {W w : World} {ts : List (World → (Nat → Prop) → Prop)} {t : Nat} {T : Tb}
theorem g_new (h : Things W w ts) : Calls Try.prog 8 #[] w fun e w' => ∃ t, e = .returned (.pointer (some ⟨t, 0, none⟩)) ∧ Things W w' (ts ++ [Tm t []]) :=
  (c_new w).mono fun _ _ ⟨t, _, he, h1, f, hz⟩ => ⟨t, he, h.more (Tm.good _ _) h1 f hz⟩
theorem g_map (h : Things W w ts) (j : Nat) (hj : ts[j]? = some (Tm t T)) (ok : TbOk T) {v p : Int} (hv : I64 v) (hp : I64 p) : Calls Try.prog 17 #[.pointer (some ⟨t, 0, none⟩), .int .i64 v, .int .i64 p] w fun e w' => e = .returned (.int .i64 (tbME T v p)) ∧ Things W w' (ts.set j (Tm t (tbM T v p))) :=
  h.lift j hj (Tm.good _ _) fun _ h1 => c_map h1 ok hv hp
theorem g_find (h : Things W w ts) (j : Nat) (hj : ts[j]? = some (Tm t T)) (ok : TbOk T) {v : Int} (hv : I64 v) : Calls Try.prog 35 #[.pointer (some ⟨t, 0, none⟩), .int .i64 v] w fun e w' => e = .returned (.int .i64 (tbF T v)) ∧ Things W w' ts := h.ask j hj fun _ h1 => c_find h1 ok hv
theorem g_holder (h : Things W w ts) (j : Nat) (hj : ts[j]? = some (Tm t T)) (ok : TbOk T) {p : Int} (hp : I64 p) : Calls Try.prog 24 #[.pointer (some ⟨t, 0, none⟩), .int .i64 p] w fun e w' => e = .returned (.int .i64 (tbH T p)) ∧ Things W w' ts := h.ask j hj fun _ h1 => c_holder h1 ok hp
theorem g_pieces (h : Things W w ts) (j : Nat) (hj : ts[j]? = some (Tm t T)) (ok : TbOk T) {a n : Int} (ha : I64 a) (hn : I64 n) : Calls Try.prog 21 #[.pointer (some ⟨t, 0, none⟩), .int .i64 a, .int .i64 n] w fun e w' => ∃ ad cap, e = .returned (.tuple #[.slice ad (piL T a n).length cap, .int .i64 (piE T a n)]) ∧ Things W w' (ts ++ [Sv ad (piL T a n)]) := by
  obtain ⟨U, h1, _⟩ := h.get j hj
  exact (c_pieces h1 ok ha hn).mono fun e w' ⟨ad, cap, he, hs, hb, f⟩ => ⟨ad, cap, he, h.moreSpans hs hb f⟩
end
end Go.Proofs.Ytcajdbklchjkkaa
