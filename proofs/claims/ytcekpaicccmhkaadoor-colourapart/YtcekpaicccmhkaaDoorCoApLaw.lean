/-
  The law ColourApart where it is not played: a configuration that may not be, too long a script, too great a window, too many pages.
-/
import Derived.Test.YtcekpaicccmhkaaDoorCoPlays
import Derived.Test.YtcekpaicccmhkaaDoorCoMap
import Derived.Test.YtcekpaicccmhkaaDoorCoApart
namespace Go.Proofs.YtcekpaicccmhkaaDoor
open Go.RowKit

set_option maxRecDepth 20000 in
set_option maxHeartbeats 1000000 in
theorem apart_no {n k : Int} (h : ¬ Cfg n k) (v1 v2 : Value) (w : World) (g : Gr w) : Calls Tryd.prog 4 #[.agg #[.int .i64 n, .int .i64 k], v1, v2] w fun e w' => e = .returned (.bool true) ∧ Fr (fun _ => False) w w' := by
  have H1 := hid fun w => c_new_no h w
  have HA := hid fun w0 (f : Fr (fun _ => False) w w0) => awake_f w0 (g.fr f)
  have HX := hid (Cf.new w n k)
  have c0 := HX.out.c0
  have c1 := HX.out.c1
  clear h g
  go_enter Tryd.func4, Tryd.ntmps4
  go_wp2_with fail
  refine (H1.out _).mono ?_
  rintro e w1 ⟨rfl, f1⟩
  have HF1 := hid (((Fr.refl (fun _ => False) w).alloc _).trans f1)
  have HX1 := hid (HX.out.kept f1)
  clear f1 c0 c1 HX
  have c0 := HX1.out.c0
  have c1 := HX1.out.c1
  go_wp2_with fail
  refine (H1.out _).mono ?_
  rintro e w2 ⟨rfl, f2⟩
  have HF2 := hid (HF1.out.trans f2)
  clear f2 HF1 HX1 c0 c1
  go_wp2_with fail
  refine (HA.out _ HF2.out).mono ?_
  rintro e w3 ⟨rfl, f3⟩
  have HF3 := hid (HF2.out.trans f3)
  clear f3 HF2
  go_wp2_with fail
  refine (HA.out _ HF3.out).mono ?_
  rintro e w4 ⟨rfl, f4⟩
  have HF4 := hid (HF3.out.trans f4)
  clear f4 HF3
  go_wp2
  go_ret
  exact ⟨by simp, HF4.out⟩
/-- Two maps of the program's, made behind W, that have no block in common; a set of numbers beside them. -/
structure Ap (W w : World) (a1 : Nat) (Z1 : Nat → Prop) (a2 : Nat) (Z2 : Nat → Prop) (k : Nat) (h1 h2 : List Bool) : Prop where
  m : Mn W w a1 Z1 k h1
  n : Mn W w a2 Z2 k h2
  ne : ∀ i, Z1 i → ¬ Z2 i
section
variable {W w w' : World} {a1 a2 k : Nat} {Z1 Z2 : Nat → Prop} {h1 h2 h' : List Bool}
theorem Ap.kept (h : Ap W w a1 Z1 a2 Z2 k h1 h2) (f : Fr (fun _ => False) w w') : Ap W w' a1 Z1 a2 Z2 k h1 h2 := ⟨h.m.kept f, h.n.kept f, h.ne⟩
theorem Ap.carry {S : Nat → Prop} (h : Ap W w a1 Z1 a2 Z2 k h1 h2) (f : Fr S w w') (hs : ∀ i, S i → W.heap.size ≤ i ∧ ¬ Z1 i ∧ ¬ Z2 i) : Ap W w' a1 Z1 a2 Z2 k h1 h2 :=
  ⟨⟨h.m.m.carry f (fun i hi e => (hs i e).2.1 hi) (fun e => by have := (hs 0 e).1; have := h.m.nw.pos; omega), h.m.z, h.m.nw.on f (fun i e => (hs i e).1)⟩, ⟨h.n.m.carry f (fun i hi e => (hs i e).2.2 hi) (fun e => by have := (hs 0 e).1; have := h.m.nw.pos; omega), h.n.z, h.n.nw.on f (fun i e => (hs i e).1)⟩, h.ne⟩
theorem Ap.step1 (h : Ap W w a1 Z1 a2 Z2 k h1 h2) (c : Mn W w' a1 Z1 k h') (f : Fr Z1 w w') : Ap W w' a1 Z1 a2 Z2 k h' h2 :=
  ⟨c, ⟨h.n.m.carry f (fun i hi e => h.ne i e hi) (fun e => by have := h.m.z 0 e; have := h.m.nw.pos; omega), h.n.z, c.nw⟩, h.ne⟩
theorem Ap.step2 (h : Ap W w a1 Z1 a2 Z2 k h1 h2) (c : Mn W w' a2 Z2 k h') (f : Fr Z2 w w') : Ap W w' a1 Z1 a2 Z2 k h1 h' :=
  ⟨⟨h.m.m.carry f (fun i hi e => h.ne i hi e) (fun e => by have := h.n.z 0 e; have := h.n.nw.pos; omega), h.m.z, c.nw⟩, c, h.ne⟩
end
end Go.Proofs.YtcekpaicccmhkaaDoor
