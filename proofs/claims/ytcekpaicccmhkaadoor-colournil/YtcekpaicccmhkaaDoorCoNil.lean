/-
  A map that is none has no pages: the walk of the law ColourNil.
-/
import Derived.Test.YtcekpaicccmhkaaDoorCoState
import Derived.Test.YtcekpaicccmhkaaDoorCoApp
namespace Go.Proofs.YtcekpaicccmhkaaDoor
open Go.RowKit

set_option maxRecDepth 20000 in
theorem nil_long (p : Int) (ad : Option Addr) (l : List Int) (cap : Nat) (hl : 1000 < l.length) (hlm : l.length ≤ 9223372036854775807) (w : World) (g : Gr w) : Calls Tryd.prog 6 #[.int .i64 p, .slice ad l.length cap] w fun e w' => e = .returned (.bool true) ∧ Fr (fun _ => False) w w' := by
  have HA := hid (awake_f w g)
  clear g
  go_enter Tryd.func6, Tryd.ntmps6
  go_wp2_with fail
  refine HA.out.mono ?_
  rintro e w1 ⟨rfl, f1⟩
  have HF := hid f1
  clear f1
  go_wp2
  go_ret
  exact ⟨by simp, HF.out⟩
set_option maxRecDepth 20000 in
theorem nil_walk' (p : Int) (ad : Option Addr) (l : List Int) (cap : Nat) (hll : ¬ 1000 < l.length) (w : World) (hl : NumsAt w ad l) (g : Gr w) : Calls Tryd.prog 6 #[.int .i64 p, .slice ad l.length cap] w fun e w' => e = .returned (.bool true) ∧ Fr (fun _ => False) w w' := by
  have HA := hid fun w0 (f : Fr (fun _ => False) w w0) => awake_f w0 (g.fr f)
  have HL := hid hl
  have H1 := hid fun v w => c_take_nil v w
  have H2 := hid fun w => c_give_nil p w
  have H3 := hid fun w => c_colour_nil p w
  have H4 := hid fun w => c_taken_nil p w
  have H5 := hid fun v w => c_free_nil v w
  have H6 := hid fun w => c_each_nil w
  have H7 := hid fun w => c_copy_nil w
  have HE := hid (heap_alloc_new w (.cells #[] 3))
  have HL1 := hid (hl.fr ((Fr.refl _ _).alloc (.cells #[] 3)))
  clear g hl
  go_enter Tryd.func6, Tryd.ntmps6
  go_wp2_with (at_builtin; refine wpList_clone rfl (.tmp 14) (.tmp 15) rfl HE.out cap rfl rfl HL1.out (by omega) ?_; intro g1 cap1 w1 _ f1 _; have HF1 : Hid (Fr (fun _ => False) w w1) := ((Fr.trans' ((Fr.refl (fun i => i = w.heap.size) w).alloc _) f1 (fun _ _ e => e)).mono fun i hi e => by omega); clear f1)
  refine (H1.out _ _).mono ?_
  rintro e w2 ⟨rfl, f2⟩
  have HF2 := hid (HF1.out.trans f2)
  clear f2 HF1
  go_wp2_with fail
  refine (HA.out _ HF2.out).mono ?_
  rintro e w3 ⟨rfl, f3⟩
  have HF3 := hid (HF2.out.trans f3)
  clear f3 HF2
  go_wp2_with fail
  refine (H2.out _).mono ?_
  rintro e w4 ⟨rfl, f4⟩
  have HF4 := hid (HF3.out.trans f4)
  clear f4 HF3
  go_wp2_with fail
  refine (H3.out _).mono ?_
  rintro e w5 ⟨rfl, f5⟩
  have HF5 := hid (HF4.out.trans f5)
  clear f5 HF4
  go_wp2_with fail
  refine (H4.out _).mono ?_
  rintro e w6 ⟨rfl, f6⟩
  have HF6 := hid (HF5.out.trans f6)
  clear f6 HF5
  have HE6 := hid (heap_alloc_new w6 (.cells #[] 3))
  have HL6 := hid ((HL.out.fr HF6.out).fr ((Fr.refl _ _).alloc (.cells #[] 3)))
  go_wp2_with (at_builtin; refine wpList_clone rfl (.tmp 49) (.tmp 50) rfl HE6.out cap rfl rfl HL6.out (by omega) ?_; intro g2 cap2 w7 _ f7 _; have HF7 : Hid (Fr (fun _ => False) w w7) := HF6.out.trans ((Fr.trans' ((Fr.refl (fun i => i = w6.heap.size) w6).alloc _) f7 (fun _ _ e => e)).mono fun i hi e => by omega); clear f7)
  refine (H5.out _ _).mono ?_
  rintro e w8 ⟨rfl, f8⟩
  have HF8 := hid (HF7.out.trans f8)
  clear f8 HF7 HF6
  go_wp2_with fail
  refine (H6.out _).mono ?_
  rintro e w9 ⟨rfl, f9⟩
  have HF9 := hid (HF8.out.trans f9)
  clear f9 HF8
  go_wp2_with fail
  refine (H7.out _).mono ?_
  rintro e w10 ⟨rfl, f10⟩
  have HF10 := hid (HF9.out.trans f10)
  clear f10 HF9
  go_wp2
  go_ret
  exact ⟨by simp, HF10.out⟩
theorem nil_walk (p : Int) (v : Value) (w : World) (g : Gr w) (h : ∃ ad cap l, v = .slice ad (List.length l) cap ∧ NumsAt w ad l ∧ l.length ≤ maxLen) : Calls Tryd.prog 6 #[.int .i64 p, v] w fun e w' => e = .returned (.bool true) ∧ Fr (fun _ => False) w w' := by
  obtain ⟨ad, cap, l, rfl, g1, g2⟩ := h
  by_cases h2 : 1000 < l.length
  · exact nil_long p ad l cap h2 (by simp only [maxLen] at g2; omega) w g
  · exact nil_walk' p ad l cap h2 w g1 g
end Go.Proofs.YtcekpaicccmhkaaDoor
