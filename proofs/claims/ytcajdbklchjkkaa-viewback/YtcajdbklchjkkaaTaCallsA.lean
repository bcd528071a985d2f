/-
  What the calls of package table do: found, Find, Holder, Len, isLocal, isPage, join, part; maps.Clone.
-/
import Derived.Test.YtcajdbklchjkkaaTaPrg
import Derived.Test.YtcajdbklchjkkaaPtCalls
import Derived.Shelf.SlMaps.Clone
namespace Go.Proofs.Ytcajdbklchjkkaa
open Go.RowKit

section
variable {w w0 : World} {t : Nat} {Z : Nat → Prop} {T : Tb} {m m1 m2 : Option Nat} {f : Int → Option Int} {cnt : Nat}
set_option maxRecDepth 20000 in
theorem u_found (o : Og w m f cnt) {k : Int} (hk : I64 k) : Calls Try.prog 48 #[.map m, .int .i64 k] w fun e w' => e = .returned (.int .i64 ((f k).getD (-1))) ∧ w' = w := by
  have hl := o.lookOk hk
  clear o hk
  cases hf : f k with
  | none =>
    rw [hf] at hl
    simp only [Option.getD_none, Option.isSome_none] at hl
    clear hf
    go_enter Try.func48, Try.ntmps48
    go_wp2
    go_ret
    exact ⟨by simp, rfl⟩
  | some y =>
    rw [hf] at hl
    simp only [Option.getD_some, Option.isSome_some] at hl
    clear hf
    go_enter Try.func48, Try.ntmps48
    go_wp2
    go_ret
    exact ⟨by simp, rfl⟩
set_option maxRecDepth 20000 in
theorem u_find (c : Tw w t m1 m2) (o : Og w m1 f cnt) {k : Int} (hk : I64 k) : Calls Try.prog 35 #[.pointer (some ⟨t, 0, none⟩), .int .i64 k] w fun e w' => e = .returned (.int .i64 ((f k).getD (-1))) ∧ w' = w := by
  have c0 := c.c0
  have H1 := hid (u_found o hk)
  clear o hk c
  generalize (f k).getD (-1) = y at *
  go_enter Try.func35, Try.ntmps35
  go_wp2_with fail
  refine H1.out.mono ?_
  rintro e w1 ⟨rfl, hw⟩
  obtain rfl := hw.symm
  go_wp2
  go_ret
  exact ⟨by simp, rfl⟩
set_option maxRecDepth 20000 in
theorem u_holder (c : Tw w t m1 m2) (o : Og w m2 f cnt) {k : Int} (hk : I64 k) : Calls Try.prog 24 #[.pointer (some ⟨t, 0, none⟩), .int .i64 k] w fun e w' => e = .returned (.int .i64 ((f k).getD (-1))) ∧ w' = w := by
  have c1 := c.c1
  have H1 := hid (u_found o hk)
  clear o hk c
  generalize (f k).getD (-1) = y at *
  go_enter Try.func24, Try.ntmps24
  go_wp2_with fail
  refine H1.out.mono ?_
  rintro e w1 ⟨rfl, hw⟩
  obtain rfl := hw.symm
  go_wp2
  go_ret
  exact ⟨by simp, rfl⟩
set_option maxRecDepth 20000 in
theorem u_page (p : Int) (w : World) : Calls Try.prog 34 #[.int .i64 p] w fun e w' => e = .returned (.bool (decide (POk p))) ∧ w' = w := by
  by_cases h0 : 0 ≤ p
  · by_cases h1 : p ≤ 1048576
    · have hm : Hid (decide (POk p) = true) := decide_eq_true (p := POk p) ⟨h0, h1⟩
      generalize decide (POk p) = r at *
      go_enter Try.func34, Try.ntmps34
      go_wp2
      go_ret
      exact ⟨by rw [hm.out]; rfl, rfl⟩
    · have hm : Hid (decide (POk p) = false) := decide_eq_false (p := POk p) fun h => h1 h.2
      generalize decide (POk p) = r at *
      go_enter Try.func34, Try.ntmps34
      go_wp2
      go_ret
      exact ⟨by rw [hm.out]; rfl, rfl⟩
  · have hm : Hid (decide (POk p) = false) := decide_eq_false (p := POk p) fun h => h0 h.1
    generalize decide (POk p) = r at *
    go_enter Try.func34, Try.ntmps34
    go_wp2
    go_ret
    exact ⟨by rw [hm.out]; rfl, rfl⟩
set_option maxRecDepth 20000 in
theorem u_local {v : Int} (k : Pt.K w0 w) : Calls Try.prog 33 #[.int .i64 v] w fun e w' => e = .returned (.bool (decide (VOk v))) ∧ Pt.K w0 w' := by
  have hb := Pt.win_fb v
  by_cases h : VOk v
  · rw [decide_eq_true h] at hb
    have H1 : Hid (Calls Try.prog 55 #[.complex .f64 (floatOfInt .f64 v) 0] w fun e w' => e = .returned (.tuple #[.int .i64 (v * 512 + 0), .int .i64 0]) ∧ Pt.K w0 w') := Pt.l_addr hb (fb_int v (by omega)) (by rw [← fb_zero]; exact fb_int 0 (by decide)) k
    have hm : Hid (decide (VOk v) = true) := decide_eq_true h
    generalize decide (VOk v) = r at *
    clear hb h k
    go_enter Try.func33, Try.ntmps33
    go_wp2_with fail
    refine H1.out.mono ?_
    rintro e w1 ⟨rfl, hk⟩
    have HK := hid hk
    clear hk H1
    go_wp2
    go_ret
    exact ⟨by rw [hm.out]; rfl, HK.out⟩
  · rw [decide_eq_false h] at hb
    have H1 : Hid (Calls Try.prog 55 #[.complex .f64 (floatOfInt .f64 v) 0] w fun e w' => e = .returned (.tuple #[.int .i64 0, .int .i64 4]) ∧ Pt.K w0 w') := Pt.l_addr_no hb k
    have hm : Hid (decide (VOk v) = false) := decide_eq_false h
    generalize decide (VOk v) = r at *
    clear hb h k
    go_enter Try.func33, Try.ntmps33
    go_wp2_with fail
    refine H1.out.mono ?_
    rintro e w1 ⟨rfl, hk⟩
    have HK := hid hk
    clear hk H1
    go_wp2
    go_ret
    exact ⟨by rw [hm.out]; rfl, HK.out⟩
end
end Go.Proofs.Ytcajdbklchjkkaa
