/-
  What the calls of package sum answer: of whole numbers' words, and of any words.
-/
import Derived.Test.YtnlaocokjilncaaRows
import Derived.Test.YtnlaocokjilncaaSuTrunc
import Derived.Laws.Externs
import Derived.WalkMore
import Derived.BigQuiet
import Derived.Deep.QuietTactic
namespace Go.Proofs.Ytnlaocokjilncaa
open Go.RowKit

theorem rawB_lit (x : Nat) : rawB x = ((FloatKind.f64.format.order x 0 == some .gt || FloatKind.f64.format.order x 0 == some .eq) && (FloatKind.f64.format.order x 4787326403894837248 == some .lt || FloatKind.f64.format.order x 4787326403894837248 == some .eq) && (match floatToIntVal .f64 x .i64 with | some q => FloatKind.f64.format.order (fb q) x == some .eq | none => false)) := by
  unfold rawB
  rw [fb_zero, ← fb_top]
  rfl
theorem arch_run {x : Nat} {s : Bool} {m : Nat} {i : Int} (hd : FloatKind.f64.decode x = .number s m i) (w : World) :
    (callFunc 42 #[.float .f64 x]).run Try.prog w = .ok (.value (.float .f64 (FloatKind.f64.encode ((Ieee.Datum.number s m i).integral .zero)))) w := by
  have e : Extern.MathFloor.toIntegral "math.archTrunc" .zero #[.float .f64 x] = pure (.float .f64 (FloatKind.f64.encode ((Ieee.Datum.number s m i).integral .zero))) := by
    delta Extern.MathFloor.toIntegral
    conv =>
      lhs
      whnf
    rw [hd]
  rw [run_callFunc_extern Try.func42 (by kernel_rfl) (by kernel_rfl) (by kernel_rfl) (e := Extern.MathFloor.toIntegral "math.archTrunc" .zero) (by kernel_rfl), e]
  rfl
theorem trunc_any {x : Nat} {s : Bool} {m : Nat} {i : Int} (hd : FloatKind.f64.decode x = .number s m i) (w : World) : Calls Try.prog 41 #[.float .f64 x] w fun e w' => e = .returned (.float .f64 (FloatKind.f64.encode ((Ieee.Datum.number s m i).integral .zero))) ∧ w' = w := by
  have ha := fun w => arch_run hd w
  clear hd
  generalize FloatKind.f64.encode ((Ieee.Datum.number s m i).integral .zero) = t at *
  go_enter Try.func41, Try.ntmps41
  go_wp2
  go_ret
  exact ⟨rfl, rfl⟩
theorem part_any (x : Nat) (w : World) : Calls Try.prog 38 #[.float .f64 x] w fun e w' => e = .returned (.bool (rawB x)) ∧ w' = w := by
  cases g : (FloatKind.f64.format.order x 0 == some .gt || FloatKind.f64.format.order x 0 == some .eq) with
  | false =>
    have hr : Hid (rawB x = false) := by rw [rawB_lit, g]; rfl
    go_enter Try.func38, Try.ntmps38
    go_wp2
    go_ret
    exact ⟨by rw [hr.out]; rfl, rfl⟩
  | true =>
  cases l : (FloatKind.f64.format.order x 4787326403894837248 == some .lt || FloatKind.f64.format.order x 4787326403894837248 == some .eq) with
  | false =>
    have hr : Hid (rawB x = false) := by rw [rawB_lit, g, l]; rfl
    go_enter Try.func38, Try.ntmps38
    go_wp2
    go_ret
    exact ⟨by rw [hr.out]; rfl, rfl⟩
  | true =>
    obtain ⟨q, s, m, i, hq, _, _, hd, he⟩ := trunc_in x 1099511627776 (by decide) (by decide) (by rw [fb_zero]; exact g) (by rw [← fb_top]; exact l)
    have hr : Hid (rawB x = (FloatKind.f64.format.order x (FloatKind.f64.encode ((Ieee.Datum.number s m i).integral .zero)) == some .eq)) := by
      show rawB x = _
      rw [rawB_lit, g, l, hq, he]; simp
    have H1 := hid (trunc_any hd w)
    clear hq hd he
    generalize FloatKind.f64.encode ((Ieee.Datum.number s m i).integral .zero) = t at *
    go_enter Try.func38, Try.ntmps38
    go_wp2_with fail
    refine H1.out.mono ?_
    rintro e w' ⟨rfl, hw⟩
    obtain rfl := hw.symm
    go_wp2
    go_ret
    exact ⟨by rw [hr.out]; rfl, rfl⟩
theorem right_any (x y : Nat) (w : World) : Calls Try.prog 26 #[.complex .f64 x y] w fun e w' => e = .returned (.bool (rawB x && rawB y)) ∧ w' = w := by
  have H1 := hid (part_any x w)
  have H2 := hid (part_any y w)
  generalize rawB y = v at *
  cases hu : rawB x with
  | true =>
    rw [hu] at H1
    clear hu
    go_enter Try.func26, Try.ntmps26
    go_wp2_with fail
    refine H1.out.mono ?_
    rintro e w' ⟨rfl, hw⟩
    obtain rfl := hw.symm
    go_wp2_with fail
    refine H2.out.mono ?_
    rintro e w' ⟨rfl, hw⟩
    obtain rfl := hw.symm
    go_wp2
    go_ret
    exact ⟨by simp, rfl⟩
  | false =>
    rw [hu] at H1
    clear hu H2
    go_enter Try.func26, Try.ntmps26
    go_wp2_with fail
    refine H1.out.mono ?_
    rintro e w' ⟨rfl, hw⟩
    obtain rfl := hw.symm
    go_wp2
    go_ret
    exact ⟨by simp, rfl⟩
theorem both_any (x y z u : Nat) (w : World) : Calls Try.prog 35 #[.complex .f64 x y, .complex .f64 z u] w fun e w' => e = .returned (.bool ((rawB x && rawB y) && (rawB z && rawB u))) ∧ w' = w := by
  have H1 := hid (right_any x y w)
  have H2 := hid (right_any z u w)
  generalize (rawB z && rawB u) = v at *
  cases hu : (rawB x && rawB y) with
  | true =>
    rw [hu] at H1
    clear hu
    go_enter Try.func35, Try.ntmps35
    go_wp2_with fail
    refine H1.out.mono ?_
    rintro e w' ⟨rfl, hw⟩
    obtain rfl := hw.symm
    go_wp2_with fail
    refine H2.out.mono ?_
    rintro e w' ⟨rfl, hw⟩
    obtain rfl := hw.symm
    go_wp2
    go_ret
    exact ⟨by simp, rfl⟩
  | false =>
    rw [hu] at H1
    clear hu H2
    go_enter Try.func35, Try.ntmps35
    go_wp2_with fail
    refine H1.out.mono ?_
    rintro e w' ⟨rfl, hw⟩
    obtain rfl := hw.symm
    go_wp2
    go_ret
    exact ⟨by simp, rfl⟩
theorem if_yes {x y : Nat} (h : (rawB x && rawB y) = true) (w : World) : Calls Try.prog 36 #[.complex .f64 x y] w fun e w' => e = .returned (.tuple #[.complex .f64 x y, .int .i64 0]) ∧ w' = w := by
  have H1 := hid (right_any x y w)
  rw [h] at H1
  clear h
  go_enter Try.func36, Try.ntmps36
  go_wp2_with fail
  refine H1.out.mono ?_
  rintro e w' ⟨rfl, hw⟩
  obtain rfl := hw.symm
  go_wp2
  go_ret2
  exact ⟨by simp, rfl⟩
theorem if_no {x y : Nat} (h : (rawB x && rawB y) = false) (w : World) : Calls Try.prog 36 #[.complex .f64 x y] w fun e w' => e = .returned (.tuple #[.complex .f64 0 0, .int .i64 12]) ∧ w' = w := by
  have H1 := hid (right_any x y w)
  rw [h] at H1
  clear h
  go_enter Try.func36, Try.ntmps36
  go_wp2_with fail
  refine H1.out.mono ?_
  rintro e w' ⟨rfl, hw⟩
  obtain rfl := hw.symm
  go_wp2
  go_ret2
  exact ⟨by simp, rfl⟩
/-- Of words that are parts just if two whole numbers are, and are theirs then: the sum of the two, or none. -/
theorem if_ok {a b p q : Int} (hp : decide (0 ≤ p ∧ p ≤ 1099511627776) = decide (0 ≤ a ∧ a ≤ 1099511627776)) (hq : decide (0 ≤ q ∧ q ≤ 1099511627776) = decide (0 ≤ b ∧ b ≤ 1099511627776)) (he : Rt a b → p = a ∧ q = b) (w : World) : Calls Try.prog 36 #[.complex .f64 (fb p) (fb q)] w fun e w' => e = .returned (.tuple #[.complex .f64 (fb (okA a b)) (fb (okB a b)), .int .i64 (okE a b)]) ∧ w' = w := by
  have hr : (rawB (fb p) && rawB (fb q)) = decide (Rt a b) := by
    rw [rawB_fb, rawB_fb, hp, hq]
    by_cases h : Rt a b
    · rw [decide_eq_true h]; unfold Rt at h; simp; omega
    · rw [decide_eq_false h]; unfold Rt at h; simp; omega
  by_cases h : Rt a b
  · rw [(ok_right h).1, (ok_right h).2.1, (ok_right h).2.2, ← (he h).1, ← (he h).2]
    exact if_yes (by rw [hr]; exact decide_eq_true h) w
  · rw [(ok_wrong h).1, (ok_wrong h).2.1, (ok_wrong h).2.2, fb_zero]
    exact if_no (by rw [hr]; exact decide_eq_false h) w
theorem rt_raw {a b : Int} (h : Rt a b) : (rawB (fb a) && rawB (fb b)) = true := by
  unfold Rt at h
  rw [rawB_fb, rawB_fb]
  simp; omega
theorem t_of (a b : Int) (w : World) : Calls Try.prog 24 #[.int .i64 a, .int .i64 b] w fun e w' => e = .returned (.tuple #[.complex .f64 (fb (okA a b)) (fb (okB a b)), .int .i64 (okE a b)]) ∧ w' = w := by
  have H1 : Hid (Calls Try.prog 36 #[.complex .f64 (floatOfInt .f64 a) (floatOfInt .f64 b)] w fun e w' => e = .returned (.tuple #[.complex .f64 (fb (okA a b)) (fb (okB a b)), .int .i64 (okE a b)]) ∧ w' = w) := if_ok (a := a) (b := b) (p := a) (q := b) rfl rfl (fun _ => ⟨rfl, rfl⟩) w
  generalize fb (okA a b) = x at *
  generalize fb (okB a b) = y at *
  generalize okE a b = z at *
  go_enter Try.func24, Try.ntmps24
  go_wp2_with fail
  refine H1.out.mono ?_
  rintro e w' ⟨rfl, hw⟩
  obtain rfl := hw.symm
  go_wp2
  go_ret2
  exact ⟨by simp, rfl⟩
theorem t_plus {a b c d : Int} (h : Rt a b) (k : Rt c d) (w : World) : Calls Try.prog 22 #[.complex .f64 (fb a) (fb b), .complex .f64 (fb c) (fb d)] w fun e w' => e = .returned (.tuple #[.complex .f64 (fb (okA (a + c) (b + d))) (fb (okB (a + c) (b + d))), .int .i64 (okE (a + c) (b + d))]) ∧ w' = w := by
  have H1 := hid (both_any (fb a) (fb b) (fb c) (fb d) w)
  rw [rt_raw h, rt_raw k] at H1
  have H2 := hid (if_ok (a := a + c) (b := b + d) (p := a + c) (q := b + d) rfl rfl (fun _ => ⟨rfl, rfl⟩) w)
  have hs : ∀ w, (binOp .add 24 (.complex .f64 (fb a) (fb b)) (.complex .f64 (fb c) (fb d))).run Try.prog w = .ok (.complex .f64 (fb (a + c)) (fb (b + d))) w := fun w => run_complex_sum w .add (.inl rfl) _ .f64 _ _ _ _ _ _ (csum_add h.wa h.wb k.wa k.wb)
  clear h k
  generalize fb (okA (a + c) (b + d)) = x at *
  generalize fb (okB (a + c) (b + d)) = y at *
  generalize okE (a + c) (b + d) = z at *
  generalize fb (a + c) = s1 at *
  generalize fb (b + d) = s2 at *
  generalize fb a = x1 at *
  generalize fb b = x2 at *
  generalize fb c = y1 at *
  generalize fb d = y2 at *
  go_enter Try.func22, Try.ntmps22
  go_wp2_with fail
  refine H1.out.mono ?_
  rintro e w' ⟨rfl, hw⟩
  obtain rfl := hw.symm
  go_wp2_with fail
  refine H2.out.mono ?_
  rintro e w' ⟨rfl, hw⟩
  obtain rfl := hw.symm
  go_wp2
  go_ret2
  exact ⟨by simp, rfl⟩
theorem t_plus_no {x y z u : Nat} (h : ((rawB x && rawB y) && (rawB z && rawB u)) = false) (w : World) : Calls Try.prog 22 #[.complex .f64 x y, .complex .f64 z u] w fun e w' => e = .returned (.tuple #[.complex .f64 0 0, .int .i64 12]) ∧ w' = w := by
  have H1 := hid (both_any x y z u w)
  rw [h] at H1
  clear h
  go_enter Try.func22, Try.ntmps22
  go_wp2_with fail
  refine H1.out.mono ?_
  rintro e w' ⟨rfl, hw⟩
  obtain rfl := hw.symm
  go_wp2
  go_ret2
  exact ⟨by simp, rfl⟩
theorem t_bytes {x y : Nat} {q : Int} (hy : (rawB x && rawB y) = true) (hq : floatToIntVal .f64 x .i64 = some q) (w : World) : Calls Try.prog 33 #[.complex .f64 x y] w fun e w' => e = .returned (.int .i64 q) ∧ w' = w := by
  have H1 := hid (right_any x y w)
  rw [hy] at H1
  have hc : ∀ w, (convert 59 3 (.float .f64 x)).run Try.prog w = .ok (.int .i64 q) w := fun w => run_convert_float_int w _ _ .f64 .i64 x q (by rw [Try.underlying59]; rfl) Try.underlying3 hq
  clear hq hy
  go_enter Try.func33, Try.ntmps33
  go_wp2_with fail
  refine H1.out.mono ?_
  rintro e w' ⟨rfl, hw⟩
  obtain rfl := hw.symm
  go_wp2
  go_ret
  exact ⟨by simp, rfl⟩
theorem t_bytes_no {x y : Nat} (hn : (rawB x && rawB y) = false) (w : World) : Calls Try.prog 33 #[.complex .f64 x y] w fun e w' => e = .returned (.int .i64 0) ∧ w' = w := by
  have H1 := hid (right_any x y w)
  rw [hn] at H1
  clear hn
  go_enter Try.func33, Try.ntmps33
  go_wp2_with fail
  refine H1.out.mono ?_
  rintro e w' ⟨rfl, hw⟩
  obtain rfl := hw.symm
  go_wp2
  go_ret
  exact ⟨by simp, rfl⟩
theorem t_pages {x y : Nat} {q : Int} (hy : (rawB x && rawB y) = true) (hq : floatToIntVal .f64 y .i64 = some q) (w : World) : Calls Try.prog 34 #[.complex .f64 x y] w fun e w' => e = .returned (.int .i64 q) ∧ w' = w := by
  have H1 := hid (right_any x y w)
  rw [hy] at H1
  have hc : ∀ w, (convert 59 3 (.float .f64 y)).run Try.prog w = .ok (.int .i64 q) w := fun w => run_convert_float_int w _ _ .f64 .i64 y q (by rw [Try.underlying59]; rfl) Try.underlying3 hq
  clear hq hy
  go_enter Try.func34, Try.ntmps34
  go_wp2_with fail
  refine H1.out.mono ?_
  rintro e w' ⟨rfl, hw⟩
  obtain rfl := hw.symm
  go_wp2
  go_ret
  exact ⟨by simp, rfl⟩
theorem t_pages_no {x y : Nat} (hn : (rawB x && rawB y) = false) (w : World) : Calls Try.prog 34 #[.complex .f64 x y] w fun e w' => e = .returned (.int .i64 0) ∧ w' = w := by
  have H1 := hid (right_any x y w)
  rw [hn] at H1
  clear hn
  go_enter Try.func34, Try.ntmps34
  go_wp2_with fail
  refine H1.out.mono ?_
  rintro e w' ⟨rfl, hw⟩
  obtain rfl := hw.symm
  go_wp2
  go_ret
  exact ⟨by simp, rfl⟩
theorem t_fits {a b c d : Int} (h : Rt a b) (k : Rt c d) (w : World) : Calls Try.prog 23 #[.complex .f64 (fb a) (fb b), .complex .f64 (fb c) (fb d)] w fun e w' => e = .returned (.bool (decide (a ≤ c ∧ b ≤ d))) ∧ w' = w := by
  have H1 := hid (both_any (fb a) (fb b) (fb c) (fb d) w)
  rw [rt_raw h, rt_raw k] at H1
  have r1 := h
  have r2 := k
  unfold Rt at r1 r2
  have e1 : (FloatKind.f64.format.order (fb a) (fb c) == some .lt || FloatKind.f64.format.order (fb a) (fb c) == some .eq) = decide (a ≤ c) := by
    rw [fb_order a c (by omega) (by omega)]; simp only [Option.some_beq_some]; exact cmp_le a c
  have e2 : (FloatKind.f64.format.order (fb b) (fb d) == some .lt || FloatKind.f64.format.order (fb b) (fb d) == some .eq) = decide (b ≤ d) := by
    rw [fb_order b d (by omega) (by omega)]; simp only [Option.some_beq_some]; exact cmp_le b d
  have ea : Hid (decide (a ≤ c ∧ b ≤ d) = (decide (a ≤ c) && decide (b ≤ d))) := by
    show _ = _
    simp
  clear r1 r2 h k
  generalize fb a = x1 at *
  generalize fb b = x2 at *
  generalize fb c = y1 at *
  generalize fb d = y2 at *
  rw [ea.out]
  clear ea
  generalize decide (b ≤ d) = v at *
  cases hu : decide (a ≤ c) with
  | true =>
    rw [hu] at e1
    clear hu
    go_enter Try.func23, Try.ntmps23
    go_wp2_with fail
    refine H1.out.mono ?_
    rintro e w' ⟨rfl, hw⟩
    obtain rfl := hw.symm
    go_wp2
    go_ret
    exact ⟨by simp, rfl⟩
  | false =>
    rw [hu] at e1
    clear hu
    go_enter Try.func23, Try.ntmps23
    go_wp2_with fail
    refine H1.out.mono ?_
    rintro e w' ⟨rfl, hw⟩
    obtain rfl := hw.symm
    go_wp2
    go_ret
    exact ⟨by simp, rfl⟩
theorem t_fits_no {x y z u : Nat} (h : ((rawB x && rawB y) && (rawB z && rawB u)) = false) (w : World) : Calls Try.prog 23 #[.complex .f64 x y, .complex .f64 z u] w fun e w' => e = .returned (.bool false) ∧ w' = w := by
  have H1 := hid (both_any x y z u w)
  rw [h] at H1
  clear h
  go_enter Try.func23, Try.ntmps23
  go_wp2_with fail
  refine H1.out.mono ?_
  rintro e w' ⟨rfl, hw⟩
  obtain rfl := hw.symm
  go_wp2
  go_ret
  exact ⟨by simp, rfl⟩
/-- What may lie in a slice: a right sum, or words that are none. -/
abbrev It : Type := Sum (Int × Int) (Nat × Nat)
def itX : It → Nat
  | .inl p => fb p.1
  | .inr x => x.1
def itY : It → Nat
  | .inl p => fb p.2
  | .inr x => x.2
def itSo : It → Prop
  | .inl p => Rt p.1 p.2
  | .inr x => (rawB x.1 && rawB x.2) = false
def totI : Int → Int → List It → Int × Int × Int
  | a, b, [] => (a, b, 0)
  | a, b, .inl p :: l => if Rt (a + p.1) (b + p.2) then totI (a + p.1) (b + p.2) l else (0, 0, 12)
  | _, _, .inr _ :: _ => (0, 0, 12)
theorem totI_ok : ∀ (l : List (Int × Int)) (a b : Int), totI a b (l.map Sum.inl) = tot a b l
  | [], a, b => rfl
  | p :: l, a, b => by
    simp only [List.map_cons, totI, tot]
    rw [totI_ok l]
/-- They lie where a slice says. -/
def ItsAt (w : World) (ad : Option Addr) (l : List It) : Prop := ∀ i (h : i < l.length), ∃ b off, ad = some ⟨b, off, none⟩ ∧ w.cell? ⟨b, off + i, none⟩ = some (.complex .f64 (itX l[i]) (itY l[i]))
theorem same_drew {w w' : World} (h : w' = w) : ∃ m, w' = w.drewN m := ⟨0, h⟩
theorem s_of (a b : Int) (w : World) : Calls Try.prog 24 #[.int .i64 a, .int .i64 b] w fun e w' => e = .returned (.tuple #[.complex .f64 (fb (okA a b)) (fb (okB a b)), .int .i64 (okE a b)]) ∧ ∃ m, w' = w.drewN m := (t_of a b w).mono fun _ _ h => ⟨h.1, same_drew h.2⟩
theorem s_right {a b : Int} (h : Rt a b) (w : World) : Calls Try.prog 26 #[.complex .f64 (fb a) (fb b)] w fun e w' => e = .returned (.bool true) ∧ ∃ m, w' = w.drewN m := (right_any (fb a) (fb b) w).mono fun _ _ k => ⟨by rw [k.1, rt_raw h], same_drew k.2⟩
theorem s_bytes {a b : Int} (h : Rt a b) (w : World) : Calls Try.prog 33 #[.complex .f64 (fb a) (fb b)] w fun e w' => e = .returned (.int .i64 a) ∧ ∃ m, w' = w.drewN m := (t_bytes (rt_raw h) (fb_int a (by unfold Rt at h; omega)) w).mono fun _ _ k => ⟨k.1, same_drew k.2⟩
theorem s_pages {a b : Int} (h : Rt a b) (w : World) : Calls Try.prog 34 #[.complex .f64 (fb a) (fb b)] w fun e w' => e = .returned (.int .i64 b) ∧ ∃ m, w' = w.drewN m := (t_pages (rt_raw h) (fb_int b (by unfold Rt at h; omega)) w).mono fun _ _ k => ⟨k.1, same_drew k.2⟩
theorem s_plus {a b c d : Int} (h : Rt a b) (k : Rt c d) (w : World) : Calls Try.prog 22 #[.complex .f64 (fb a) (fb b), .complex .f64 (fb c) (fb d)] w fun e w' => e = .returned (.tuple #[.complex .f64 (fb (okA (a + c) (b + d))) (fb (okB (a + c) (b + d))), .int .i64 (okE (a + c) (b + d))]) ∧ ∃ m, w' = w.drewN m := (t_plus h k w).mono fun _ _ k => ⟨k.1, same_drew k.2⟩
theorem s_fits {a b c d : Int} (h : Rt a b) (k : Rt c d) (w : World) : Calls Try.prog 23 #[.complex .f64 (fb a) (fb b), .complex .f64 (fb c) (fb d)] w fun e w' => e = .returned (.bool (decide (a ≤ c ∧ b ≤ d))) ∧ ∃ m, w' = w.drewN m := (t_fits h k w).mono fun _ _ k => ⟨k.1, same_drew k.2⟩
theorem s_raw_right (x y : Nat) (w : World) : Calls Try.prog 26 #[.complex .f64 x y] w fun e w' => e = .returned (.bool (rawB x && rawB y)) ∧ ∃ m, w' = w.drewN m := (right_any x y w).mono fun _ _ k => ⟨k.1, same_drew k.2⟩
theorem s_raw_bytes {x y : Nat} {q : Int} (hy : (rawB x && rawB y) = true) (hq : floatToIntVal .f64 x .i64 = some q) (w : World) : Calls Try.prog 33 #[.complex .f64 x y] w fun e w' => e = .returned (.int .i64 q) ∧ ∃ m, w' = w.drewN m := (t_bytes hy hq w).mono fun _ _ k => ⟨k.1, same_drew k.2⟩
theorem s_raw_pages {x y : Nat} {q : Int} (hy : (rawB x && rawB y) = true) (hq : floatToIntVal .f64 y .i64 = some q) (w : World) : Calls Try.prog 34 #[.complex .f64 x y] w fun e w' => e = .returned (.int .i64 q) ∧ ∃ m, w' = w.drewN m := (t_pages hy hq w).mono fun _ _ k => ⟨k.1, same_drew k.2⟩
theorem s_raw_bytes0 {x y : Nat} (hn : (rawB x && rawB y) = false) (w : World) : Calls Try.prog 33 #[.complex .f64 x y] w fun e w' => e = .returned (.int .i64 0) ∧ ∃ m, w' = w.drewN m := (t_bytes_no hn w).mono fun _ _ k => ⟨k.1, same_drew k.2⟩
theorem s_raw_pages0 {x y : Nat} (hn : (rawB x && rawB y) = false) (w : World) : Calls Try.prog 34 #[.complex .f64 x y] w fun e w' => e = .returned (.int .i64 0) ∧ ∃ m, w' = w.drewN m := (t_pages_no hn w).mono fun _ _ k => ⟨k.1, same_drew k.2⟩
theorem s_raw_plus1 {x y : Nat} {a b : Int} (hn : (rawB x && rawB y) = false) (_h : Rt a b) (w : World) : Calls Try.prog 22 #[.complex .f64 x y, .complex .f64 (fb a) (fb b)] w fun e w' => e = .returned (.tuple #[.complex .f64 0 0, .int .i64 12]) ∧ ∃ m, w' = w.drewN m := (t_plus_no (by rw [hn, Bool.false_and]) w).mono fun _ _ k => ⟨k.1, same_drew k.2⟩
theorem s_raw_plus2 {x y : Nat} {a b : Int} (hn : (rawB x && rawB y) = false) (_h : Rt a b) (w : World) : Calls Try.prog 22 #[.complex .f64 (fb a) (fb b), .complex .f64 x y] w fun e w' => e = .returned (.tuple #[.complex .f64 0 0, .int .i64 12]) ∧ ∃ m, w' = w.drewN m := (t_plus_no (by rw [hn, Bool.and_false]) w).mono fun _ _ k => ⟨k.1, same_drew k.2⟩
theorem s_raw_fits1 {x y : Nat} {a b : Int} (hn : (rawB x && rawB y) = false) (_h : Rt a b) (w : World) : Calls Try.prog 23 #[.complex .f64 x y, .complex .f64 (fb a) (fb b)] w fun e w' => e = .returned (.bool false) ∧ ∃ m, w' = w.drewN m := (t_fits_no (by rw [hn, Bool.false_and]) w).mono fun _ _ k => ⟨k.1, same_drew k.2⟩
theorem s_raw_fits2 {x y : Nat} {a b : Int} (hn : (rawB x && rawB y) = false) (_h : Rt a b) (w : World) : Calls Try.prog 23 #[.complex .f64 (fb a) (fb b), .complex .f64 x y] w fun e w' => e = .returned (.bool false) ∧ ∃ m, w' = w.drewN m := (t_fits_no (by rw [hn, Bool.and_false]) w).mono fun _ _ k => ⟨k.1, same_drew k.2⟩
end Go.Proofs.Ytnlaocokjilncaa
