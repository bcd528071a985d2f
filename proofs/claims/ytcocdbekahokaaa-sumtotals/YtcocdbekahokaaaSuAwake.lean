/-
  The document's own examples stand, so the laws are awake; what 'same' tells.
-/
import Derived.Test.YtcocdbekahokaaaSuCalls
namespace Go.Proofs.Ytcocdbekahokaaa
open Go.RowKit

/-- Where a law that began in w0 stands: no old block has turned. -/
structure K (w0 w : World) : Prop where
  fr : Fr (fun _ => False) w0 w
theorem K.start (w : World) : K w w := ⟨Fr.refl _ _⟩
theorem K.on {w0 w w' : World} (h : K w0 w) (f : Fr (fun _ => False) w w') : K w0 w' := ⟨h.fr.trans f⟩
theorem K.drew {w0 w w' : World} (h : K w0 w) (f : ∃ m, w' = w.drewN m) : K w0 w' := by
  obtain ⟨m, rfl⟩ := f
  exact h.on ((Fr.refl _ _).drewN m)
theorem k_of {w0 : World} {a b x y z : Int} (e1 : okA a b = x) (e2 : okB a b = y) (e3 : okE a b = z) {w : World} (k : K w0 w) : Calls Try.prog 9 #[.int .i64 a, .int .i64 b] w fun e w' => e = .returned (.tuple #[.complex .f64 (fb x) (fb y), .int .i64 z]) ∧ K w0 w' := by
  subst e1 e2 e3; exact (s_of a b w).mono fun _ _ ⟨h, f⟩ => ⟨h, k.drew f⟩
theorem k_bytes {w0 : World} {a b : Int} (h : Rt a b) {w : World} (k : K w0 w) : Calls Try.prog 23 #[.complex .f64 (fb a) (fb b)] w fun e w' => e = .returned (.int .i64 a) ∧ K w0 w' :=
  (s_bytes h w).mono fun _ _ ⟨h, f⟩ => ⟨h, k.drew f⟩
theorem k_pages {w0 : World} {a b : Int} (h : Rt a b) {w : World} (k : K w0 w) : Calls Try.prog 24 #[.complex .f64 (fb a) (fb b)] w fun e w' => e = .returned (.int .i64 b) ∧ K w0 w' :=
  (s_pages h w).mono fun _ _ ⟨h, f⟩ => ⟨h, k.drew f⟩
theorem k_plus {w0 : World} {a b c d x y z : Int} (h1 : Rt a b) (h2 : Rt c d) (e1 : okA (a + c) (b + d) = x) (e2 : okB (a + c) (b + d) = y) (e3 : okE (a + c) (b + d) = z) {w : World} (k : K w0 w) : Calls Try.prog 13 #[.complex .f64 (fb a) (fb b), .complex .f64 (fb c) (fb d)] w fun e w' => e = .returned (.tuple #[.complex .f64 (fb x) (fb y), .int .i64 z]) ∧ K w0 w' := by
  subst e1 e2 e3; exact (s_plus h1 h2 w).mono fun _ _ ⟨h, f⟩ => ⟨h, k.drew f⟩
theorem k_less {w0 : World} {a b c d x y z : Int} (h1 : Rt a b) (h2 : Rt c d) (e1 : okA (a - c) (b - d) = x) (e2 : okB (a - c) (b - d) = y) (e3 : okE (a - c) (b - d) = z) {w : World} (k : K w0 w) : Calls Try.prog 15 #[.complex .f64 (fb a) (fb b), .complex .f64 (fb c) (fb d)] w fun e w' => e = .returned (.tuple #[.complex .f64 (fb x) (fb y), .int .i64 z]) ∧ K w0 w' := by
  subst e1 e2 e3; exact (s_less h1 h2 w).mono fun _ _ ⟨h, f⟩ => ⟨h, k.drew f⟩
theorem k_times {w0 : World} {a b n x y z : Int} (h1 : Rt a b) (e1 : okA (tim a n) (tim b n) = x) (e2 : okB (tim a n) (tim b n) = y) (e3 : okE (tim a n) (tim b n) = z) {w : World} (k : K w0 w) : Calls Try.prog 17 #[.complex .f64 (fb a) (fb b), .int .i64 n] w fun e w' => e = .returned (.tuple #[.complex .f64 (fb x) (fb y), .int .i64 z]) ∧ K w0 w' := by
  subst e1 e2 e3; exact (s_times h1 n w).mono fun _ _ ⟨h, f⟩ => ⟨h, k.drew f⟩
theorem k_fits {w0 : World} {a b c d : Int} {v : Bool} (h1 : Rt a b) (h2 : Rt c d) (hv : decide (a ≤ c ∧ b ≤ d) = v) {w : World} (k : K w0 w) : Calls Try.prog 19 #[.complex .f64 (fb a) (fb b), .complex .f64 (fb c) (fb d)] w fun e w' => e = .returned (.bool v) ∧ K w0 w' := by
  subst hv; exact (s_fits h1 h2 w).mono fun _ _ ⟨h, f⟩ => ⟨h, k.drew f⟩

set_option maxRecDepth 20000 in
theorem awake_any {w0 w : World} (k : K w0 w) : Calls Try.prog 11 #[] w fun e w' => e = .returned (.bool true) ∧ K w0 w' := by
  have HK0 := hid k
  have H1 : Hid (∀ {w : World}, K w0 w → Calls Try.prog 9 #[.int .i64 48, .int .i64 1] w fun e w' => e = .returned (.tuple #[.complex .f64 (fb 48) (fb 1), .int .i64 0]) ∧ K w0 w') := fun h => k_of (by decide) (by decide) (by decide) h
  have H2 : Hid (∀ {w : World}, K w0 w → Calls Try.prog 9 #[.int .i64 16, .int .i64 0] w fun e w' => e = .returned (.tuple #[.complex .f64 (fb 16) (fb 0), .int .i64 0]) ∧ K w0 w') := fun h => k_of (by decide) (by decide) (by decide) h
  have H3 : Hid (∀ {w : World}, K w0 w → Calls Try.prog 13 #[.complex .f64 (fb 48) (fb 1), .complex .f64 (fb 16) (fb 0)] w fun e w' => e = .returned (.tuple #[.complex .f64 (fb 64) (fb 1), .int .i64 0]) ∧ K w0 w') := fun h => k_plus (by decide) (by decide) (by decide) (by decide) (by decide) h
  have H4 : Hid (∀ {w : World}, K w0 w → Calls Try.prog 15 #[.complex .f64 (fb 16) (fb 0), .complex .f64 (fb 48) (fb 1)] w fun e w' => e = .returned (.tuple #[.complex .f64 (fb 0) (fb 0), .int .i64 12]) ∧ K w0 w') := fun h => k_less (by decide) (by decide) (by decide) (by decide) (by decide) h
  have H5 : Hid (∀ {w : World}, K w0 w → Calls Try.prog 23 #[.complex .f64 (fb 64) (fb 1)] w fun e w' => e = .returned (.int .i64 64) ∧ K w0 w') := fun h => k_bytes (by decide) h
  have H6 : Hid (∀ {w : World}, K w0 w → Calls Try.prog 24 #[.complex .f64 (fb 64) (fb 1)] w fun e w' => e = .returned (.int .i64 1) ∧ K w0 w') := fun h => k_pages (by decide) h
  have H7 : Hid (∀ {w : World}, K w0 w → Calls Try.prog 19 #[.complex .f64 (fb 16) (fb 0), .complex .f64 (fb 48) (fb 1)] w fun e w' => e = .returned (.bool true) ∧ K w0 w') := fun h => k_fits (by decide) (by decide) (by decide) h
  have H8 : Hid (∀ {w : World}, K w0 w → Calls Try.prog 19 #[.complex .f64 (fb 48) (fb 1), .complex .f64 (fb 16) (fb 0)] w fun e w' => e = .returned (.bool false) ∧ K w0 w') := fun h => k_fits (by decide) (by decide) (by decide) h
  clear k
  generalize fb 48 = p1 at *
  generalize fb 16 = p2 at *
  generalize fb 64 = p3 at *
  generalize fb 1 = p4 at *
  generalize fb 0 = p5 at *
  go_enter Try.func11, Try.ntmps11
  go_wp2_with fail
  refine (H1.out HK0.out).mono ?_
  rintro e w1 ⟨rfl, hk⟩
  have HK1 := hid hk
  clear hk HK0
  go_wp2_with fail
  refine (H2.out HK1.out).mono ?_
  rintro e w2 ⟨rfl, hk⟩
  have HK2 := hid hk
  clear hk HK1
  go_wp2_with fail
  refine (H3.out HK2.out).mono ?_
  rintro e w3 ⟨rfl, hk⟩
  have HK3 := hid hk
  clear hk HK2
  go_wp2_with fail
  refine (H4.out HK3.out).mono ?_
  rintro e w4 ⟨rfl, hk⟩
  have HK4 := hid hk
  clear hk HK3
  go_wp2_with fail
  refine (H5.out HK4.out).mono ?_
  rintro e w5 ⟨rfl, hk⟩
  have HK5 := hid hk
  clear hk HK4
  go_wp2_with fail
  refine (H6.out HK5.out).mono ?_
  rintro e w6 ⟨rfl, hk⟩
  have HK6 := hid hk
  clear hk HK5
  go_wp2_with fail
  refine (H7.out HK6.out).mono ?_
  rintro e w7 ⟨rfl, hk⟩
  have HK7 := hid hk
  clear hk HK6
  go_wp2_with fail
  refine (H8.out HK7.out).mono ?_
  rintro e w8 ⟨rfl, hk⟩
  have HK8 := hid hk
  clear hk HK7
  go_wp2
  go_ret
  exact ⟨by simp, HK8.out⟩
theorem f_awake (w : World) : Calls Try.prog 11 #[] w fun e w' => e = .returned (.bool true) ∧ Fr (fun _ => False) w w' := (awake_any (K.start w)).mono fun _ _ ⟨h, k⟩ => ⟨h, k.fr⟩
theorem f_of (a b : Int) (w : World) : Calls Try.prog 9 #[.int .i64 a, .int .i64 b] w fun e w' => e = .returned (.tuple #[.complex .f64 (fb (okA a b)) (fb (okB a b)), .int .i64 (okE a b)]) ∧ Fr (fun _ => False) w w' := (s_of a b w).mono fun _ _ ⟨h, k⟩ => ⟨h, frOf k⟩
theorem f_plus {a b c d : Int} (h : Rt a b) (k : Rt c d) (w : World) : Calls Try.prog 13 #[.complex .f64 (fb a) (fb b), .complex .f64 (fb c) (fb d)] w fun e w' => e = .returned (.tuple #[.complex .f64 (fb (okA (a + c) (b + d))) (fb (okB (a + c) (b + d))), .int .i64 (okE (a + c) (b + d))]) ∧ Fr (fun _ => False) w w' := (s_plus h k w).mono fun _ _ ⟨h, k⟩ => ⟨h, frOf k⟩
theorem f_less {a b c d : Int} (h : Rt a b) (k : Rt c d) (w : World) : Calls Try.prog 15 #[.complex .f64 (fb a) (fb b), .complex .f64 (fb c) (fb d)] w fun e w' => e = .returned (.tuple #[.complex .f64 (fb (okA (a - c) (b - d))) (fb (okB (a - c) (b - d))), .int .i64 (okE (a - c) (b - d))]) ∧ Fr (fun _ => False) w w' := (s_less h k w).mono fun _ _ ⟨h, k⟩ => ⟨h, frOf k⟩
theorem f_times {a b : Int} (h : Rt a b) (n : Int) (w : World) : Calls Try.prog 17 #[.complex .f64 (fb a) (fb b), .int .i64 n] w fun e w' => e = .returned (.tuple #[.complex .f64 (fb (okA (tim a n) (tim b n))) (fb (okB (tim a n) (tim b n))), .int .i64 (okE (tim a n) (tim b n))]) ∧ Fr (fun _ => False) w w' := (s_times h n w).mono fun _ _ ⟨h, k⟩ => ⟨h, frOf k⟩
theorem f_fits {a b c d : Int} (h : Rt a b) (k : Rt c d) (w : World) : Calls Try.prog 19 #[.complex .f64 (fb a) (fb b), .complex .f64 (fb c) (fb d)] w fun e w' => e = .returned (.bool (decide (a ≤ c ∧ b ≤ d))) ∧ Fr (fun _ => False) w w' := (s_fits h k w).mono fun _ _ ⟨h, k⟩ => ⟨h, frOf k⟩
end Go.Proofs.Ytcocdbekahokaaa
