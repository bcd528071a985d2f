/-
  What the calls of package colour do that ask of one page or of none: contracts, at the landed code.
-/
import Derived.Test.YtcekpaicccmhkaaDoorCoShelf
namespace Go.Proofs.YtcekpaicccmhkaaDoor
open Go.RowKit

theorem c_check (n k : Int) (w : World) : Calls Tryd.prog 11 #[.agg #[.int .i64 n, .int .i64 k]] w fun e w' => e = .returned (.int .i64 (if Cfg n k then 0 else 12)) ∧ Fr (fun _ => False) w w' := by
  have A := Cf.new w n k
  have c0 := A.c0
  have c1 := A.c1
  clear A
  by_cases h1 : 1 ≤ k
  · by_cases h2 : k ≤ 32
    · by_cases h3 : 1 ≤ n
      · by_cases h4 : n ≤ 4096
        · have hmod : Int.tmod n k = n % k := Int.tmod_eq_emod_of_nonneg (by omega)
          have hz : (k == 0) = false := by simp; omega
          have m0 := Int.emod_nonneg n (show k ≠ 0 by omega)
          have m1 := Int.emod_lt_of_pos n (show 0 < k by omega)
          have hw0 : IntKind.i64.wrap (n % k) = n % k := by rw [IntKind.wrap_i64]; omega
          by_cases h5 : n % k = 0
          · have he : Hid ((if Cfg n k then (0 : Int) else 12) = 0) := if_pos ⟨h1, h2, h3, h4, h5⟩
            generalize (if Cfg n k then (0 : Int) else 12) = v at *
            generalize n % k = q at *
            subst h5
            go_enter Tryd.func11, Tryd.ntmps11
            go_wp2
            go_ret
            exact ⟨by rw [he.out]; simp, (Fr.refl _ _).alloc _⟩
          · have he : Hid ((if Cfg n k then (0 : Int) else 12) = 12) := if_neg fun h => h5 h.2.2.2.2
            have hq : (n % k == 0) = false := by simpa using h5
            generalize (if Cfg n k then (0 : Int) else 12) = v at *
            generalize n % k = q at *
            go_enter Tryd.func11, Tryd.ntmps11
            go_wp2
            go_ret
            exact ⟨by rw [he.out]; simp, (Fr.refl _ _).alloc _⟩
        · have he : Hid ((if Cfg n k then (0 : Int) else 12) = 12) := if_neg fun h => h4 h.2.2.2.1
          generalize (if Cfg n k then (0 : Int) else 12) = v at *
          go_enter Tryd.func11, Tryd.ntmps11
          go_wp2
          go_ret
          exact ⟨by rw [he.out]; simp, (Fr.refl _ _).alloc _⟩
      · have he : Hid ((if Cfg n k then (0 : Int) else 12) = 12) := if_neg fun h => h3 h.2.2.1
        generalize (if Cfg n k then (0 : Int) else 12) = v at *
        go_enter Tryd.func11, Tryd.ntmps11
        go_wp2
        go_ret
        exact ⟨by rw [he.out]; simp, (Fr.refl _ _).alloc _⟩
    · have he : Hid ((if Cfg n k then (0 : Int) else 12) = 12) := if_neg fun h => h2 h.2.1
      generalize (if Cfg n k then (0 : Int) else 12) = v at *
      go_enter Tryd.func11, Tryd.ntmps11
      go_wp2
      go_ret
      exact ⟨by rw [he.out]; simp, (Fr.refl _ _).alloc _⟩
  · have he : Hid ((if Cfg n k then (0 : Int) else 12) = 12) := if_neg fun h => h1 h.1
    generalize (if Cfg n k then (0 : Int) else 12) = v at *
    go_enter Tryd.func11, Tryd.ntmps11
    go_wp2
    go_ret
    exact ⟨by rw [he.out]; simp, (Fr.refl _ _).alloc _⟩
section
variable {w w' : World} {a k : Nat} {Z : Nat → Prop} {has : List Bool}
theorem c_there (h : Cm w a Z k has) (p : Int) : Calls Tryd.prog 31 #[.pointer (some ⟨a, 0, none⟩), .int .i64 p] w fun e w' => e = .returned (.bool (decide (0 ≤ p ∧ p < has.length))) ∧ ∃ n, w' = w.drewN n := by
  obtain ⟨g, cap, m, A, B, h1, h2, h3, h4, h5, h6, h7⟩ := h
  have c0 := h1.c0
  have c1 := h1.c1
  have hmul : (m : Int) * (k : Int) = (has.length : Int) := by rw [h2]; simp
  have hw0 : IntKind.i64.wrap (has.length : Int) = (has.length : Int) := by rw [IntKind.wrap_i64]; omega
  clear h1 h2 h6 h7
  generalize has.length = n at *
  by_cases hp : 0 ≤ p
  · have hd : decide (0 ≤ p) = true := decide_eq_true hp
    go_enter Tryd.func31, Tryd.ntmps31
    go_wp2
    go_quiet (simp only [hmul, hw0])
    go_wp2
    go_ret
    exact ⟨by simp [hp], nq, rfl⟩
  · have hd : decide (0 ≤ p) = false := decide_eq_false hp
    go_enter Tryd.func31, Tryd.ntmps31
    go_wp2
    go_quiet (fail)
    go_wp2
    go_ret
    exact ⟨by simp; omega, nq, rfl⟩
theorem Cm.drewN (h : Cm w a Z k has) (n : Nat) : Cm (w.drewN n) a Z k has := h.kept ((Fr.refl _ w).drewN n)
theorem c_colour' (h : Cm w a Z k has) (p : Int) : Calls Tryd.prog 22 #[.pointer (some ⟨a, 0, none⟩), .int .i64 p] w fun e w' => e = .returned (.int .i64 (colI has.length k p)) ∧ ∃ n, w' = w.drewN n := by
  have HT := hid (c_there h p)
  have HD := hid fun n => h.drewN n
  by_cases hp : 0 ≤ p ∧ p < has.length
  · have e1 : Hid (colI has.length k p = ((p.toNat % k : Nat) : Int)) := if_pos hp
    rw [decide_eq_true hp] at HT
    obtain ⟨g, cap, m, A, B, h1, h2, h3, h4, h5, h6, h7⟩ := h
    have c1 := fun n => (h1.kept ((Fr.refl (fun _ => False) w).drewN n)).c1
    obtain ⟨q, rfl⟩ : ∃ q : Nat, p = (q : Int) := ⟨p.toNat, by omega⟩
    have hz : ((k : Int) == 0) = false := by simp; omega
    have hmod : Int.tmod (q : Int) (k : Int) = ((q % k : Nat) : Int) := by rw [Int.tmod_eq_emod_of_nonneg (by omega)]; simp
    have hlt := Nat.mod_lt q h3
    have hw0 : IntKind.i64.wrap ((q % k : Nat) : Int) = ((q % k : Nat) : Int) := by rw [IntKind.wrap_i64]; omega
    rw [Int.toNat_natCast] at e1
    generalize colI has.length k (q : Int) = v at *
    generalize q % k = r at *
    clear h1 h2 h6 h7 hp
    go_enter Tryd.func22, Tryd.ntmps22
    go_wp2_with fail
    refine HT.out.mono ?_
    rintro e w1 ⟨rfl, n1, rfl⟩
    have c1' := c1 n1
    go_wp2
    go_ret
    exact ⟨by rw [e1.out]; simp, n1, rfl⟩
  · have e1 : Hid (colI has.length k p = -1) := if_neg hp
    rw [decide_eq_false hp] at HT
    generalize colI has.length k p = v at *
    clear h hp
    go_enter Tryd.func22, Tryd.ntmps22
    go_wp2_with fail
    refine HT.out.mono ?_
    rintro e w1 ⟨rfl, n1, rfl⟩
    go_wp2
    go_ret
    exact ⟨by rw [e1.out]; simp, n1, rfl⟩
theorem c_colour (h : Cm w a Z k has) (p : Int) : Calls Tryd.prog 22 #[.pointer (some ⟨a, 0, none⟩), .int .i64 p] w fun e w' => e = .returned (.int .i64 (colI has.length k p)) ∧ Cm w' a Z k has ∧ Fr (fun _ => False) w w' :=
  (c_colour' h p).mono fun _ _ ⟨he, hn⟩ => ⟨he, h.kept (frOf hn), frOf hn⟩
theorem c_each (h : Cm w a Z k has) : Calls Tryd.prog 24 #[.pointer (some ⟨a, 0, none⟩)] w fun e w' => e = .returned (.int .i64 (has.length / k : Nat)) ∧ Cm w' a Z k has ∧ Fr (fun _ => False) w w' := by
  have HH := hid h
  obtain ⟨g, cap, m, A, B, h1, h2, h3, h4, h5, h6, h7⟩ := h
  have c0 := h1.c0
  have e1 : has.length / k = m := by rw [h2]; exact Nat.mul_div_cancel _ h3
  rw [e1]
  clear h1 h6 h7 h2 e1 h3 h4 h5
  go_enter Tryd.func24, Tryd.ntmps24
  go_wp2
  go_ret
  exact ⟨by simp, HH.out, Fr.refl _ _⟩
end
theorem c_take_nil (v : Value) (w : World) : Calls Tryd.prog 13 #[.pointer none, v] w fun e w' => e = .returned (.tuple #[.int .i64 0, .int .i64 11]) ∧ Fr (fun _ => False) w w' := by
  go_enter Tryd.func13, Tryd.ntmps13
  go_wp2
  go_ret2
  exact ⟨by simp, Fr.refl _ _⟩
theorem c_free_nil (v : Value) (w : World) : Calls Tryd.prog 18 #[.pointer none, v] w fun e w' => e = .returned (.int .i64 0) ∧ Fr (fun _ => False) w w' := by
  go_enter Tryd.func18, Tryd.ntmps18
  go_wp2
  go_ret
  exact ⟨by simp, Fr.refl _ _⟩
theorem c_give_nil (p : Int) (w : World) : Calls Tryd.prog 15 #[.pointer none, .int .i64 p] w fun e w' => e = .returned (.int .i64 11) ∧ Fr (fun _ => False) w w' := by
  go_enter Tryd.func15, Tryd.ntmps15
  go_wp2
  go_ret
  exact ⟨by simp, Fr.refl _ _⟩
theorem c_taken_nil (p : Int) (w : World) : Calls Tryd.prog 20 #[.pointer none, .int .i64 p] w fun e w' => e = .returned (.bool false) ∧ Fr (fun _ => False) w w' := by
  go_enter Tryd.func20, Tryd.ntmps20
  go_wp2
  go_ret
  exact ⟨by simp, Fr.refl _ _⟩
theorem c_colour_nil (p : Int) (w : World) : Calls Tryd.prog 22 #[.pointer none, .int .i64 p] w fun e w' => e = .returned (.int .i64 (-1)) ∧ Fr (fun _ => False) w w' := by
  go_enter Tryd.func22, Tryd.ntmps22
  go_wp2
  go_ret
  exact ⟨by simp, Fr.refl _ _⟩
theorem c_each_nil (w : World) : Calls Tryd.prog 24 #[.pointer none] w fun e w' => e = .returned (.int .i64 0) ∧ Fr (fun _ => False) w w' := by
  go_enter Tryd.func24, Tryd.ntmps24
  go_wp2
  go_ret
  exact ⟨by simp, Fr.refl _ _⟩
theorem c_copy_nil (w : World) : Calls Tryd.prog 17 #[.pointer none] w fun e w' => e = .returned (.pointer none) ∧ Fr (fun _ => False) w w' := by
  go_enter Tryd.func17, Tryd.ntmps17
  go_wp2
  go_ret
  exact ⟨by simp, Fr.refl _ _⟩
section
variable {w w' : World} {a k : Nat} {Z : Nat → Prop} {has : List Bool}
/-- A page's shelf, and which of its numbers it is. -/
theorem c_find (h : Cm w a Z k has) {g cap m : Nat} {A B : Nat → Nat} (h1 : Cj w 1 a (.slice (some ⟨g, 0, none⟩) k cap) m k A B (colL k m has)) (p : Nat) (hp : p < has.length) (hk : 0 < k) (hk2 : k ≤ 32) (h4 : has.length ≤ 4096) : Calls Tryd.prog 29 #[.pointer (some ⟨a, 0, none⟩), .int .i64 p] w fun e w' => e = .returned (.tuple #[.pointer (some ⟨A (p % k), 0, none⟩), .int .i64 (p / k : Nat)]) ∧ ∃ n, w' = w.drewN n := by
  have HT := hid fun n => c_colour' (h.drewN n) p
  rw [show colI has.length k (p : Int) = ((p % k : Nat) : Int) from (if_pos (by omega)).trans (by rw [Int.toNat_natCast])] at HT
  have hlt := Nat.mod_lt p hk
  have c1 := h1.c1
  have cg := h1.cg hlt
  have hz : ((k : Int) == 0) = false := by simp; omega
  have hdiv : Int.tdiv (p : Int) (k : Int) = ((p / k : Nat) : Int) := by rw [Int.tdiv_eq_ediv_of_nonneg (by omega)]; simp
  have hle : p / k ≤ p := Nat.div_le_self _ _
  generalize A (p % k) = x at *
  generalize p % k = r at *
  generalize p / k = q at *
  have hw0 : IntKind.i64.wrap (q : Int) = (q : Int) := by rw [IntKind.wrap_i64]; omega
  clear h h1
  go_enter Tryd.func29, Tryd.ntmps29
  go_wp2_with fail
  go_quiet (first | (go_at_call 22; refine Calls.quiet_of (HT.out _)))
  go_wp2
  go_ret2
  exact ⟨by simp, nq, rfl⟩
end
end Go.Proofs.YtcekpaicccmhkaaDoor
