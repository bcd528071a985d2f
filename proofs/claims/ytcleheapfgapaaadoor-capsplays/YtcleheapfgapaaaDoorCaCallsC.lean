/-
  What the calls of package caps do: Find.
-/
import Derived.Test.YtcleheapfgapaaaDoorCaCallsB
namespace Go.Proofs.YtcleheapfgapaaaDoor
open Go.RowKit

theorem go_some {c : Ct} {b : Int} {x : Sl} (h : look c b = some x) : goA c b = x.a ∧ goR c b = x.r ∧ goN c b = x.n ∧ goE c b = 0 := by
  unfold goA goR goN goE; rw [h]; exact ⟨rfl, rfl, rfl, rfl⟩
section
variable {w : World} {a o ob s sb : Nat} {c : Ct}
theorem Kt.good (h : Kt w a o ob s sb c) {b : Int} (b0 : 0 ≤ b) (b1 : b ≤ 18446744073709551615) : Calls Tryd.prog 28 #[.pointer (some ⟨a, 0, none⟩), .int .u64 b] w fun e w' => e = .returned (.tuple #[.agg #[.int .i64 (goA c b), .int .i64 (goR c b), .int .i64 (goN c b)], .int .i64 (goE c b)]) ∧ Kt w' a o ob s sb c ∧ Fr (fun _ => False) w w' :=
  (k_good h b0 b1).mono fun _ _ ⟨he, f⟩ => ⟨he, h.kept f, f⟩
set_option maxRecDepth 20000 in
theorem k_find (h : Kt w a o ob s sb c) {b : Int} (b0 : 0 ≤ b) (b1 : b ≤ 18446744073709551615) {q : Int} (hq : -9223372036854775808 ≤ q ∧ q ≤ 9223372036854775807) : Calls Tryd.prog 15 #[.pointer (some ⟨a, 0, none⟩), .int .u64 b, .int .i64 q] w fun e w' => e = .returned (.tuple #[.int .i64 (fiV c b q), .int .i64 (fiE c b q)]) ∧ Fr (fun _ => False) w w' := by
  have HG := hid (h.good b0 b1)
  cases hl : look c b with
  | none =>
    have e1 : fiV c b q = 0 := by unfold fiV; rw [hl]
    have e2 : fiE c b q = 5 := by unfold fiE; rw [hl]
    obtain ⟨g1, g2, g3, g4⟩ := go_none hl
    rw [g1, g2, g3, g4] at HG
    rw [e1, e2]
    clear h g1 g2 g3 g4 e1 e2 hl b0 b1 hq
    go_enter Tryd.func15, Tryd.ntmps15
    go_wp2_with fail
    refine HG.out.mono ?_
    rintro e w1 ⟨rfl, _, f1⟩
    have F1 := hid f1
    clear f1 HG
    go_wp2
    go_ret2
    exact ⟨by simp, F1.out.alloc _⟩
  | some x =>
    have hx := h.ok.kr x (look_mem hl).1
    have HH := hid fun w => k_has x.a x.r x.n q w
    rw [andNot_sub (by have := hx.1; unfold KR at this; omega) hq] at HH
    obtain ⟨g1, g2, g3, g4⟩ := go_some hl
    rw [g1, g2, g3, g4] at HG
    have e1 : fiV c b q = if fiOk x q then x.a else 0 := by unfold fiV; rw [hl]
    have e2 : fiE c b q = if fiOk x q then 0 else 5 := by unfold fiE; rw [hl]
    rw [e1, e2]
    clear h g1 g2 g3 g4 e1 e2 hl b0 b1 hq hx
    obtain ⟨xs, xr, xn, xa⟩ := x
    dsimp only at HG HH ⊢
    by_cases hf : fiOk ⟨xs, xr, xn, xa⟩ q
    · rw [decide_eq_true hf] at HH
      rw [if_pos hf, if_pos hf]
      clear hf
      go_enter Tryd.func15, Tryd.ntmps15
      go_wp2_with fail
      refine HG.out.mono ?_
      rintro e w1 ⟨rfl, _, f1⟩
      have F1 := hid f1
      have P1 := hid (Hb.new w1 65 xa xr xn)
      clear f1 HG
      have c0 := P1.out.c0
      have c1 := P1.out.c1
      have c2 := P1.out.c2
      go_wp2_with fail
      refine (HH.out _).mono ?_
      rintro e w2 ⟨rfl, f2⟩
      have P2 := hid (P1.out.carry f2 id)
      have F2 := hid ((F1.out.alloc _).trans f2)
      clear f2 HH P1 F1 c0 c1 c2
      have c0 := P2.out.c0
      go_wp2
      go_ret2
      exact ⟨by simp, F2.out⟩
    · rw [decide_eq_false hf] at HH
      rw [if_neg hf, if_neg hf]
      clear hf
      go_enter Tryd.func15, Tryd.ntmps15
      go_wp2_with fail
      refine HG.out.mono ?_
      rintro e w1 ⟨rfl, _, f1⟩
      have F1 := hid f1
      have P1 := hid (Hb.new w1 65 xa xr xn)
      clear f1 HG
      have c0 := P1.out.c0
      have c1 := P1.out.c1
      have c2 := P1.out.c2
      go_wp2_with fail
      refine (HH.out _).mono ?_
      rintro e w2 ⟨rfl, f2⟩
      have F2 := hid ((F1.out.alloc _).trans f2)
      clear f2 HH P1 F1 c0 c1 c2
      go_wp2
      go_ret2
      exact ⟨by simp, F2.out⟩
end
end Go.Proofs.YtcleheapfgapaaaDoor
