/-
  What the document's own table answers: Pieces.
-/
import Derived.Test.YtpmajadljlibbaaTaRefA
import Derived.Test.YtpmajadljlibbaaSpRow
namespace Go.Proofs.Ytpmajadljlibbaa
open Go.RowKit

section
variable {w wr : World} {y : Value} {L : List Sq}
theorem Gr3.rt (h : Gr3 w wr y L) {base q : Nat} {v : Value} {T : Tb} (k : Rtb w base q v T) : Rtb wr base q v T := k.carry h.fr (by have := k.ltr; omega) fun x e => by have := (k.row.lt x e).2; omega
end
set_option maxRecDepth 20000 in
theorem f_within (a n : Int) (w : World) : Calls Try.prog 34 #[.int .i64 a, .int .i64 n] w fun e w' => e = .returned (.bool (decide (InWt a n))) ∧ w' = w := by
  by_cases h0 : n < 0
  · rw [decide_eq_false (show ¬ InWt a n by omega)]
    go_enter Try.func34, Try.ntmps34
    go_wp2
    go_ret
    exact ⟨by simp, rfl⟩
  by_cases h1 : a < 131072
  · rw [decide_eq_false (show ¬ InWt a n by omega)]
    go_enter Try.func34, Try.ntmps34
    go_wp2
    go_ret
    exact ⟨by simp, rfl⟩
  by_cases h2 : 3276800 < a
  · rw [decide_eq_false (show ¬ InWt a n by omega)]
    go_enter Try.func34, Try.ntmps34
    go_wp2
    go_ret
    exact ⟨by simp, rfl⟩
  have t1 : IntKind.i64.wrap (3276800 - a) = 3276800 - a := by rw [IntKind.wrap_i64]; omega
  have e1 : decide (InWt a n) = decide (n ≤ 3276800 - a) := decide_eq_decide.2 (by omega)
  rw [e1]
  clear e1
  go_enter Try.func34, Try.ntmps34
  go_wp2
  go_ret
  exact ⟨by simp, rfl⟩
end Go.Proofs.Ytpmajadljlibbaa
