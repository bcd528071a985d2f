/-
  What the calls of package colour do to a page.
-/
import Derived.Test.YtcekpaicccmhkaaDoorCoCallsA
namespace Go.Proofs.YtcekpaicccmhkaaDoor
open Go.RowKit

section
variable {w w' : World} {a k : Nat} {Z : Nat → Prop} {has : List Bool}
/-- A page's shelf has turned: so has the map. -/
theorem Cj.page {g cap m : Nat} {A B : Nat → Nat} (h1 : Cj w 1 a (.slice (some ⟨g, 0, none⟩) k cap) m k A B (colL k m has)) (h2 : has.length = m * k) (h3 : 0 < k) (h4 : k ≤ 32) (h5 : has.length ≤ 4096) (h6 : ∀ x, Blk a (.slice (some ⟨g, 0, none⟩) k cap) k A B x → Z x) (h7 : ∀ x, Z x → x < w.heap.size)
    {p : Nat} (hp : p < has.length) (b : Bool) (hs : Sf.Sh w' (A (p % k)) (B (p % k)) ((colL k m has (p % k)).set (p / k) b)) (f : Fr (fun i => i = B (p % k)) w w') : Cm w' a Z k (has.set p b) ∧ Fr Z w w' := by
  have hc := Nat.mod_lt p h3
  refine ⟨⟨g, cap, m, A, B, (h1.turn hc hs f).congr fun i hi => ?_, by simpa using h2, h3, h4, by simpa using h5, h6, fun x hx => by have := h7 x hx; have := f.size; omega⟩, f.mono fun x _ e => h6 x (.inr (.inr ⟨p % k, hc, .inr e⟩))⟩
  rw [colL_set b h3 h2 (by omega) hi]
  unfold upd
  split
  · rename_i e; rw [if_pos e.symm, e]
  · rename_i e; rw [if_neg (fun e2 => e e2.symm)]
theorem getD_in (p : Nat) (hp : p < has.length) : has.getD p true = has.getD p false := by
  rw [List.getD_eq_getElem?_getD, List.getD_eq_getElem?_getD, List.getElem?_eq_getElem hp]; rfl
theorem c_taken (h : Cm w a Z k has) (p : Int) : Calls Tryd.prog 20 #[.pointer (some ⟨a, 0, none⟩), .int .i64 p] w fun e w' => e = .returned (.bool (isT has p)) ∧ Cm w' a Z k has ∧ Fr (fun _ => False) w w' := by
  have HH := hid h
  have HT := hid (c_there h p)
  by_cases hp : 0 ≤ p ∧ p < has.length
  · obtain ⟨q, rfl⟩ : ∃ q : Nat, p = (q : Int) := ⟨p.toNat, by omega⟩
    have hq : q < has.length := by omega
    rw [decide_eq_true hp] at HT
    have HC := h
    obtain ⟨g, cap, m, A, B, h1, h2, h3, h4, h5, h6, h7⟩ := h
    have H2 := hid fun n => c_find (HC.drewN n) (h1.kept ((Fr.refl (fun _ => False) w).drewN n)) q hq h3 h4 h5
    have hc := Nat.mod_lt q h3
    have H3 := hid fun n => Sf.s_taken ((h1.sh (q % k) hc).drewN n) ((q / k : Nat) : Int)
    rw [col_isT h3 h2 hq, getD_in q hq] at H3
    have e1 : Hid (isT has (q : Int) = has.getD q false) := by show _ = _; unfold isT; rw [decide_eq_true hp, Bool.true_and, Int.toNat_natCast]
    generalize has.getD q false = r at *
    generalize isT has (q : Int) = v at *
    generalize A (q % k) = x at *
    generalize q / k = y at *
    clear h1 h6 h7 hp hc h2 h3 h4 h5 hq HC
    go_enter Tryd.func20, Tryd.ntmps20
    go_wp2_with fail
    refine HT.out.mono ?_
    rintro e w1 ⟨rfl, n1, rfl⟩
    go_wp2_with fail
    refine (H2.out n1).mono ?_
    rintro e w2 ⟨rfl, n2, rfl⟩
    go_wp2_with fail
    refine (H3.out (n1 + n2)).mono ?_
    rintro e w3 ⟨rfl, n3, rfl⟩
    go_wp2
    go_ret
    refine ⟨by rw [e1.out]; simp, ?_⟩
    have f := (Fr.refl (fun _ => False) w).drewN (n1 + n2 + n3)
    exact ⟨HH.out.kept f, f⟩
  · have e1 : Hid (isT has p = false) := by show _ = _; unfold isT; rw [decide_eq_false hp, Bool.false_and]
    rw [decide_eq_false hp] at HT
    generalize isT has p = v at *
    clear h hp
    go_enter Tryd.func20, Tryd.ntmps20
    go_wp2_with fail
    refine HT.out.mono ?_
    rintro e w1 ⟨rfl, n1, rfl⟩
    go_wp2
    go_ret
    exact ⟨by rw [e1.out]; simp, HH.out.drewN n1, (Fr.refl _ w).drewN n1⟩
theorem c_give (h : Cm w a Z k has) (p : Int) : Calls Tryd.prog 15 #[.pointer (some ⟨a, 0, none⟩), .int .i64 p] w fun e w' => e = .returned (.int .i64 (giE has p)) ∧ Cm w' a Z k (giS has p) ∧ Fr Z w w' := by
  have HH := hid h
  have HT := hid (c_there h p)
  by_cases hp : 0 ≤ p ∧ p < has.length
  · obtain ⟨q, rfl⟩ : ∃ q : Nat, p = (q : Int) := ⟨p.toNat, by omega⟩
    have hq : q < has.length := by omega
    rw [decide_eq_true hp] at HT
    have HC := h
    obtain ⟨g, cap, m, A, B, h1, h2, h3, h4, h5, h6, h7⟩ := h
    have H2 := hid fun n => c_find (HC.drewN n) (h1.kept ((Fr.refl (fun _ => False) w).drewN n)) q hq h3 h4 h5
    have hc := Nat.mod_lt q h3
    have H3 := hid fun n => Sf.s_give ((h1.sh (q % k) hc).drewN n) ((q / k : Nat) : Int)
    have e1 : Hid (Sf.giE (colL k m has (q % k)) ((q / k : Nat) : Int) = giE has (q : Int)) := by
      show _ = _
      unfold Sf.giE giE
      rw [col_hasN h3 h2 hq, if_pos rfl, col_isT h3 h2 hq, getD_in q hq, if_pos hp, Int.toNat_natCast]
    have e2 : Sf.giS (colL k m has (q % k)) ((q / k : Nat) : Int) = (colL k m has (q % k)).set (q / k) false := by
      unfold Sf.giS
      rw [col_hasN h3 h2 hq, if_pos rfl, Int.toNat_natCast]
    have e3 : giS has (q : Int) = has.set q false := by unfold giS; rw [if_pos hp, Int.toNat_natCast]
    have HP := hid fun n (w' : World) => (h1.kept ((Fr.refl (fun _ => False) w).drewN n)).page (Z := Z) (w' := w') h2 h3 h4 h5 h6 h7 hq false
    rw [e2] at H3
    rw [e3]
    generalize (colL k m has (q % k)).set (q / k) false = l at *
    generalize Sf.giE (colL k m has (q % k)) ((q / k : Nat) : Int) = E at *
    generalize A (q % k) = x at *
    generalize q / k = y at *
    clear h1 h6 h7 hp hc h2 h3 h4 h5 hq HC e2 e3 HH
    go_enter Tryd.func15, Tryd.ntmps15
    go_wp2_with fail
    refine HT.out.mono ?_
    rintro e w1 ⟨rfl, n1, rfl⟩
    go_wp2_with fail
    refine (H2.out n1).mono ?_
    rintro e w2 ⟨rfl, n2, rfl⟩
    go_wp2_with fail
    refine (H3.out (n1 + n2)).mono ?_
    rintro e w3 ⟨rfl, hs3, f3⟩
    have HR := hid (HP.out (n1 + n2) w3 hs3 f3)
    clear hs3 f3
    go_wp2
    go_ret
    exact ⟨by rw [← e1.out]; simp, HR.out.1, Fr.trans ((Fr.refl Z w).drewN (n1 + n2)) HR.out.2⟩
  · have e1 : Hid (giE has p = 12) := by show _ = _; unfold giE; rw [if_neg hp]
    have e2 : giS has p = has := by unfold giS; rw [if_neg hp]
    rw [decide_eq_false hp] at HT
    rw [e2]
    generalize giE has p = v at *
    clear h hp e2
    go_enter Tryd.func15, Tryd.ntmps15
    go_wp2_with fail
    refine HT.out.mono ?_
    rintro e w1 ⟨rfl, n1, rfl⟩
    go_wp2
    go_ret
    exact ⟨by rw [e1.out]; simp, HH.out.drewN n1, (Fr.refl _ w).drewN n1⟩
end
end Go.Proofs.YtcekpaicccmhkaaDoor
