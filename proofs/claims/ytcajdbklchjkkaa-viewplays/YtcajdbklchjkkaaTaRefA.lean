/-
  What the document's own table answers: Find, Holder, All.
-/
import Derived.Test.YtcajdbklchjkkaaTaApp
namespace Go.Proofs.Ytcajdbklchjkkaa
open Go.RowKit

theorem tbF_snoc : ∀ (L : Tb) (x : Int × Int) (v : Int), (∀ y ∈ L, y.1 ≠ v) → tbF (L ++ [x]) v = if x.1 = v then x.2 else -1
  | [], x, v, _ => rfl
  | y :: r, x, v, h => by
    rw [List.cons_append]
    unfold tbF
    rw [if_neg (h y (by simp)), tbF_snoc r x v fun z hz => h z (List.mem_cons_of_mem _ hz)]
/-- None so far: the first one that has it tells. -/
theorem tbF_here : ∀ (T : Tb) (v : Int) (j : Nat) (h : j < T.length), (∀ y ∈ T.take j, y.1 ≠ v) → T[j].1 = v → tbF T v = T[j].2
  | x :: r, v, 0, _, _, e => by
    have e : x.1 = v := e
    unfold tbF; rw [if_pos e]; rfl
  | x :: r, v, j + 1, h, hn, e => by
    unfold tbF
    rw [if_neg (hn x (by simp)), tbF_here r v j (by simpa using h) (fun y hy => hn y (by simp [hy])) (by simpa using e)]
    rfl
theorem tbF_no : ∀ (T : Tb) (v : Int), (∀ y ∈ T, y.1 ≠ v) → tbF T v = -1
  | [], _, _ => rfl
  | x :: r, v, h => by unfold tbF; rw [if_neg (h x (by simp)), tbF_no r v fun y hy => h y (List.mem_cons_of_mem _ hy)]
theorem tbH_here : ∀ (T : Tb) (p : Int) (j : Nat) (h : j < T.length), (∀ y ∈ T.take j, y.2 ≠ p) → T[j].2 = p → tbH T p = T[j].1
  | x :: r, p, 0, _, _, e => by
    have e : x.2 = p := e
    unfold tbH; rw [if_pos e]; rfl
  | x :: r, p, j + 1, h, hn, e => by
    unfold tbH
    rw [if_neg (hn x (by simp)), tbH_here r p j (by simpa using h) (fun y hy => hn y (by simp [hy])) (by simpa using e)]
    rfl
theorem tbH_no : ∀ (T : Tb) (p : Int), (∀ y ∈ T, y.2 ≠ p) → tbH T p = -1
  | [], _, _ => rfl
  | x :: r, p, h => by unfold tbH; rw [if_neg (h x (by simp)), tbH_no r p fun y hy => h y (List.mem_cons_of_mem _ hy)]
section
variable {w : World} {base q : Nat} {v : Value} {T : Tb}
set_option maxRecDepth 20000 in
theorem f_find (h : Rtb w base q v T) (x : Int) : Calls Try.prog 53 #[.pointer (some ⟨q, 0, none⟩), .int .i64 x] w fun e w' => e = .returned (.int .i64 (tbF T x)) ∧ Fr (fun _ => False) w w' := by
  have HR := hid h
  have hlen := h.len
  obtain ⟨ad, cap, rfl, _⟩ := h.form
  clear h
  go_enter Try.func53, Try.ntmps53
  go_wp2
  go_loopw [5] (fun i wr => ∃ j : Nat, j ≤ T.length ∧ i = .int .i64 j ∧ Hid (∀ y ∈ T.take j, y.1 ≠ x) ∧ Hid (Fr (fun _ => False) w wr)) (fun i _ => T.length - (intOf i).toNat)
  case atStart => exact ⟨0, by omega, rfl, fun y hy => by simp at hy, Fr.refl _ _⟩
  case round =>
    obtain ⟨j, hj, rfl, HN, HF⟩ := hrel
    have HR2 := hid (HR.out.kept HF.out)
    have c0 := HR2.out.c0
    by_cases hlt : j < T.length
    · obtain ⟨g, cap', e, x0, x1⟩ := HR2.out.cells j hlt
      simp only [Value.slice.injEq] at e
      obtain ⟨rfl, _, rfl⟩ := e
      have HT := hid (List.take_succ_eq_append_getElem hlt)
      by_cases hx : T[j].1 = x
      · have HE := hid (tbF_here T x j hlt HN.out hx)
        have hb : (T[j].1 == x) = true := by simpa using hx
        have HF2 := hid (fun n => HF.out.drewN n)
        clear HN HT HF HR HR2
        generalize T[j].2 = y2 at *
        generalize T[j].1 = y1 at *
        subst hx
        go_wp2
        go_ret
        exact ⟨by rw [HE.out]; simp, HF2.out 0⟩
      · have HN2 : Hid (∀ y ∈ T.take (j + 1), y.1 ≠ x) := fun y hy => by
          rw [HT.out, List.mem_append, List.mem_singleton] at hy
          rcases hy with hy | rfl
          · exact HN.out y hy
          · exact hx
        have HF2 := hid (fun n => HF.out.drewN n)
        clear HN HT HF HR HR2
        generalize T[j].2 = y2 at *
        generalize T[j].1 = y1 at *
        go_wp2
        go_roundw
        case rel => exact ⟨j + 1, by omega, by go_num, HN2, HF2.out 0⟩
        case measure => simp [intOf]; omega
    · obtain rfl : T.length = j := by omega
      have hn := HN.out
      rw [List.take_length] at hn
      have HE := hid (tbF_no T x hn)
      clear HN hn HR HR2
      go_wp2
      go_ret
      exact ⟨by rw [HE.out]; simp, HF.out⟩
set_option maxRecDepth 20000 in
theorem f_holder (h : Rtb w base q v T) (x : Int) : Calls Try.prog 54 #[.pointer (some ⟨q, 0, none⟩), .int .i64 x] w fun e w' => e = .returned (.int .i64 (tbH T x)) ∧ Fr (fun _ => False) w w' := by
  have HR := hid h
  have hlen := h.len
  obtain ⟨ad, cap, rfl, _⟩ := h.form
  clear h
  go_enter Try.func54, Try.ntmps54
  go_wp2
  go_loopw [5] (fun i wr => ∃ j : Nat, j ≤ T.length ∧ i = .int .i64 j ∧ Hid (∀ y ∈ T.take j, y.2 ≠ x) ∧ Hid (Fr (fun _ => False) w wr)) (fun i _ => T.length - (intOf i).toNat)
  case atStart => exact ⟨0, by omega, rfl, fun y hy => by simp at hy, Fr.refl _ _⟩
  case round =>
    obtain ⟨j, hj, rfl, HN, HF⟩ := hrel
    have HR2 := hid (HR.out.kept HF.out)
    have c0 := HR2.out.c0
    by_cases hlt : j < T.length
    · obtain ⟨g, cap', e, x0, x1⟩ := HR2.out.cells j hlt
      simp only [Value.slice.injEq] at e
      obtain ⟨rfl, _, rfl⟩ := e
      have HT := hid (List.take_succ_eq_append_getElem hlt)
      by_cases hx : T[j].2 = x
      · have HE := hid (tbH_here T x j hlt HN.out hx)
        have HF2 := hid (fun n => HF.out.drewN n)
        clear HN HT HF HR HR2
        generalize T[j].2 = y2 at *
        generalize T[j].1 = y1 at *
        subst hx
        go_wp2
        go_ret
        exact ⟨by rw [HE.out]; simp, HF2.out 0⟩
      · have HN2 : Hid (∀ y ∈ T.take (j + 1), y.2 ≠ x) := fun y hy => by
          rw [HT.out, List.mem_append, List.mem_singleton] at hy
          rcases hy with hy | rfl
          · exact HN.out y hy
          · exact hx
        have HF2 := hid (fun n => HF.out.drewN n)
        clear HN HT HF HR HR2
        generalize T[j].2 = y2 at *
        generalize T[j].1 = y1 at *
        go_wp2
        go_roundw
        case rel => exact ⟨j + 1, by omega, by go_num, HN2, HF2.out 0⟩
        case measure => simp [intOf]; omega
    · obtain rfl : T.length = j := by omega
      have hn := HN.out
      rw [List.take_length] at hn
      have HE := hid (tbH_no T x hn)
      clear HN hn HR HR2
      go_wp2
      go_ret
      exact ⟨by rw [HE.out]; simp, HF.out⟩
end
section
variable {W w : World} {ts : List (World → (Nat → Prop) → Prop)} {base q : Nat} {T : Tb}
theorem y_find (h : Things W w ts) (j : Nat) (hj : ts[j]? = some (Dt base q T)) (x : Int) : Calls Try.prog 53 #[.pointer (some ⟨q, 0, none⟩), .int .i64 x] w fun e w' => e = .returned (.int .i64 (tbF T x)) ∧ Things W w' ts := h.ask j hj fun _ ⟨_, h1, _⟩ => f_find h1 x
theorem y_holder (h : Things W w ts) (j : Nat) (hj : ts[j]? = some (Dt base q T)) (x : Int) : Calls Try.prog 54 #[.pointer (some ⟨q, 0, none⟩), .int .i64 x] w fun e w' => e = .returned (.int .i64 (tbH T x)) ∧ Things W w' ts := h.ask j hj fun _ ⟨_, h1, _⟩ => f_holder h1 x
end
end Go.Proofs.Ytcajdbklchjkkaa
