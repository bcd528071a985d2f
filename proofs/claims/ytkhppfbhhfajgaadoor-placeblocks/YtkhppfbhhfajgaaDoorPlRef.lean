/-
  What the document's own Find answers.
-/
import Derived.Test.YtkhppfbhhfajgaaDoorPlRefA
import Derived.LoopTactic
namespace Go.Proofs.YtkhppfbhhfajgaaDoor
open Go.RowKit

theorem findR_none {a c : Int} (hc : c = a / 131072 - 1) (h : ∀ y z, PlT c y z → adI c y z ≠ a) : FindR a 0 0 0 4 := .inr ⟨rfl, ⟨rfl, rfl, rfl⟩, fun x y z h1 h2 => by
  have := (h1.of_addr h2).1
  subst hc
  subst this
  exact h y z h1 h2⟩
theorem findR_out {a : Int} (h : ¬ Win a) : FindR a 0 0 0 4 := .inr ⟨rfl, ⟨rfl, rfl, rfl⟩, fun _ _ _ h1 h2 => h (h1.of_addr h2).2⟩
/-- None of the slots below j has a block that begins there. -/
def Below1 (a c j : Int) : Prop := ∀ y z, PlT c y z → y < j → adI c y z ≠ a
theorem below1_next {a c j : Int} (h : Below1 a c j) (h2 : ∀ z, PlT c j z → adI c j z ≠ a) : Below1 a c (j + 1) := fun y z h1 hy => by
  by_cases e : y = j
  · subst e; exact h2 z h1
  · exact h y z h1 (by omega)
theorem below1_past {a c j : Int} (h : Below1 a c j) (hj : PlT c j 0) (h2 : a < adI c j 0) : ∀ y z, PlT c y z → adI c y z ≠ a := fun y z h1 e => by
  by_cases hy : y < j
  · exact h y z h1 hy e
  · by_cases e2 : y = j ∧ z = 0
    · obtain ⟨rfl, rfl⟩ := e2; omega
    · have := (hj.lt_iff h1).2 (by have := h1.2.2.1; omega)
      omega
theorem below1_all {a c : Int} (h : Below1 a c (slI c)) : ∀ y z, PlT c y z → adI c y z ≠ a := fun y z h1 => h y z h1 h1.2.1
theorem results_tmp4 {fn : Func} {t u v x : Tmp} (h : fn.results = #[.tmp t, .tmp u, .tmp v, .tmp x]) (tmps : Array Value) (P : Program) (w : World) :
    (results fn tmps).run P w = .ok (.tuple #[tmps.getD t undef, tmps.getD u undef, tmps.getD v undef, tmps.getD x undef]) w := by
  simp [results, h]
section
variable {w0 w : World}
set_option maxRecDepth 20000 in
set_option maxHeartbeats 4000000 in
theorem e_find_in {a : Int} (hw : Win a) (k : K w0 w) : Calls Tryd.prog 15 #[.int .i64 a] w fun e w' => ∃ c s n E, e = .returned (.tuple #[.int .i64 c, .int .i64 s, .int .i64 n, .bool (decide (E = 0))]) ∧ FindR a c s n E ∧ K w0 w' := by
  have HK0 := hid k
  clear k
  obtain ⟨c, hc⟩ : ∃ c, c = a / 131072 - 1 := ⟨_, rfl⟩
  have t1 : Int.tdiv a 131072 = c + 1 := by rw [Int.tdiv_eq_ediv_of_nonneg (by omega)]; omega
  have t2 : IntKind.i64.wrap (c + 1) = c + 1 := wI (by omega)
  have t3 : IntKind.i64.wrap (c + 1 - 1) = c := by rw [wI (by omega)]; omega
  have t4 := wI (x := c) (by omega)
  have c0 : 0 ≤ c := by omega
  have c1 : c ≤ 23 := by omega
  have a0 : 0 ≤ a := by omega
  have hf := pl_facts c0 c1
  have HS : Hid _ := fun w (q : K w0 w) => e_slots c q
  have HP : Hid _ := fun w (q : K w0 w) => r_per c q
  have HO : Hid (∀ j n : Int, PlT c j n → ∀ w, K w0 w → Calls Tryd.prog 11 #[.int .i64 c, .int .i64 j, .int .i64 n] w fun e w' => e = .returned (.int .i64 (adI c j n)) ∧ K w0 w') := fun j n h w q => e_of h q
  have HR : Hid (Below1 a c 0) := fun y z h1 h2 => absurd h1.1 (by omega)
  have HC := hid hc
  clear hc hw
  go_enter Tryd.func15, Tryd.ntmps15
  go_wp2
  go_loopw [7, 8] (fun i _ wr => ∃ j : Nat, i = .int .i64 j ∧ (j : Int) ≤ slI c ∧ Hid (Below1 a c j) ∧ Hid (K w0 wr)) (fun i _ _ => 256 - (intOf i).toNat)
  case atStart => exact ⟨0, rfl, by omega, HR, HK0⟩
  case round =>
    obtain ⟨j, rfl, hj, HB, HK1⟩ := hrel
    clear HR HK0
    by_cases hlt : (j : Int) < slI c
    case neg =>
      have HN := hid (findR_none HC.out (below1_all (fun y z h1 h2 => HB.out y z h1 (by omega))))
      generalize slI c = sl at *
      go_wp2_with fail
      refine (HS.out _ HK1.out).mono ?_
      rintro e w1 ⟨rfl, hk⟩
      have HK2 := hid hk
      clear hk HK1
      go_wp2
      (try simp only [Exit.inBlock, Exit.then]); refine bodyPost_ret (results_tmp4 rfl _ _ _) rfl ?_
      exact ⟨0, 0, 0, 4, by simp, HN.out, HK2.out⟩
    have hP0 : PlT c j 0 := by omega
    have HO0 := hid (HO.out j 0 hP0)
    by_cases hgt : a < adI c j 0
    · have HN := hid (findR_none HC.out (below1_past HB.out hP0 hgt))
      clear HO hP0 HB
      generalize adI c j 0 = x at *
      generalize slI c = sl at *
      go_wp2_with fail
      refine (HS.out _ HK1.out).mono ?_
      rintro e w1 ⟨rfl, hk⟩
      have HK2 := hid hk
      clear hk HK1
      go_wp2_with fail
      refine (HO0.out _ HK2.out).mono ?_
      rintro e w2 ⟨rfl, hk⟩
      have HK3 := hid hk
      clear hk HK2
      go_wp2
      (try simp only [Exit.inBlock, Exit.then]); refine bodyPost_ret (results_tmp4 rfl _ _ _) rfl ?_
      exact ⟨0, 0, 0, 4, by simp, HN.out, HK3.out⟩
    have HSL : Hid (slI c ≤ 256) := by have := hf.2.1; exact this.2.1
    have HX : Hid (¬ a < adI c j 0) := hgt
    generalize hx0 : adI c j 0 = x at *
    generalize hsl : slI c = sl at *
    go_wp2_with fail
    refine (HS.out _ HK1.out).mono ?_
    rintro e w1 ⟨rfl, hk⟩
    have HK2 := hid hk
    clear hk HK1
    go_wp2_with fail
    refine (HO0.out _ HK2.out).mono ?_
    rintro e w2 ⟨rfl, hk⟩
    have HK3 := hid hk
    clear hk HK2
    go_wp2
    go_loopw [8] (fun i wr => ∃ n : Nat, i = .int .i64 n ∧ (n : Int) ≤ nuI c ∧ Hid (∀ z, PlT c j z → z < n → adI c j z ≠ a) ∧ Hid (K w0 wr)) (fun i _ => 32 - (intOf i).toNat)
    case atStart => exact ⟨0, rfl, by omega, fun z h1 h2 => absurd h1.2.2.1 (by omega), HK3⟩
    case round =>
      obtain ⟨n, rfl, hn, HZ, HK4⟩ := hrel
      have HN32 : Hid (nuI c ≤ 32) := hf.2.2.1.2
      by_cases hlt2 : (n : Int) < nuI c
      · have HLT : Hid ((n : Int) + 1 ≤ nuI c) := hlt2
        have hsm : n < 32 := by have := HN32.out; omega
        have HPn : Hid (PlT c j n) := ⟨by omega, by omega, by omega, hlt2⟩
        have HOn := hid (HO.out j n HPn.out)
        obtain ⟨y, hyy⟩ : ∃ y, adI c j n = y := ⟨_, rfl⟩
        rw [hyy] at HOn
        have HYn := hid hyy
        clear hyy HO HO0 HS
        by_cases hp : perI c < 1
        · have hnu : nuI c = 1 := if_pos hp
          rw [hnu] at hlt2
          clear hnu hn
          generalize perI c = p at *
          go_wp2_with fail
          refine (HP.out _ HK4.out).mono ?_
          rintro e w3 ⟨rfl, hk⟩
          have HK5 := hid hk
          clear hk HK4
          go_wp2_with fail
          refine (HOn.out _ HK5.out).mono ?_
          rintro e w4 ⟨rfl, hk⟩
          have HK6 := hid hk
          clear hk HK5
          by_cases hy : y = a
          · subst hy
            go_wp2
            (try simp only [Exit.inBlock, Exit.then]); refine bodyPost_ret (results_tmp4 rfl _ _ _) rfl ?_
            exact ⟨c, j, n, 0, by simp, .inl ⟨rfl, HPn.out, HYn.out⟩, HK6.out⟩
          · have HZ2 : Hid (∀ z, PlT c j z → z < ((n + 1 : Nat) : Int) → adI c j z ≠ a) := fun z h1 h2 => by
              by_cases e : z = n
              · subst e; rw [HYn.out]; exact hy
              · exact HZ.out z h1 (by omega)
            go_wp2
            go_roundw
            case rel => exact ⟨n + 1, by go_num, by have := HLT.out; omega, HZ2, HK6⟩
            case measure => simp [intOf]; have := HN32.out; have := HLT.out; omega
        · have hnu : nuI c = perI c := if_neg hp
          rw [hnu] at hlt2
          clear hnu hn
          generalize perI c = p at *
          go_wp2_with fail
          refine (HP.out _ HK4.out).mono ?_
          rintro e w3 ⟨rfl, hk⟩
          have HK5 := hid hk
          clear hk HK4
          go_wp2_with fail
          refine (HOn.out _ HK5.out).mono ?_
          rintro e w4 ⟨rfl, hk⟩
          have HK6 := hid hk
          clear hk HK5
          by_cases hy : y = a
          · subst hy
            go_wp2
            (try simp only [Exit.inBlock, Exit.then]); refine bodyPost_ret (results_tmp4 rfl _ _ _) rfl ?_
            exact ⟨c, j, n, 0, by simp, .inl ⟨rfl, HPn.out, HYn.out⟩, HK6.out⟩
          · have HZ2 : Hid (∀ z, PlT c j z → z < ((n + 1 : Nat) : Int) → adI c j z ≠ a) := fun z h1 h2 => by
              by_cases e : z = n
              · subst e; rw [HYn.out]; exact hy
              · exact HZ.out z h1 (by omega)
            go_wp2
            go_roundw
            case rel => exact ⟨n + 1, by go_num, by have := HLT.out; omega, HZ2, HK6⟩
            case measure => simp [intOf]; have := HN32.out; have := HLT.out; omega
      · have HB2 : Hid (Below1 a c ((j + 1 : Nat) : Int)) := below1_next HB.out fun z h1 => HZ.out z h1 (by have := h1.2.2.2; omega)
        clear HO HO0 HS
        by_cases hp : perI c < 1
        · have hnu : nuI c = 1 := if_pos hp
          rw [hnu] at hlt2
          clear hnu hn
          generalize perI c = p at *
          go_wp2_with fail
          refine (HP.out _ HK4.out).mono ?_
          rintro e w3 ⟨rfl, hk⟩
          have HK5 := hid hk
          clear hk HK4
          go_wp2
          go_roundw
          case rel => exact ⟨j + 1, by go_num, by omega, HB2, HK5⟩
          case measure => simp [intOf]; have := HSL.out; omega
        · have hnu : nuI c = perI c := if_neg hp
          rw [hnu] at hlt2
          clear hnu hn
          generalize perI c = p at *
          go_wp2_with fail
          refine (HP.out _ HK4.out).mono ?_
          rintro e w3 ⟨rfl, hk⟩
          have HK5 := hid hk
          clear hk HK4
          go_wp2
          go_roundw
          case rel => exact ⟨j + 1, by go_num, by omega, HB2, HK5⟩
          case measure => simp [intOf]; have := HSL.out; omega
set_option maxRecDepth 20000 in
theorem e_find_out {a : Int} (hw : ¬ Win a) (k : K w0 w) (ha : I64 a) : Calls Tryd.prog 15 #[.int .i64 a] w fun e w' => ∃ c s n E, e = .returned (.tuple #[.int .i64 c, .int .i64 s, .int .i64 n, .bool (decide (E = 0))]) ∧ FindR a c s n E ∧ K w0 w' := by
  have HK0 := hid k
  have HN := hid (findR_out hw)
  clear k
  by_cases a0 : a < 0
  · obtain ⟨q, hq⟩ : ∃ q, Int.tdiv a 131072 = q := ⟨_, rfl⟩
    clear hw
    go_enter Tryd.func15, Tryd.ntmps15
    go_wp2
    (try simp only [Exit.inBlock, Exit.then]); refine bodyPost_ret (results_tmp4 rfl _ _ _) rfl ?_
    exact ⟨0, 0, 0, 4, by simp, HN.out, HK0.out⟩
  obtain ⟨c, hc⟩ : ∃ c, c = a / 131072 - 1 := ⟨_, rfl⟩
  have t1 : Int.tdiv a 131072 = c + 1 := by rw [Int.tdiv_eq_ediv_of_nonneg (by omega)]; omega
  have t2 : IntKind.i64.wrap (c + 1) = c + 1 := wI (by omega)
  have t3 : IntKind.i64.wrap (c + 1 - 1) = c := by rw [wI (by omega)]; omega
  have t4 := wI (x := c) (by omega)
  by_cases c0 : c < 0
  · clear hw hc
    go_enter Tryd.func15, Tryd.ntmps15
    go_wp2
    (try simp only [Exit.inBlock, Exit.then]); refine bodyPost_ret (results_tmp4 rfl _ _ _) rfl ?_
    exact ⟨0, 0, 0, 4, by simp, HN.out, HK0.out⟩
  · have c1 : 23 < c := by omega
    clear hw hc
    go_enter Tryd.func15, Tryd.ntmps15
    go_wp2
    (try simp only [Exit.inBlock, Exit.then]); refine bodyPost_ret (results_tmp4 rfl _ _ _) rfl ?_
    exact ⟨0, 0, 0, 4, by simp, HN.out, HK0.out⟩
theorem e_find {a c s n E : Int} (h : FindR a c s n E) (ha : I64 a) (k : K w0 w) : Calls Tryd.prog 15 #[.int .i64 a] w fun e w' => e = .returned (.tuple #[.int .i64 c, .int .i64 s, .int .i64 n, .bool (decide (E = 0))]) ∧ K w0 w' := by
  by_cases hw : Win a
  · exact (e_find_in hw k).mono fun e w' ⟨c', s', n', E', he, hr, hk⟩ => by
      obtain ⟨rfl, rfl, rfl, rfl⟩ := h.one hr
      exact ⟨he, hk⟩
  · exact (e_find_out hw k ha).mono fun e w' ⟨c', s', n', E', he, hr, hk⟩ => by
      obtain ⟨rfl, rfl, rfl, rfl⟩ := h.one hr
      exact ⟨he, hk⟩
end
end Go.Proofs.YtkhppfbhhfajgaaDoor
