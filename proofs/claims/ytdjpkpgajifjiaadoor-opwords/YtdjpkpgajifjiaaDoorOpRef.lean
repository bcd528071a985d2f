/-
  What the document says of operations.
-/
import Derived.Test.YtdjpkpgajifjiaaDoorOpBase
import Derived.Test.YtdjpkpgajifjiaaDoorClRef
namespace Go.Proofs.YtdjpkpgajifjiaaDoor
open Go.RowKit

theorem empty_iff (d : ByteArray) : d.toList.isEmpty = decide (d.size = 0) := by
  rw [ByteArray.toList_eq]
  have : d.size = d.data.toList.length := (len_list d).symm
  cases h : d.data.toList with
  | nil => rw [h] at this; simp [this]
  | cons x r => rw [h] at this; simp [this]
set_option maxRecDepth 20000 in
set_option maxHeartbeats 2000000 in
theorem q_right (k t n m h : Int) (d : ByteArray) (w : World) : Calls Tryd.prog 6 #[opV k t n m h d] w fun e w' => e = .returned (.bool (decide (OpR k t d.size))) ∧ Fr (fun _ => False) w w' := by
  have hem := empty_iff d
  by_cases h1 : 1 ≤ k
  case neg =>
    rw [decide_eq_false (fun m => h1 m.1.1)]
    clear hem
    go_enter Tryd.func6, Tryd.ntmps6
    go_wp2
    go_ret
    exact ⟨by simp, (Fr.refl _ _).alloc _⟩
  by_cases h2 : k ≤ 11
  case neg =>
    rw [decide_eq_false (fun m => h2 m.1.2)]
    clear hem
    go_enter Tryd.func6, Tryd.ntmps6
    go_wp2
    go_ret
    exact ⟨by simp, (Fr.refl _ _).alloc _⟩
  by_cases h3 : 0 ≤ t
  case neg =>
    rw [decide_eq_false (fun m => h3 m.2.1.1)]
    clear hem
    go_enter Tryd.func6, Tryd.ntmps6
    go_wp2
    go_ret
    exact ⟨by simp, (Fr.refl _ _).alloc _⟩
  by_cases h4 : t ≤ 7
  case neg =>
    rw [decide_eq_false (fun m => h4 m.2.1.2)]
    clear hem
    go_enter Tryd.func6, Tryd.ntmps6
    go_wp2
    go_ret
    exact ⟨by simp, (Fr.refl _ _).alloc _⟩
  by_cases h5 : d.size ≤ 8192
  case neg =>
    have h5' : (8192 : Int) < d.size := by omega
    rw [decide_eq_false (fun m => h5 m.2.2.1)]
    clear hem
    go_enter Tryd.func6, Tryd.ntmps6
    go_wp2
    go_ret
    exact ⟨by simp, (Fr.refl _ _).alloc _⟩
  have h5' : (d.size : Int) ≤ 8192 := by omega
  by_cases h6 : k = 10
  · subst h6
    rw [decide_eq_true ⟨⟨h1, h2⟩, ⟨h3, h4⟩, h5, .inl rfl⟩]
    clear hem
    go_enter Tryd.func6, Tryd.ntmps6
    go_wp2
    go_ret
    exact ⟨by simp, (Fr.refl _ _).alloc _⟩
  have n6 : (k == 10) = false := by simpa using h6
  by_cases h7 : d.size = 0
  · rw [decide_eq_true ⟨⟨h1, h2⟩, ⟨h3, h4⟩, h5, .inr h7⟩]
    rw [decide_eq_true h7] at hem
    clear h7
    go_enter Tryd.func6, Tryd.ntmps6
    go_wp2
    go_ret
    exact ⟨by simp, (Fr.refl _ _).alloc _⟩
  · rw [decide_eq_false fun m => by rcases m.2.2.2 with e | e; exact h6 e; exact h7 e]
    rw [decide_eq_false h7] at hem
    clear h7
    go_enter Tryd.func6, Tryd.ntmps6
    go_wp2
    go_ret
    exact ⟨by simp, (Fr.refl _ _).alloc _⟩
set_option maxRecDepth 20000 in
set_option maxHeartbeats 4000000 in
theorem q_asks {k t n m h : Int} {d : ByteArray} {w0 w : World} (kk : K w0 w) (hn : I64 n) (hm : I64 m) : Calls Tryd.prog 11 #[opV k t n m h d] w fun e w' => e = .returned (.int .i64 (opA k t n m d.size)) ∧ K w0 w' := by
  have HR : Hid (∀ w1, Calls Tryd.prog 6 #[opV k t n m h d] w1 fun e w' => e = .returned (.bool (decide (OpR k t d.size))) ∧ Fr (fun _ => False) w1 w') := fun w1 => q_right k t n m h d w1
  have HO : Hid (∀ w1, K w0 w1 → Calls Tryd.prog 22 #[.int .i64 (opN k n m)] w1 fun e w' => e = .returned (.int .i64 (ofI (opN k n m))) ∧ K w0 w') := fun w1 k1 => r_of (opN k n m) k1
  have HK := hid kk
  clear kk
  have key : Hid ((¬ OpR k t d.size → opA k t n m d.size = 0) ∧ (OpR k t d.size → ofI (opN k n m) < 0 → opA k t n m d.size = 0) ∧ (OpR k t d.size → 0 ≤ ofI (opN k n m) → opA k t n m d.size = opN k n m)) := ⟨fun h1 => if_neg fun e => h1 e.1, fun _ h2 => if_neg fun e => by have := e.2; omega, fun h1 h2 => if_pos ⟨h1, h2⟩⟩
  generalize opA k t n m d.size = res at *
  by_cases e4 : k = 4
  · subst e4
    have ev : opN 4 n m = n := if_pos (by decide)
    rw [ev] at HO key
    clear ev
    generalize ofI (n) = of at *
    generalize hv : decide (OpR 4 t d.size) = v at HR
    have HV := hid hv
    clear hv
    go_enter Tryd.func11, Tryd.ntmps11
    go_wp2_with fail
    refine (HR.out _).mono ?_
    rintro e w1 ⟨rfl, f1⟩
    have HK1 := hid (HK.out.on (((Fr.refl _ _).alloc _).trans f1))
    clear f1 HR HK
    cases v with
    | false =>
      have e0 := key.out.1 (of_decide_eq_false HV.out)
      clear key HO
      go_wp2
      go_ret
      exact ⟨by simp [e0], HK1.out⟩
    | true =>
      go_wp2_with fail
      refine (HO.out _ HK1.out).mono ?_
      rintro e w2 ⟨rfl, k2⟩
      have HK2 := hid k2
      clear k2 HK1 HO
      by_cases hf : of < 0
      · have e0 := key.out.2.1 (of_decide_eq_true HV.out) hf
        clear key
        go_wp2
        go_ret
        exact ⟨by simp [e0], HK2.out⟩
      · have hf2 : 0 ≤ of := by omega
        have e0 := key.out.2.2 (of_decide_eq_true HV.out) hf2
        clear key hf
        go_wp2
        go_ret
        exact ⟨by simp [e0], HK2.out⟩
  by_cases e7 : k = 7
  · subst e7
    have ev : opN 7 n m = n := if_pos (by decide)
    rw [ev] at HO key
    clear ev
    generalize ofI (n) = of at *
    generalize hv : decide (OpR 7 t d.size) = v at HR
    have HV := hid hv
    clear hv
    go_enter Tryd.func11, Tryd.ntmps11
    go_wp2_with fail
    refine (HR.out _).mono ?_
    rintro e w1 ⟨rfl, f1⟩
    have HK1 := hid (HK.out.on (((Fr.refl _ _).alloc _).trans f1))
    clear f1 HR HK
    cases v with
    | false =>
      have e0 := key.out.1 (of_decide_eq_false HV.out)
      clear key HO
      go_wp2
      go_ret
      exact ⟨by simp [e0], HK1.out⟩
    | true =>
      go_wp2_with fail
      refine (HO.out _ HK1.out).mono ?_
      rintro e w2 ⟨rfl, k2⟩
      have HK2 := hid k2
      clear k2 HK1 HO
      by_cases hf : of < 0
      · have e0 := key.out.2.1 (of_decide_eq_true HV.out) hf
        clear key
        go_wp2
        go_ret
        exact ⟨by simp [e0], HK2.out⟩
      · have hf2 : 0 ≤ of := by omega
        have e0 := key.out.2.2 (of_decide_eq_true HV.out) hf2
        clear key hf
        go_wp2
        go_ret
        exact ⟨by simp [e0], HK2.out⟩
  by_cases e5 : k = 5
  · subst e5
    by_cases g1 : 1 ≤ n
    case neg =>
      have ev : opN 5 n m = 0 := (if_neg (by decide)).trans (if_neg fun e => g1 e.2.1)
      rw [ev] at HO key
      clear ev
      generalize ofI (0) = of at *
      generalize hv : decide (OpR 5 t d.size) = v at HR
      have HV := hid hv
      clear hv
      go_enter Tryd.func11, Tryd.ntmps11
      go_wp2_with fail
      refine (HR.out _).mono ?_
      rintro e w1 ⟨rfl, f1⟩
      have HK1 := hid (HK.out.on (((Fr.refl _ _).alloc _).trans f1))
      clear f1 HR HK
      cases v with
      | false =>
        have e0 := key.out.1 (of_decide_eq_false HV.out)
        clear key HO
        go_wp2
        go_ret
        exact ⟨by simp [e0], HK1.out⟩
      | true =>
        go_wp2_with fail
        refine (HO.out _ HK1.out).mono ?_
        rintro e w2 ⟨rfl, k2⟩
        have HK2 := hid k2
        clear k2 HK1 HO
        by_cases hf : of < 0
        · have e0 := key.out.2.1 (of_decide_eq_true HV.out) hf
          clear key
          go_wp2
          go_ret
          exact ⟨by simp [e0], HK2.out⟩
        · have hf2 : 0 ≤ of := by omega
          have e0 := key.out.2.2 (of_decide_eq_true HV.out) hf2
          clear key hf
          go_wp2
          go_ret
          exact ⟨by simp [e0], HK2.out⟩
    by_cases g2 : 1 ≤ m
    case neg =>
      have ev : opN 5 n m = 0 := (if_neg (by decide)).trans (if_neg fun e => g2 e.2.2.1)
      rw [ev] at HO key
      clear ev
      generalize ofI (0) = of at *
      generalize hv : decide (OpR 5 t d.size) = v at HR
      have HV := hid hv
      clear hv
      go_enter Tryd.func11, Tryd.ntmps11
      go_wp2_with fail
      refine (HR.out _).mono ?_
      rintro e w1 ⟨rfl, f1⟩
      have HK1 := hid (HK.out.on (((Fr.refl _ _).alloc _).trans f1))
      clear f1 HR HK
      cases v with
      | false =>
        have e0 := key.out.1 (of_decide_eq_false HV.out)
        clear key HO
        go_wp2
        go_ret
        exact ⟨by simp [e0], HK1.out⟩
      | true =>
        go_wp2_with fail
        refine (HO.out _ HK1.out).mono ?_
        rintro e w2 ⟨rfl, k2⟩
        have HK2 := hid k2
        clear k2 HK1 HO
        by_cases hf : of < 0
        · have e0 := key.out.2.1 (of_decide_eq_true HV.out) hf
          clear key
          go_wp2
          go_ret
          exact ⟨by simp [e0], HK2.out⟩
        · have hf2 : 0 ≤ of := by omega
          have e0 := key.out.2.2 (of_decide_eq_true HV.out) hf2
          clear key hf
          go_wp2
          go_ret
          exact ⟨by simp [e0], HK2.out⟩
    by_cases g3 : n ≤ 8192
    case neg =>
      have ev : opN 5 n m = 0 := (if_neg (by decide)).trans (if_neg fun e => g3 e.2.2.2.1)
      rw [ev] at HO key
      clear ev
      generalize ofI (0) = of at *
      generalize hv : decide (OpR 5 t d.size) = v at HR
      have HV := hid hv
      clear hv
      go_enter Tryd.func11, Tryd.ntmps11
      go_wp2_with fail
      refine (HR.out _).mono ?_
      rintro e w1 ⟨rfl, f1⟩
      have HK1 := hid (HK.out.on (((Fr.refl _ _).alloc _).trans f1))
      clear f1 HR HK
      cases v with
      | false =>
        have e0 := key.out.1 (of_decide_eq_false HV.out)
        clear key HO
        go_wp2
        go_ret
        exact ⟨by simp [e0], HK1.out⟩
      | true =>
        go_wp2_with fail
        refine (HO.out _ HK1.out).mono ?_
        rintro e w2 ⟨rfl, k2⟩
        have HK2 := hid k2
        clear k2 HK1 HO
        by_cases hf : of < 0
        · have e0 := key.out.2.1 (of_decide_eq_true HV.out) hf
          clear key
          go_wp2
          go_ret
          exact ⟨by simp [e0], HK2.out⟩
        · have hf2 : 0 ≤ of := by omega
          have e0 := key.out.2.2 (of_decide_eq_true HV.out) hf2
          clear key hf
          go_wp2
          go_ret
          exact ⟨by simp [e0], HK2.out⟩
    by_cases g4 : m ≤ 8192
    case neg =>
      have ev : opN 5 n m = 0 := (if_neg (by decide)).trans (if_neg fun e => g4 e.2.2.2.2)
      rw [ev] at HO key
      clear ev
      generalize ofI (0) = of at *
      generalize hv : decide (OpR 5 t d.size) = v at HR
      have HV := hid hv
      clear hv
      go_enter Tryd.func11, Tryd.ntmps11
      go_wp2_with fail
      refine (HR.out _).mono ?_
      rintro e w1 ⟨rfl, f1⟩
      have HK1 := hid (HK.out.on (((Fr.refl _ _).alloc _).trans f1))
      clear f1 HR HK
      cases v with
      | false =>
        have e0 := key.out.1 (of_decide_eq_false HV.out)
        clear key HO
        go_wp2
        go_ret
        exact ⟨by simp [e0], HK1.out⟩
      | true =>
        go_wp2_with fail
        refine (HO.out _ HK1.out).mono ?_
        rintro e w2 ⟨rfl, k2⟩
        have HK2 := hid k2
        clear k2 HK1 HO
        by_cases hf : of < 0
        · have e0 := key.out.2.1 (of_decide_eq_true HV.out) hf
          clear key
          go_wp2
          go_ret
          exact ⟨by simp [e0], HK2.out⟩
        · have hf2 : 0 ≤ of := by omega
          have e0 := key.out.2.2 (of_decide_eq_true HV.out) hf2
          clear key hf
          go_wp2
          go_ret
          exact ⟨by simp [e0], HK2.out⟩
    have hb1 := Int.mul_le_mul g3 g4 (by omega) (by omega)
    have hb0 : 0 ≤ n * m := Int.mul_nonneg (by omega) (by omega)
    have ev : opN 5 n m = n * m := (if_neg (by decide)).trans (if_pos ⟨rfl, g1, g2, g3, g4⟩)
    have hw : IntKind.i64.wrap (n * m) = n * m := by rw [IntKind.wrap_i64]; omega
    generalize hnm : n * m = nm at *
    rw [ev] at HO key
    clear ev
    generalize ofI (nm) = of at *
    generalize hv : decide (OpR 5 t d.size) = v at HR
    have HV := hid hv
    clear hv
    go_enter Tryd.func11, Tryd.ntmps11
    go_wp2_with fail
    refine (HR.out _).mono ?_
    rintro e w1 ⟨rfl, f1⟩
    have HK1 := hid (HK.out.on (((Fr.refl _ _).alloc _).trans f1))
    clear f1 HR HK
    cases v with
    | false =>
      have e0 := key.out.1 (of_decide_eq_false HV.out)
      clear key HO
      go_wp2
      go_ret
      exact ⟨by simp [e0], HK1.out⟩
    | true =>
      go_wp2_with fail
      refine (HO.out _ HK1.out).mono ?_
      rintro e w2 ⟨rfl, k2⟩
      have HK2 := hid k2
      clear k2 HK1 HO
      by_cases hf : of < 0
      · have e0 := key.out.2.1 (of_decide_eq_true HV.out) hf
        clear key
        go_wp2
        go_ret
        exact ⟨by simp [e0], HK2.out⟩
      · have hf2 : 0 ≤ of := by omega
        have e0 := key.out.2.2 (of_decide_eq_true HV.out) hf2
        clear key hf
        go_wp2
        go_ret
        exact ⟨by simp [e0], HK2.out⟩
  have n4 : (k == 4) = false := by simpa using e4
  have n7 : (k == 7) = false := by simpa using e7
  have n5 : (k == 5) = false := by simpa using e5
  have ev : opN k n m = 0 := (if_neg fun e => by rcases e with e | e; exact e4 e; exact e7 e).trans (if_neg fun e => e5 e.1)
  rw [ev] at HO key
  clear ev
  generalize ofI (0) = of at *
  generalize hv : decide (OpR k t d.size) = v at HR
  have HV := hid hv
  clear hv
  go_enter Tryd.func11, Tryd.ntmps11
  go_wp2_with fail
  refine (HR.out _).mono ?_
  rintro e w1 ⟨rfl, f1⟩
  have HK1 := hid (HK.out.on (((Fr.refl _ _).alloc _).trans f1))
  clear f1 HR HK
  cases v with
  | false =>
    have e0 := key.out.1 (of_decide_eq_false HV.out)
    clear key HO
    go_wp2
    go_ret
    exact ⟨by simp [e0], HK1.out⟩
  | true =>
    go_wp2_with fail
    refine (HO.out _ HK1.out).mono ?_
    rintro e w2 ⟨rfl, k2⟩
    have HK2 := hid k2
    clear k2 HK1 HO
    by_cases hf : of < 0
    · have e0 := key.out.2.1 (of_decide_eq_true HV.out) hf
      clear key
      go_wp2
      go_ret
      exact ⟨by simp [e0], HK2.out⟩
    · have hf2 : 0 ≤ of := by omega
      have e0 := key.out.2.2 (of_decide_eq_true HV.out) hf2
      clear key hf
      go_wp2
      go_ret
      exact ⟨by simp [e0], HK2.out⟩
end Go.Proofs.YtdjpkpgajifjiaaDoor
