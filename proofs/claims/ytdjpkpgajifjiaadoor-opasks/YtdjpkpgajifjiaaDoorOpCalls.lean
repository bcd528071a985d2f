/-
  What the calls of package op answer, each for every operation: contracts.
-/
import Derived.Test.YtdjpkpgajifjiaaDoorOpBase
import Derived.Test.YtdjpkpgajifjiaaDoorClCalls
import Derived.Test.YtdjpkpgajifjiaaDoorOpRefB
import Derived.Deep.QuietTactic
import Derived.BigQuiet
import Derived.ScopeJumps
import Derived.Deep.RegionHeld3
namespace Go.Proofs.YtdjpkpgajifjiaaDoor
open Go.RowKit

/-- The words lie in their variable. -/
def Wt (w : World) : Prop := ∀ j : Nat, j < 11 → w.cell? ⟨0, j, none⟩ = some (.string (wdS (j + 1)))
theorem Wt.pos {w : World} (h : Wt w) : 0 < w.heap.size := World.block_lt_of_cell? w _ (h 0 (by decide))
theorem Wt.carry {S : Nat → Prop} {w w' : World} (h : Wt w) (hf : Fr S w w') (h0 : ¬ S 0) : Wt w' := fun j hj => by
  rw [World.cell?_of_block (hf.block 0 h.pos h0)]; exact h j hj
/-- Both tables lie there, and nothing old turned. -/
structure Kw (w0 w : World) : Prop where
  k : K w0 w
  t : Wt w0
theorem Kw.fr {w0 w : World} (h : Kw w0 w) : Fr (fun _ => False) w0 w := h.k.fr
theorem Kw.here {w0 w : World} (h : Kw w0 w) : Wt w := h.t.carry h.k.fr id
theorem Kw.tab {w0 w : World} (h : Kw w0 w) : Tab w ∧ Wt w := ⟨h.k.tab, h.here⟩
theorem Kw.start {w : World} (h : Tab w ∧ Wt w) : Kw w w := ⟨K.start h.1, h.2⟩
theorem Kw.on {w0 w w' : World} (h : Kw w0 w) (f : Fr (fun _ => False) w w') : Kw w0 w' := ⟨h.k.on f, h.t⟩
theorem kw_of {P : Program} {f : Nat} {vs : Array Value} {w0 w : World} {r : Ending} (h : Kw w0 w) (C : Calls P f vs w fun e w' => e = r ∧ K w0 w') : Calls P f vs w fun e w' => e = r ∧ Kw w0 w' := C.mono fun _ _ ⟨he, k⟩ => ⟨he, k, h.t⟩
/-- A backward goto: what stands ahead of the label, and one pass. -/
theorem op_scope_back {P : Program} {Q : Exit → Act → World → Prop} {a : Act} {w : World} {c rest : Code} (l : Nat) (J : Act → World → Prop) (μ : Act → World → Nat) (hf : findLabel c l = some (Code.skip.seq rest))
    (pre : ∀ R : Exit → Act → World → Prop, (∀ a w, J a w → rest.wp P R a w) → c.wp P R a w)
    (pass : ∀ a w, J a w → rest.wp P (Exit.jump l (fun a' w' => J a' w' ∧ μ a' w' < μ a w) Q) a w) : (Code.scope c).wp P Q a w :=
  wp_scope_jumps l J μ hf (pre _ fun a w h => Code.wp_mono (fun e a w he => by
    cases e with
    | goto l' => exact ⟨he.1, he.2.1⟩
    | _ => exact he) (pass a w h)) fun a w h => wp_seq (wp_skip (pass a w h))
/-- A number as it lies in a slot. -/
def opIv : Value → Nat
  | .int _ x => x.toNat
  | _ => 0
set_option maxRecDepth 20000 in
theorem o_iskind (k : Int) (w : World) : Calls Tryd.prog 17 #[.int .i64 k] w fun e w' => e = .returned (.bool (decide (1 ≤ k ∧ k ≤ 11))) ∧ w' = w := by
  by_cases h0 : 1 ≤ k
  · by_cases h7 : k ≤ 11
    · go_enter Tryd.func17, Tryd.ntmps17
      go_wp2
      go_ret
      exact ⟨by simp; omega, rfl⟩
    · go_enter Tryd.func17, Tryd.ntmps17
      go_wp2
      go_ret
      exact ⟨by simp; omega, rfl⟩
  · go_enter Tryd.func17, Tryd.ntmps17
    go_wp2
    go_ret
    exact ⟨by simp; omega, rfl⟩
set_option maxRecDepth 20000 in
theorem o_istenant (k : Int) (w : World) : Calls Tryd.prog 18 #[.int .i64 k] w fun e w' => e = .returned (.bool (decide (0 ≤ k ∧ k ≤ 7))) ∧ w' = w := by
  by_cases h0 : 0 ≤ k
  · by_cases h7 : k < 8
    · go_enter Tryd.func18, Tryd.ntmps18
      go_wp2
      go_ret
      exact ⟨by simp; omega, rfl⟩
    · go_enter Tryd.func18, Tryd.ntmps18
      go_wp2
      go_ret
      exact ⟨by simp; omega, rfl⟩
  · go_enter Tryd.func18, Tryd.ntmps18
    go_wp2
    go_ret
    exact ⟨by simp; omega, rfl⟩
def mdI (k : Int) : Int := if k = 10 then 8192 else 0
set_option maxRecDepth 20000 in
theorem o_mostdata (k : Int) (w : World) : Calls Tryd.prog 19 #[.int .i64 k] w fun e w' => e = .returned (.int .i64 (mdI k)) ∧ w' = w := by
  by_cases h0 : k = 10
  · subst h0
    go_enter Tryd.func19, Tryd.ntmps19
    go_wp2
    go_ret
    exact ⟨by simp [mdI], rfl⟩
  · have hb : (k == 10) = false := by simpa using h0
    go_enter Tryd.func19, Tryd.ntmps19
    go_wp2
    go_ret
    exact ⟨by simp [mdI, h0], rfl⟩
/-- The product, or 0. -/
def opP (n m : Int) : Int := if 1 ≤ n ∧ 1 ≤ m ∧ n * m ≤ 8192 then n * m else 0
set_option maxRecDepth 20000 in
theorem o_product (n m : Int) (hn : I64 n) (hm : I64 m) (w : World) : Calls Tryd.prog 20 #[.int .i64 n, .int .i64 m] w fun e w' => e = .returned (.int .i64 (opP n m)) ∧ w' = w := by
  by_cases h1 : n < 1
  · go_enter Tryd.func20, Tryd.ntmps20
    go_wp2
    go_ret
    exact ⟨by simp [opP]; omega, rfl⟩
  by_cases h2 : m < 1
  · go_enter Tryd.func20, Tryd.ntmps20
    go_wp2
    go_ret
    exact ⟨by simp [opP]; omega, rfl⟩
  have hd : Int.tdiv 8192 m = 8192 / m := Int.tdiv_eq_ediv_of_nonneg (by decide)
  have hq : n ≤ 8192 / m ↔ n * m ≤ 8192 := Int.le_ediv_iff_mul_le (by omega)
  have hr : 8192 / m ≤ 8192 := Int.ediv_le_self _ (by decide)
  have hr0 : 0 ≤ 8192 / m := Int.ediv_nonneg (by decide) (by omega)
  have hw : IntKind.i64.wrap (8192 / m) = 8192 / m := by rw [IntKind.wrap_i64]; generalize 8192 / m = q at *; omega
  have hm0 : (m == 0) = false := by simp; omega
  have hm1 : (m == -1) = false := by simp; omega
  have e : opP n m = if n * m ≤ 8192 then n * m else 0 := by
    unfold opP
    by_cases hx : n * m ≤ 8192
    · rw [if_pos ⟨by omega, by omega, hx⟩, if_pos hx]
    · rw [if_neg (fun h => hx h.2.2), if_neg hx]
  rw [e]
  have hge : 0 ≤ n * m := Int.mul_nonneg (by omega) (by omega)
  have hwm : n * m ≤ 8192 → IntKind.i64.wrap (n * m) = n * m := fun h => by rw [IntKind.wrap_i64]; generalize n * m = q at *; omega
  generalize hnm : n * m = nm at *
  generalize 8192 / m = q at *
  have HN := hid hnm
  clear e hr hr0 hge hnm
  by_cases hx : n ≤ q
  · have hx2 := hq.1 hx
    have hwm' := hwm hx2
    have hx3 : ¬ q < n := by omega
    clear hq hwm hn hm
    rw [if_pos hx2]
    go_enter Tryd.func20, Tryd.ntmps20
    go_wp2
    go_ret
    exact ⟨by simp; rw [HN.out]; exact (IntWalk.i64_left nm).symm.trans hwm', rfl⟩
  · have hx2 : ¬ nm ≤ 8192 := fun h => hx (hq.2 h)
    have hx3 : q < n := by omega
    clear hq hwm hn hm
    rw [if_neg hx2]
    go_enter Tryd.func20, Tryd.ntmps20
    go_wp2
    go_ret
    exact ⟨by simp, rfl⟩
section
variable {w0 w : World} {k t n m h : Int} {d : ByteArray}
set_option maxRecDepth 20000 in
set_option maxHeartbeats 2000000 in
theorem oc_check (kk : Kw w0 w) : Calls Tryd.prog 7 #[opV k t n m h d] w fun e w' => e = .returned (.int .i64 (opE k t d.size)) ∧ Kw w0 w' := by
  obtain ⟨B, hB⟩ : ∃ B, w.heap.size = B := ⟨_, rfl⟩
  have T0 : Hid (Kw w0 (w.alloc (.cells #[.int .i64 k, .int .i64 t, .int .i64 n, .int .i64 m, .int .u64 h, .string d] 24))) := hid (kk.on ((Fr.refl _ _).alloc _))
  have HB := heap_alloc_new w (.cells #[.int .i64 k, .int .i64 t, .int .i64 n, .int .i64 m, .int .u64 h, .string d] 24 (0, 0))
  rw [hB] at HB
  generalize hW : w.alloc (.cells #[.int .i64 k, .int .i64 t, .int .i64 n, .int .i64 m, .int .u64 h, .string d] 24 (0, 0)) = W at *
  have c0 : W.cell? ⟨B, 0, none⟩ = some (.int .i64 k) := by simp [World.cell?, HB]
  have c1 : W.cell? ⟨B, 1, none⟩ = some (.int .i64 t) := by simp [World.cell?, HB]
  have c5 : W.cell? ⟨B, 5, none⟩ = some (.string d) := by simp [World.cell?, HB]
  have H1 : Hid (∀ w1, Calls Tryd.prog 17 #[.int .i64 k] w1 fun e w' => e = .returned (.bool (decide (1 ≤ k ∧ k ≤ 11))) ∧ w' = w1) := fun w1 => o_iskind k w1
  have H2 : Hid (∀ w1, Calls Tryd.prog 18 #[.int .i64 t] w1 fun e w' => e = .returned (.bool (decide (0 ≤ t ∧ t ≤ 7))) ∧ w' = w1) := fun w1 => o_istenant t w1
  have H3 : Hid (∀ w1, Calls Tryd.prog 19 #[.int .i64 k] w1 fun e w' => e = .returned (.int .i64 (mdI k)) ∧ w' = w1) := fun w1 => o_mostdata k w1
  clear kk HB
  have key : opE k t d.size = if (1 ≤ k ∧ k ≤ 11) ∧ (0 ≤ t ∧ t ≤ 7) ∧ (d.size : Int) ≤ mdI k then 0 else 1 := by
    unfold opE OpR mdI
    by_cases e : k = 10
    · simp only [e, if_true, true_or, and_true]
      split <;> split <;> first | rfl | omega
    · simp only [e, if_false, false_or]
      split <;> split <;> first | rfl | omega
  rw [key]
  clear key
  generalize hpk : decide (1 ≤ k ∧ k ≤ 11) = bk at H1
  generalize hpt : decide (0 ≤ t ∧ t ≤ 7) = bt at H2
  generalize mdI k = md at *
  have hres : (if (1 ≤ k ∧ k ≤ 11) ∧ (0 ≤ t ∧ t ≤ 7) ∧ (d.size : Int) ≤ md then (0 : Int) else 1) = if (bk && bt && decide ((d.size : Int) ≤ md)) = true then 0 else 1 := by
    subst hpk hpt
    simp [and_assoc]
  rw [hres]
  clear hres hpk hpt
  by_cases hd : (d.size : Int) ≤ md
  · rw [decide_eq_true hd]
    have hdd : decide ((d.size : Int) ≤ md) = true := decide_eq_true hd
    cases bk <;> cases bt
    all_goals
      go_enter Tryd.func7, Tryd.ntmps7
      go_wp2_with fail
      go_quiet (first | (go_at_call 17; refine Calls.quiet_of_same (H1.out _)) | (go_at_call 18; refine Calls.quiet_of_same (H2.out _)) | (go_at_call 19; refine Calls.quiet_of_same (H3.out _)))
      go_wp2
      go_ret
      exact ⟨by simp, T0.out.on ((Fr.refl _ _).drewN nq)⟩
  · rw [decide_eq_false hd]
    have hd2 : md < (d.size : Int) := by omega
    have hdd : decide ((d.size : Int) ≤ md) = false := decide_eq_false hd
    cases bk <;> cases bt
    all_goals
      go_enter Tryd.func7, Tryd.ntmps7
      go_wp2_with fail
      go_quiet (first | (go_at_call 17; refine Calls.quiet_of_same (H1.out _)) | (go_at_call 18; refine Calls.quiet_of_same (H2.out _)) | (go_at_call 19; refine Calls.quiet_of_same (H3.out _)))
      go_wp2
      go_ret
      exact ⟨by simp, T0.out.on ((Fr.refl _ _).drewN nq)⟩
set_option maxRecDepth 20000 in
set_option maxHeartbeats 2000000 in
theorem oc_word (kk : Kw w0 w) : Calls Tryd.prog 12 #[.int .i64 k] w fun e w' => e = .returned (.string (opW k)) ∧ Kw w0 w' := by
  have H1 : Hid (∀ w1, Calls Tryd.prog 17 #[.int .i64 k] w1 fun e w' => e = .returned (.bool (decide (1 ≤ k ∧ k ≤ 11))) ∧ w' = w1) := fun w1 => o_iskind k w1
  have T0 := hid kk
  by_cases hk : 1 ≤ k ∧ k ≤ 11
  · rw [decide_eq_true hk] at H1
    obtain ⟨j, rfl⟩ : ∃ j : Nat, k = (j : Int) + 1 := ⟨(k - 1).toNat, by omega⟩
    have hj : j < 11 := by omega
    have hc := kk.here j hj
    have e : opW ((j : Int) + 1) = wdS (j + 1) := by
      unfold opW
      rw [if_pos hk]
      rfl
    rw [e]
    have es : IntKind.i64.wrap ((j : Int) + 1 - 1) = (j : Int) := by rw [IntKind.wrap_i64]; omega
    have h0 : (0 : Int) ≤ j := by omega
    have h11 : (j : Int) < 11 := by omega
    clear kk hk e
    generalize wdS (j + 1) = wd at *
    generalize hkk : (j : Int) + 1 = kq at *
    have HQ := hid hkk
    clear hkk
    go_enter Tryd.func12, Tryd.ntmps12
    go_wp2_with fail
    refine (H1.out _).mono ?_
    rintro e w1 ⟨rfl, rfl⟩
    go_wp2
    go_ret
    exact ⟨by simp, T0.out⟩
  · rw [decide_eq_false hk] at H1
    have e : opW k = ⟨#[]⟩ := if_neg hk
    rw [e]
    clear kk hk e
    go_enter Tryd.func12, Tryd.ntmps12
    go_wp2_with fail
    refine (H1.out _).mono ?_
    rintro e w1 ⟨rfl, rfl⟩
    go_wp2
    go_ret
    exact ⟨by simp, T0.out⟩
set_option maxRecDepth 20000 in
set_option maxHeartbeats 2000000 in
theorem oc_admin (kk : Kw w0 w) : Calls Tryd.prog 9 #[opV k t n m h d] w fun e w' => e = .returned (.bool (decide (OpR k t d.size ∧ k ≤ 3))) ∧ Kw w0 w' := by
  obtain ⟨B, hB⟩ : ∃ B, w.heap.size = B := ⟨_, rfl⟩
  have T0 : Hid (Kw w0 (w.alloc (.cells #[.int .i64 k, .int .i64 t, .int .i64 n, .int .i64 m, .int .u64 h, .string d] 24))) := hid (kk.on ((Fr.refl _ _).alloc _))
  have HC : Hid (∀ w1, Kw w0 w1 → Calls Tryd.prog 7 #[opV k t n m h d] w1 fun e w' => e = .returned (.int .i64 (opE k t d.size)) ∧ Kw w0 w') := fun w1 k1 => oc_check k1
  have key : decide (OpR k t d.size ∧ k ≤ 3) = ((decide (k = 1) || decide (k = 2) || decide (k = 3)) && decide (opE k t d.size = 0)) := by
    unfold opE
    by_cases hr : OpR k t d.size
    · have h1 := hr.1.1
      rw [if_pos hr, Bool.eq_iff_iff]
      simp only [decide_eq_true_eq, Bool.and_eq_true, Bool.or_eq_true, decide_true, and_true]
      omega
    · simp [hr]
  rw [key]
  clear key kk
  generalize opE k t d.size = oe at *
  by_cases h1 : k = 1
  · subst h1
    go_enter Tryd.func9, Tryd.ntmps9
    go_wp2_with fail
    refine (HC.out _ T0.out).mono ?_
    rintro e w1 ⟨rfl, k1⟩
    have T1 := hid k1
    clear k1 T0 HC
    go_wp2
    go_ret
    exact ⟨by simp; rfl, T1.out⟩
  by_cases h2 : k = 2
  · subst h2
    go_enter Tryd.func9, Tryd.ntmps9
    go_wp2_with fail
    refine (HC.out _ T0.out).mono ?_
    rintro e w1 ⟨rfl, k1⟩
    have T1 := hid k1
    clear k1 T0 HC
    go_wp2
    go_ret
    exact ⟨by simp; rfl, T1.out⟩
  by_cases h3 : k = 3
  · subst h3
    go_enter Tryd.func9, Tryd.ntmps9
    go_wp2_with fail
    refine (HC.out _ T0.out).mono ?_
    rintro e w1 ⟨rfl, k1⟩
    have T1 := hid k1
    clear k1 T0 HC
    go_wp2
    go_ret
    exact ⟨by simp; rfl, T1.out⟩
  · have b1 : (k == 1) = false := by simpa using h1
    have b2 : (k == 2) = false := by simpa using h2
    have b3 : (k == 3) = false := by simpa using h3
    go_enter Tryd.func9, Tryd.ntmps9
    go_wp2
    go_ret
    exact ⟨by simp [h1, h2, h3], T0.out⟩
set_option maxRecDepth 20000 in
set_option maxHeartbeats 2000000 in
theorem oc_asks (kk : Kw w0 w) (hn : I64 n) (hm : I64 m) : Calls Tryd.prog 10 #[opV k t n m h d] w fun e w' => e = .returned (.int .i64 (opA k t n m d.size)) ∧ Kw w0 w' := by
  obtain ⟨B, hB⟩ : ∃ B, w.heap.size = B := ⟨_, rfl⟩
  have HB := heap_alloc_new w (.cells #[.int .i64 k, .int .i64 t, .int .i64 n, .int .i64 m, .int .u64 h, .string d] 24 (0, 0))
  rw [hB] at HB
  have T0 : Hid (Kw w0 (w.alloc (.cells #[.int .i64 k, .int .i64 t, .int .i64 n, .int .i64 m, .int .u64 h, .string d] 24))) := hid (kk.on ((Fr.refl _ _).alloc _))
  generalize hW : w.alloc (.cells #[.int .i64 k, .int .i64 t, .int .i64 n, .int .i64 m, .int .u64 h, .string d] 24 (0, 0)) = W at *
  have HC : Hid (∀ w1, Kw w0 w1 → Calls Tryd.prog 7 #[opV k t n m h d] w1 fun e w' => e = .returned (.int .i64 (opE k t d.size)) ∧ Kw w0 w') := fun w1 k1 => oc_check k1
  have HP : Hid (∀ w1, Calls Tryd.prog 20 #[.int .i64 n, .int .i64 m] w1 fun e w' => e = .returned (.int .i64 (opP n m)) ∧ w' = w1) := fun w1 => o_product n m hn hm w1
  obtain ⟨x, hx⟩ : ∃ x, (if k = 4 ∨ k = 7 then n else if k = 5 then opP n m else 0) = x := ⟨_, rfl⟩
  have HO : Hid (∀ w1, Kw w0 w1 → Calls Tryd.prog 21 #[.int .i64 x] w1 fun e w' => e = .returned (.int .i64 (ofI x)) ∧ Kw w0 w') := fun w1 k1 => kw_of k1 (k_of x k1.k)
  have hxx : Hid (opA k t n m d.size = if OpR k t d.size ∧ ¬ ofI x = -1 then x else 0) := by
    refine hid ?_
    have gof : ∀ y, ofI y = -1 ∨ 0 ≤ ofI y := fun y => by
      by_cases h : 1 ≤ y ∧ y ≤ 8192
      · exact .inr (ofI_range y h.1 h.2).1
      · exact .inl ((ofI_none y).2 (by omega))
    have fin : ∀ y, (if OpR k t d.size ∧ 0 ≤ ofI y then y else 0) = if OpR k t d.size ∧ ¬ ofI y = -1 then y else 0 := fun y => by
      have := gof y
      split <;> split <;> first | rfl | omega
    subst hx
    unfold opA opN opP
    by_cases e1 : k = 4 ∨ k = 7
    · simp only [e1, if_true]
      exact fin _
    · simp only [e1, if_false]
      by_cases e2 : k = 5
      · simp only [e2, if_true, true_and]
        subst e2
        by_cases e3 : 1 ≤ n ∧ 1 ≤ m
        · by_cases e4 : n * m ≤ 8192
          · have a1 : n ≤ 8192 := Int.le_trans (by have := Int.mul_le_mul_of_nonneg_left e3.2 (show (0 : Int) ≤ n by omega); omega) e4
            have a2 : m ≤ 8192 := Int.le_trans (by have := Int.mul_le_mul_of_nonneg_right e3.1 (show (0 : Int) ≤ m by omega); omega) e4
            rw [if_pos (show 1 ≤ n ∧ 1 ≤ m ∧ n * m ≤ 8192 from ⟨e3.1, e3.2, e4⟩), if_pos (show 1 ≤ n ∧ 1 ≤ m ∧ n ≤ 8192 ∧ m ≤ 8192 from ⟨e3.1, e3.2, a1, a2⟩)]
            exact fin _
          · rw [if_neg (fun h : 1 ≤ n ∧ 1 ≤ m ∧ n * m ≤ 8192 => e4 h.2.2)]
            have h0 := (ofI_none (0 : Int)).2 (by omega)
            have h1 := (ofI_none (n * m)).2 (by omega)
            rw [if_neg (fun h : OpR 5 t d.size ∧ ¬ ofI 0 = -1 => h.2 h0)]
            by_cases e5 : 1 ≤ n ∧ 1 ≤ m ∧ n ≤ 8192 ∧ m ≤ 8192
            · rw [if_pos e5, if_neg (fun h => by have := h.2; omega)]
            · rw [if_neg e5]
              split <;> rfl
        · rw [if_neg (fun h : 1 ≤ n ∧ 1 ≤ m ∧ n * m ≤ 8192 => e3 ⟨h.1, h.2.1⟩), if_neg (fun h : 1 ≤ n ∧ 1 ≤ m ∧ n ≤ 8192 ∧ m ≤ 8192 => e3 ⟨h.1, h.2.1⟩)]
          exact fin _
      · simp only [e2, if_false, false_and]
        exact fin _
  have c0 : W.cell? ⟨B, 0, none⟩ = some (.int .i64 k) := by simp [World.cell?, HB]
  have c1 : W.cell? ⟨B, 1, none⟩ = some (.int .i64 t) := by simp [World.cell?, HB]
  have c2 : W.cell? ⟨B, 2, none⟩ = some (.int .i64 n) := by simp [World.cell?, HB]
  have c3 : W.cell? ⟨B, 3, none⟩ = some (.int .i64 m) := by simp [World.cell?, HB]
  have c4 : W.cell? ⟨B, 4, none⟩ = some (.int .u64 h) := by simp [World.cell?, HB]
  have c5 : W.cell? ⟨B, 5, none⟩ = some (.string d) := by simp [World.cell?, HB]
  rw [hxx.out]
  have fin2 : (if OpR k t d.size ∧ ¬ ofI x = -1 then x else 0) = if decide (OpR k t d.size) = true ∧ ¬ ofI x = -1 then x else 0 := by simp only [decide_eq_true_eq]
  rw [fin2]
  have hoe2 : opE k t d.size = if decide (OpR k t d.size) = true then 0 else 1 := by
    unfold opE
    by_cases hr : OpR k t d.size
    · rw [if_pos hr, if_pos (decide_eq_true hr)]
    · rw [if_neg hr, if_neg (by rw [decide_eq_false hr]; decide)]
  rw [hoe2] at HC
  clear hoe2 fin2 hxx kk hn hm HB
  generalize decide (OpR k t d.size) = ro at *
  generalize ofI x = ofx at *
  by_cases e1 : k = 4
  · subst e1
    obtain rfl : n = x := hx
    cases ro with
    | false =>
      rw [if_neg (show ¬ (false = true) by decide)] at HC
      rw [if_neg (fun h => absurd h.1 (by decide))]
      go_enter Tryd.func10, Tryd.ntmps10
      go_wp2_with fail
      refine (HC.out _ T0.out).mono ?_
      rintro e w1 ⟨rfl, k1⟩
      have T1 := hid k1
      clear k1 T0 HC
      go_wp2
      go_ret
      exact ⟨by simp, T1.out⟩
    | true =>
      rw [if_pos rfl] at HC
      by_cases hz : ofx = -1
      · subst hz
        rw [if_neg (fun h => h.2 rfl)]
        go_enter Tryd.func10, Tryd.ntmps10
        go_wp2_with fail
        refine (HC.out _ T0.out).mono ?_
        rintro e w1 ⟨rfl, k1⟩
        have T1 := hid k1
        clear k1 T0 HC
        go_wp2_with fail
        refine (HO.out _ T1.out).mono ?_
        rintro e w2 ⟨rfl, k1⟩
        have T2 := hid k1
        clear k1 T1 HO
        go_wp2
        go_ret
        exact ⟨by simp, T2.out⟩
      · rw [if_pos ⟨rfl, hz⟩]
        have hb : (ofx == -1) = false := by simpa using hz
        go_enter Tryd.func10, Tryd.ntmps10
        go_wp2_with fail
        refine (HC.out _ T0.out).mono ?_
        rintro e w1 ⟨rfl, k1⟩
        have T1 := hid k1
        clear k1 T0 HC
        go_wp2_with fail
        refine (HO.out _ T1.out).mono ?_
        rintro e w2 ⟨rfl, k1⟩
        have T2 := hid k1
        clear k1 T1 HO
        go_wp2
        go_ret
        exact ⟨by simp, T2.out⟩
  by_cases e2 : k = 7
  · subst e2
    obtain rfl : n = x := hx
    cases ro with
    | false =>
      rw [if_neg (show ¬ (false = true) by decide)] at HC
      rw [if_neg (fun h => absurd h.1 (by decide))]
      go_enter Tryd.func10, Tryd.ntmps10
      go_wp2_with fail
      refine (HC.out _ T0.out).mono ?_
      rintro e w1 ⟨rfl, k1⟩
      have T1 := hid k1
      clear k1 T0 HC
      go_wp2
      go_ret
      exact ⟨by simp, T1.out⟩
    | true =>
      rw [if_pos rfl] at HC
      by_cases hz : ofx = -1
      · subst hz
        rw [if_neg (fun h => h.2 rfl)]
        go_enter Tryd.func10, Tryd.ntmps10
        go_wp2_with fail
        refine (HC.out _ T0.out).mono ?_
        rintro e w1 ⟨rfl, k1⟩
        have T1 := hid k1
        clear k1 T0 HC
        go_wp2_with fail
        refine (HO.out _ T1.out).mono ?_
        rintro e w2 ⟨rfl, k1⟩
        have T2 := hid k1
        clear k1 T1 HO
        go_wp2
        go_ret
        exact ⟨by simp, T2.out⟩
      · rw [if_pos ⟨rfl, hz⟩]
        have hb : (ofx == -1) = false := by simpa using hz
        go_enter Tryd.func10, Tryd.ntmps10
        go_wp2_with fail
        refine (HC.out _ T0.out).mono ?_
        rintro e w1 ⟨rfl, k1⟩
        have T1 := hid k1
        clear k1 T0 HC
        go_wp2_with fail
        refine (HO.out _ T1.out).mono ?_
        rintro e w2 ⟨rfl, k1⟩
        have T2 := hid k1
        clear k1 T1 HO
        go_wp2
        go_ret
        exact ⟨by simp, T2.out⟩
  by_cases e3 : k = 5
  · subst e3
    obtain rfl : opP n m = x := hx
    generalize opP n m = x at *
    cases ro with
    | false =>
      rw [if_neg (show ¬ (false = true) by decide)] at HC
      rw [if_neg (fun h => absurd h.1 (by decide))]
      go_enter Tryd.func10, Tryd.ntmps10
      go_wp2_with fail
      refine (HP.out _).mono ?_
      rintro e w1 ⟨rfl, rfl⟩
      go_wp2_with fail
      refine (HC.out _ T0.out).mono ?_
      rintro e w1 ⟨rfl, k1⟩
      have T1 := hid k1
      clear k1 T0 HC
      go_wp2
      go_ret
      exact ⟨by simp, T1.out⟩
    | true =>
      rw [if_pos rfl] at HC
      by_cases hz : ofx = -1
      · subst hz
        rw [if_neg (fun h => h.2 rfl)]
        go_enter Tryd.func10, Tryd.ntmps10
        go_wp2_with fail
        refine (HP.out _).mono ?_
        rintro e w1 ⟨rfl, rfl⟩
        go_wp2_with fail
        refine (HC.out _ T0.out).mono ?_
        rintro e w1 ⟨rfl, k1⟩
        have T1 := hid k1
        clear k1 T0 HC
        go_wp2_with fail
        refine (HO.out _ T1.out).mono ?_
        rintro e w2 ⟨rfl, k1⟩
        have T2 := hid k1
        clear k1 T1 HO
        go_wp2
        go_ret
        exact ⟨by simp, T2.out⟩
      · rw [if_pos ⟨rfl, hz⟩]
        have hb : (ofx == -1) = false := by simpa using hz
        go_enter Tryd.func10, Tryd.ntmps10
        go_wp2_with fail
        refine (HP.out _).mono ?_
        rintro e w1 ⟨rfl, rfl⟩
        go_wp2_with fail
        refine (HC.out _ T0.out).mono ?_
        rintro e w1 ⟨rfl, k1⟩
        have T1 := hid k1
        clear k1 T0 HC
        go_wp2_with fail
        refine (HO.out _ T1.out).mono ?_
        rintro e w2 ⟨rfl, k1⟩
        have T2 := hid k1
        clear k1 T1 HO
        go_wp2
        go_ret
        exact ⟨by simp, T2.out⟩
  · have hx0 : x = 0 := by
      rw [← hx]
      simp [e1, e2, e3]
    subst hx0
    have b1 : (k == 4) = false := by simpa using e1
    have b2 : (k == 7) = false := by simpa using e2
    have b3 : (k == 5) = false := by simpa using e3
    cases ro with
    | false =>
      rw [if_neg (show ¬ (false = true) by decide)] at HC
      rw [if_neg (fun h => absurd h.1 (by decide))]
      go_enter Tryd.func10, Tryd.ntmps10
      go_wp2_with fail
      refine (HC.out _ T0.out).mono ?_
      rintro e w1 ⟨rfl, k1⟩
      have T1 := hid k1
      clear k1 T0 HC
      go_wp2
      go_ret
      exact ⟨by simp, T1.out⟩
    | true =>
      rw [if_pos rfl] at HC
      by_cases hz : ofx = -1
      · subst hz
        rw [if_neg (fun h => h.2 rfl)]
        go_enter Tryd.func10, Tryd.ntmps10
        go_wp2_with fail
        refine (HC.out _ T0.out).mono ?_
        rintro e w1 ⟨rfl, k1⟩
        have T1 := hid k1
        clear k1 T0 HC
        go_wp2_with fail
        refine (HO.out _ T1.out).mono ?_
        rintro e w2 ⟨rfl, k1⟩
        have T2 := hid k1
        clear k1 T1 HO
        go_wp2
        go_ret
        exact ⟨by simp, T2.out⟩
      · rw [if_pos ⟨rfl, hz⟩]
        have hb : (ofx == -1) = false := by simpa using hz
        go_enter Tryd.func10, Tryd.ntmps10
        go_wp2_with fail
        refine (HC.out _ T0.out).mono ?_
        rintro e w1 ⟨rfl, k1⟩
        have T1 := hid k1
        clear k1 T0 HC
        go_wp2_with fail
        refine (HO.out _ T1.out).mono ?_
        rintro e w2 ⟨rfl, k1⟩
        have T2 := hid k1
        clear k1 T1 HO
        go_wp2
        go_ret
        exact ⟨by simp, T2.out⟩
set_option maxRecDepth 20000 in
set_option maxHeartbeats 2000000 in
theorem o_kind (kk : Kw w0 w) (s : ByteArray) : Calls Tryd.prog 14 #[.string s] w fun e w' => e = .returned (.int .i64 (opK s)) ∧ Kw w0 w' := by
  have HW : Hid (∀ w1 (j : Nat), Kw w0 w1 → 1 ≤ j → j ≤ 11 → Calls Tryd.prog 12 #[.int .i64 (j : Int)] w1 fun e w' => e = .returned (.string (wdS j)) ∧ Kw w0 w') := fun w1 j k1 h1 h2 => (oc_word k1 (k := (j : Int))).mono fun e w' ⟨he, y⟩ => ⟨by rw [he]; unfold opW; rw [if_pos ⟨by omega, by omega⟩]; rfl, y⟩
  have HI : Hid (∀ (k : Int) w1, Calls Tryd.prog 17 #[.int .i64 k] w1 fun e w' => e = .returned (.bool (decide (1 ≤ k ∧ k ≤ 11))) ∧ w' = w1) := fun k w1 => o_iskind k w1
  have T0 := hid kk
  clear kk
  go_enter Tryd.func14, Tryd.ntmps14
  go_wp2_with fail
  refine op_scope_back 0 (fun a' w' => ∃ (j : Nat) (x : Int) (u4 u5 u6 u7 u8 u9 u10 u11 u12 u13 : Value), Hid (j ≤ 11 ∧ x = ((j + 1 : Nat) : Int) ∧ opK s = wdF s (j + 1) (11 - j) ∧ Kw w0 w') ∧ a' = { tmps := #[.string s, undef, .int .i64 0, .int .i64 x, u4, u5, u6, u7, u8, u9, u10, u11, u12, u13], defers := [] }) (fun a' _ => 12 - opIv (a'.tmps.getD 3 undef)) rfl ?pre ?pass
  case pre =>
    intro R hK
    go_wp2
    go_step3
    rename_i K hKK
    exact hKK _ _ (hK _ _ ⟨0, _, _, _, _, _, _, _, _, _, _, _, ⟨by omega, rfl, rfl, T0.out⟩, rfl⟩)
  case pass =>
    rintro a' wr ⟨j, x, u4, u5, u6, u7, u8, u9, u10, u11, u12, u13, HJ, rfl⟩
    clear T0
    have hj := HJ.out.1
    have hx : x = (j : Int) + 1 := by rw [HJ.out.2.1]; omega
    have hx0 : 1 ≤ x := by omega
    by_cases hlt : j < 11
    · have HIx : Hid (∀ w1, Calls Tryd.prog 17 #[.int .i64 x] w1 fun e w' => e = .returned (.bool true) ∧ w' = w1) := fun w1 => (HI.out x w1).mono fun e w' ⟨he, h⟩ => ⟨by rw [he, decide_eq_true ⟨by omega, by omega⟩], h⟩
      have HWx : Hid (∀ w1, Kw w0 w1 → Calls Tryd.prog 12 #[.int .i64 x] w1 fun e w' => e = .returned (.string (wdS (j + 1))) ∧ Kw w0 w') := fun w1 k1 => by
        have := HW.out w1 (j + 1) k1 (by omega) (by omega)
        rw [HJ.out.2.1]
        exact this
      have hun : wdF s (j + 1) (11 - j) = if wdS (j + 1) = s then ((j + 1 : Nat) : Int) else wdF s (j + 2) (10 - j) := by
        rw [show 11 - j = (10 - j) + 1 by omega]
        rfl
      have T0 := hid HJ.out.2.2.2
      have HE : Hid (opK s = if wdS (j + 1) = s then x else wdF s (j + 2) (10 - j)) := by rw [HJ.out.2.1]; exact HJ.out.2.2.1.trans hun
      have hw : IntKind.i64.wrap (x + 1) = x + 1 := by rw [IntKind.wrap_i64]; omega
      have hx11 : x ≤ 11 := by omega
      have HX := hid hx
      have HT := text_eq (wdS (j + 1)) s
      clear HW HI HJ hun hx
      by_cases hs : wdS (j + 1) = s
      · have e0 : Hid (opK s = x) := hid (by rw [HE.out, if_pos hs])
        rw [decide_eq_true hs] at HT
        clear HE hs
        generalize wdS (j + 1) = wd at *
        go_wp2_with fail
        refine (HIx.out _).mono ?_
        rintro e w1 ⟨rfl, rfl⟩
        go_wp2_with fail
        refine (HWx.out _ T0.out).mono ?_
        rintro e w1 ⟨rfl, k1⟩
        have T1 := hid k1
        clear k1 T0 HWx HIx
        go_wp2
        rw [jump_ret]
        go_ret
        exact ⟨by simp [e0.out], T1.out⟩
      · have HE2 : Hid (opK s = wdF s (j + 1 + 1) (11 - (j + 1))) := by
          refine hid ?_
          rw [HE.out, if_neg hs, show 11 - (j + 1) = 10 - j by omega]
        rw [decide_eq_false hs] at HT
        clear HE hs
        generalize wdS (j + 1) = wd at *
        go_wp2_with fail
        refine (HIx.out _).mono ?_
        rintro e w1 ⟨rfl, rfl⟩
        go_wp2_with fail
        refine (HWx.out _ T0.out).mono ?_
        rintro e w1 ⟨rfl, k1⟩
        have T1 := hid k1
        clear k1 T0 HWx HIx
        go_wp2
        go_step3
        exact ⟨rfl, ⟨j + 1, _, _, _, _, _, _, _, _, _, _, _, ⟨by omega, by rw [HX.out]; omega, HE2.out, T1.out⟩, rfl⟩, by simp [opIv]; omega⟩
    · have hj11 : j = 11 := by omega
      subst hj11
      obtain rfl : x = 12 := by omega
      have HIx : Hid (∀ w1, Calls Tryd.prog 17 #[.int .i64 12] w1 fun e w' => e = .returned (.bool false) ∧ w' = w1) := fun w1 => HI.out 12 w1
      have e0 : Hid (opK s = 0) := HJ.out.2.2.1
      have T0 := hid HJ.out.2.2.2
      clear HW HI HJ
      go_wp2_with fail
      refine (HIx.out _).mono ?_
      rintro e w1 ⟨rfl, rfl⟩
      go_wp2
      rw [jump_ret]
      go_ret
      exact ⟨by simp [e0.out], T0.out⟩
theorem o_check (kk : Kw w0 w) (_ : I64 k) (_ : I64 t) (_ : I64 n) (_ : I64 m) : Calls Tryd.prog 7 #[opV k t n m h d] w fun e w' => e = .returned (.int .i64 (opE k t d.size)) ∧ Kw w0 w' := oc_check kk
theorem o_admin (kk : Kw w0 w) (_ : I64 k) (_ : I64 t) (_ : I64 n) (_ : I64 m) : Calls Tryd.prog 9 #[opV k t n m h d] w fun e w' => e = .returned (.bool (decide (OpR k t d.size ∧ k ≤ 3))) ∧ Kw w0 w' := oc_admin kk
theorem o_asks (kk : Kw w0 w) (_ : I64 k) (_ : I64 t) (hn : I64 n) (hm : I64 m) : Calls Tryd.prog 10 #[opV k t n m h d] w fun e w' => e = .returned (.int .i64 (opA k t n m d.size)) ∧ Kw w0 w' := oc_asks kk hn hm
theorem o_word (kk : Kw w0 w) (_ : I64 k) : Calls Tryd.prog 12 #[.int .i64 k] w fun e w' => e = .returned (.string (opW k)) ∧ Kw w0 w' := oc_word kk
end
end Go.Proofs.YtdjpkpgajifjiaaDoor
