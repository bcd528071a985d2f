/-
  A key in memory; what the document's own Right, Pack and Unpack do.
-/
import Derived.Test.YtcleheapfgapaaaDoorRows
import Derived.Test.YtcleheapfgapaaaDoorHaBase
import Derived.Deep.RegionHeld
import Derived.BigRegion
namespace Go.Proofs.YtcleheapfgapaaaDoor
open Go.RowKit

/-- In block B lies a key. -/
structure Kb (w : World) (B : Nat) (t s r n : Int) : Prop where
  heap : w.heap[B]? = some (.cells #[.int .i64 t, .int .i64 s, .int .i64 r, .int .i64 n] 53 (0, 0))
section
variable {w w' : World} {B : Nat} {t s r n : Int}
theorem Kb.new (w : World) (t s r n : Int) : Kb (w.alloc (.cells #[.int .i64 t, .int .i64 s, .int .i64 r, .int .i64 n] 53)) w.heap.size t s r n := ⟨heap_alloc_new w _⟩
theorem Kb.lt (h : Kb w B t s r n) : B < w.heap.size := (Array.getElem?_eq_some_iff.1 h.heap).1
theorem Kb.carry {S : Nat → Prop} (h : Kb w B t s r n) (f : Fr S w w') (hn : ¬ S B) : Kb w' B t s r n := ⟨by rw [f.block B h.lt hn]; exact h.heap⟩
theorem Kb.kept (h : Kb w B t s r n) (f : Fr (fun _ => False) w w') : Kb w' B t s r n := h.carry f id
theorem Kb.alloc (h : Kb w B t s r n) (o : Obj) : Kb (w.alloc o) B t s r n := h.kept ((Fr.refl _ _).alloc o)
theorem Kb.put (h : Kb w B t s r n) (t' s' r' n' : Int) : Kb ((((w.setCell ⟨B, 0, none⟩ (.int .i64 t')).setCell ⟨B, 1, none⟩ (.int .i64 s')).setCell ⟨B, 2, none⟩ (.int .i64 r')).setCell ⟨B, 3, none⟩ (.int .i64 n')) B t' s' r' n' := ⟨by simp [World.setCell, Array.getElem?_modify, h.heap]⟩
theorem Kb.set1 (h : Kb w B t s r n) (x : Int) : Kb (w.setCell ⟨B, 1, none⟩ (.int .i64 x)) B t x r n := ⟨by simp [World.setCell, Array.getElem?_modify, h.heap]⟩
theorem Kb.set2 (h : Kb w B t s r n) (x : Int) : Kb (w.setCell ⟨B, 2, none⟩ (.int .i64 x)) B t s x n := ⟨by simp [World.setCell, Array.getElem?_modify, h.heap]⟩
theorem Kb.set3 (h : Kb w B t s r n) (x : Int) : Kb (w.setCell ⟨B, 3, none⟩ (.int .i64 x)) B t s r x := ⟨by simp [World.setCell, Array.getElem?_modify, h.heap]⟩
theorem Kb.g (h : Kb w B t s r n) (k : Nat) : w.frozen? ⟨B, k, none⟩ = false := by simp [World.frozen?, h.heap]
theorem Kb.c0 (h : Kb w B t s r n) : w.cell? ⟨B, 0, none⟩ = some (.int .i64 t) := by simp [World.cell?, h.heap]
theorem Kb.c1 (h : Kb w B t s r n) : w.cell? ⟨B, 1, none⟩ = some (.int .i64 s) := by simp [World.cell?, h.heap]
theorem Kb.c2 (h : Kb w B t s r n) : w.cell? ⟨B, 2, none⟩ = some (.int .i64 r) := by simp [World.cell?, h.heap]
theorem Kb.c3 (h : Kb w B t s r n) : w.cell? ⟨B, 3, none⟩ = some (.int .i64 n) := by simp [World.cell?, h.heap]
end
theorem e_right (t s r n : Int) (w : World) : Calls Tryd.prog 36 #[.agg #[.int .i64 t, .int .i64 s, .int .i64 r, .int .i64 n]] w fun e w' => e = .returned (.bool (decide (KR t s r n))) ∧ Fr (fun _ => False) w w' := by
  have A := Kb.new w t s r n
  have c0 := A.c0
  have c1 := A.c1
  have c2 := A.c2
  have c3 := A.c3
  clear A
  by_cases h0 : 0 ≤ t
  case neg =>
    have he : Hid (decide (KR t s r n) = false) := decide_eq_false fun h => h0 h.1.1
    generalize decide (KR t s r n) = v at *
    go_enter Tryd.func36, Tryd.ntmps36
    go_wp2
    go_ret
    exact ⟨by rw [he.out]; simp <;> omega, (Fr.refl _ _).alloc _⟩
  by_cases h1 : t ≤ 7
  case neg =>
    have he : Hid (decide (KR t s r n) = false) := decide_eq_false fun h => h1 h.1.2
    generalize decide (KR t s r n) = v at *
    go_enter Tryd.func36, Tryd.ntmps36
    go_wp2
    go_ret
    exact ⟨by rw [he.out]; simp <;> omega, (Fr.refl _ _).alloc _⟩
  by_cases h2 : 0 ≤ s
  case neg =>
    have he : Hid (decide (KR t s r n) = false) := decide_eq_false fun h => h2 h.2.1.1
    generalize decide (KR t s r n) = v at *
    go_enter Tryd.func36, Tryd.ntmps36
    go_wp2
    go_ret
    exact ⟨by rw [he.out]; simp <;> omega, (Fr.refl _ _).alloc _⟩
  by_cases h3 : s ≤ 4159
  case neg =>
    have he : Hid (decide (KR t s r n) = false) := decide_eq_false fun h => h3 h.2.1.2
    generalize decide (KR t s r n) = v at *
    go_enter Tryd.func36, Tryd.ntmps36
    go_wp2
    go_ret
    exact ⟨by rw [he.out]; simp <;> omega, (Fr.refl _ _).alloc _⟩
  by_cases h4 : 1 ≤ r
  case neg =>
    have he : Hid (decide (KR t s r n) = false) := decide_eq_false fun h => h4 h.2.2.1.1
    generalize decide (KR t s r n) = v at *
    go_enter Tryd.func36, Tryd.ntmps36
    go_wp2
    go_ret
    exact ⟨by rw [he.out]; simp <;> omega, (Fr.refl _ _).alloc _⟩
  by_cases h5 : r ≤ 7
  case neg =>
    have he : Hid (decide (KR t s r n) = false) := decide_eq_false fun h => h5 h.2.2.1.2
    generalize decide (KR t s r n) = v at *
    go_enter Tryd.func36, Tryd.ntmps36
    go_wp2
    go_ret
    exact ⟨by rw [he.out]; simp <;> omega, (Fr.refl _ _).alloc _⟩
  by_cases h6 : 1 ≤ n
  case neg =>
    have he : Hid (decide (KR t s r n) = false) := decide_eq_false fun h => h6 h.2.2.2.1
    generalize decide (KR t s r n) = v at *
    go_enter Tryd.func36, Tryd.ntmps36
    go_wp2
    go_ret
    exact ⟨by rw [he.out]; simp <;> omega, (Fr.refl _ _).alloc _⟩
  by_cases h7 : n ≤ 17592186044415
  case neg =>
    have he : Hid (decide (KR t s r n) = false) := decide_eq_false fun h => h7 h.2.2.2.2
    generalize decide (KR t s r n) = v at *
    have h8 : 17592186044416 ≤ n := by omega
    go_enter Tryd.func36, Tryd.ntmps36
    go_wp2
    go_ret
    exact ⟨by rw [he.out]; simp <;> omega, (Fr.refl _ _).alloc _⟩
  have h8 : n < 17592186044416 := by omega
  have he : Hid (decide (KR t s r n) = true) := decide_eq_true ⟨⟨h0, h1⟩, ⟨h2, h3⟩, ⟨h4, h5⟩, ⟨h6, h7⟩⟩
  generalize decide (KR t s r n) = v at *
  go_enter Tryd.func36, Tryd.ntmps36
  go_wp2
  go_ret
  exact ⟨by rw [he.out]; simp <;> omega, (Fr.refl _ _).alloc _⟩
theorem wrap_u (x : Int) (h0 : 0 ≤ x) (h1 : x ≤ 18446744073709551615) : IntKind.u64.wrap x = x := by rw [IntKind.wrap_u64]; omega
theorem wrap_i (x : Int) (h0 : 0 ≤ x) (h1 : x ≤ 9223372036854775807) : IntKind.i64.wrap x = x := by rw [IntKind.wrap_i64]; omega
theorem e_pack (t s r n : Int) (w : World) : Calls Tryd.prog 41 #[.agg #[.int .i64 t, .int .i64 s, .int .i64 r, .int .i64 n]] w fun e w' => e = .returned (.tuple #[.int .u64 (pkB t s r n), .int .i64 (pkE t s r n)]) ∧ Fr (fun _ => False) w w' := by
  have H1 := hid fun w => e_right t s r n w
  have HA := hid (Kb.new w t s r n)
  have c0 := HA.out.c0
  have c1 := HA.out.c1
  have c2 := HA.out.c2
  have c3 := HA.out.c3
  by_cases h : KR t s r n
  · rw [decide_eq_true h] at H1
    have e1 := hid (pkB_yes h)
    have e2 := hid (pkE_yes h)
    unfold KR at h
    have u0 := wrap_u t (by omega) (by omega)
    have u1 := wrap_u s (by omega) (by omega)
    have u2 := wrap_u r (by omega) (by omega)
    have u3 := wrap_u n (by omega) (by omega)
    have u4 := wrap_u (16 * r) (by omega) (by omega)
    have u5 := wrap_u (t + 16 * r) (by omega) (by omega)
    have u6 := wrap_u (128 * s) (by omega) (by omega)
    have u7 := wrap_u (t + 16 * r + 128 * s) (by omega) (by omega)
    have u8 := wrap_u (1048576 * n) (by omega) (by omega)
    have u9 := wrap_u (t + 16 * r + 128 * s + 1048576 * n) (by omega) (by omega)
    clear h
    go_enter Tryd.func41, Tryd.ntmps41
    go_wp2_with fail
    refine (H1.out _).mono ?_
    rintro e w1 ⟨rfl, f1⟩
    have HA1 := hid (HA.out.kept f1)
    have HF1 := hid (((Fr.refl (fun _ => False) w).alloc _).trans f1)
    clear f1 c0 c1 c2 c3 HA
    have c0 := HA1.out.c0
    have c1 := HA1.out.c1
    have c2 := HA1.out.c2
    have c3 := HA1.out.c3
    go_wp2
    go_ret2
    exact ⟨by rw [e1.out, e2.out]; simp, HF1.out⟩
  · rw [decide_eq_false h] at H1
    have e1 := hid (pkB_no h)
    have e2 := hid (pkE_no h)
    clear h
    go_enter Tryd.func41, Tryd.ntmps41
    go_wp2_with fail
    refine (H1.out _).mono ?_
    rintro e w1 ⟨rfl, f1⟩
    have HF1 := hid (((Fr.refl (fun _ => False) w).alloc _).trans f1)
    clear f1
    go_wp2
    go_ret2
    exact ⟨by rw [e1.out, e2.out]; simp, HF1.out⟩
/-- What the bits of h are, part by part. -/
theorem parts {h : Int} (h0 : 0 ≤ h) (h1 : h ≤ 18446744073709551615) : (Int.tmod h 16 = h % 16 ∧ Int.tdiv h 16 = h / 16 ∧ Int.tmod (h / 16) 8 = h / 16 % 8) ∧ (Int.tdiv h 128 = h / 128 ∧ Int.tmod (h / 128) 8192 = h / 128 % 8192 ∧ Int.tdiv h 1048576 = h / 1048576) ∧ (0 ≤ h / 16 ∧ h / 16 ≤ 1152921504606846975) ∧ (0 ≤ h / 128 ∧ h / 128 ≤ 144115188075855871) ∧ (0 ≤ h / 1048576 ∧ h / 1048576 ≤ 17592186044415) := by
  refine ⟨⟨Int.tmod_eq_emod_of_nonneg h0, Int.tdiv_eq_ediv_of_nonneg h0, Int.tmod_eq_emod_of_nonneg (by omega)⟩, ⟨Int.tdiv_eq_ediv_of_nonneg h0, Int.tmod_eq_emod_of_nonneg (by omega), Int.tdiv_eq_ediv_of_nonneg h0⟩, ?_, ?_, ?_⟩ <;> omega
set_option maxRecDepth 20000 in
theorem e_unpack {h : Int} (h0 : 0 ≤ h) (h1 : h ≤ 18446744073709551615) (w : World) : Calls Tryd.prog 24 #[.int .u64 h] w fun e w' => e = .returned (.tuple #[.agg #[.int .i64 (unT h), .int .i64 (unS h), .int .i64 (unR h), .int .i64 (unN h)], .int .i64 (unE h)]) ∧ Fr (fun _ => False) w w' := by
  have H1 := hid fun w => e_right (h % 16) (h / 128 % 8192) (h / 16 % 8) (h / 1048576) w
  obtain ⟨⟨p1, p2, p3⟩, ⟨p4, p5, p6⟩, ⟨q1, q2⟩, ⟨q3, q4⟩, ⟨q5, q6⟩⟩ := parts h0 h1
  have b1 : 0 ≤ h % 16 ∧ h % 16 ≤ 15 := by omega
  have b2 : 0 ≤ h / 16 % 8 ∧ h / 16 % 8 ≤ 7 := by omega
  have b3 : 0 ≤ h / 128 % 8192 ∧ h / 128 % 8192 ≤ 8191 := by omega
  have u1 := wrap_u (h % 16) (by omega) (by omega)
  have u2 := wrap_u (h / 16) (by omega) (by omega)
  have u3 := wrap_u (h / 16 % 8) (by omega) (by omega)
  have u4 := wrap_u (h / 128) (by omega) (by omega)
  have u5 := wrap_u (h / 128 % 8192) (by omega) (by omega)
  have u6 := wrap_u (h / 1048576) (by omega) (by omega)
  have i1 := wrap_i (h % 16) (by omega) (by omega)
  have i3 := wrap_i (h / 16 % 8) (by omega) (by omega)
  have i5 := wrap_i (h / 128 % 8192) (by omega) (by omega)
  have i6 := wrap_i (h / 1048576) (by omega) (by omega)
  have HK := hid ((Kb.new w 0 0 0 0))
  have HZ : Hid (∀ w1 : World, Fr (fun _ => False) ((w.alloc (.cells #[.int .i64 0, .int .i64 0, .int .i64 0, .int .i64 0] 53)).alloc (.cells #[.int .i64 (h % 16), .int .i64 (h / 128 % 8192), .int .i64 (h / 16 % 8), .int .i64 (h / 1048576)] 53)) w1 → Kb w1 w.heap.size 0 0 0 0 ∧ Kb w1 (w.heap.size + 1) (h % 16) (h / 128 % 8192) (h / 16 % 8) (h / 1048576) ∧ Fr (fun k => w.heap.size ≤ k) w w1) := fun w1 f => ⟨(HK.out.alloc _).kept f, by
      have := (Kb.new (w.alloc (.cells #[.int .i64 0, .int .i64 0, .int .i64 0, .int .i64 0] 53)) (h % 16) (h / 128 % 8192) (h / 16 % 8) (h / 1048576)).kept f
      simpa using this, (((Fr.refl _ w).alloc _).alloc _).trans (f.mono fun _ _ e => e.elim)⟩
  clear HK q1 q2 q3 q4 q5 q6 b1 b2 b3
  by_cases hb : HB h
  · have HU := hid (un_yes hb)
    rw [decide_eq_true hb] at H1
    clear hb
    rw [HU.out.1, HU.out.2.1, HU.out.2.2.1, HU.out.2.2.2.1, HU.out.2.2.2.2]
    clear HU
    have e1 := Kb.new (w.alloc (.cells #[.int .i64 0, .int .i64 0, .int .i64 0, .int .i64 0] 53)) (h % 16) (h / 128 % 8192) (h / 16 % 8) (h / 1048576)
    simp only [World.size_alloc] at e1
    have c0 := e1.c0
    have c1 := e1.c1
    have c2 := e1.c2
    have c3 := e1.c3
    clear e1
    go_enter Tryd.func24, Tryd.ntmps24
    go_wp2_with fail
    refine (H1.out _).mono ?_
    rintro e w1 ⟨rfl, f1⟩
    have HZ1 := hid (HZ.out w1 f1)
    clear f1 HZ c0 c1 c2 c3
    have z0 := HZ1.out.1.c0
    have z1 := HZ1.out.1.c1
    have z2 := HZ1.out.1.c2
    have z3 := HZ1.out.1.c3
    have c0 := HZ1.out.2.1.c0
    have c1 := HZ1.out.2.1.c1
    have c2 := HZ1.out.2.1.c2
    have c3 := HZ1.out.2.1.c3
    have g : ∀ k, w1.frozen? ⟨w.heap.size, k, none⟩ = false := fun k => HZ1.out.1.g k
    go_wp2
    have k0 := (HZ1.out.1.put (h % 16) (h / 128 % 8192) (h / 16 % 8) (h / 1048576)).c0
    have k1 := (HZ1.out.1.put (h % 16) (h / 128 % 8192) (h / 16 % 8) (h / 1048576)).c1
    have k2 := (HZ1.out.1.put (h % 16) (h / 128 % 8192) (h / 16 % 8) (h / 1048576)).c2
    have k3 := (HZ1.out.1.put (h % 16) (h / 128 % 8192) (h / 16 % 8) (h / 1048576)).c3
    exact bodyPost_ret (v := .tuple #[.agg #[.int .i64 (h % 16), .int .i64 (h / 128 % 8192), .int .i64 (h / 16 % 8), .int .i64 (h / 1048576)], .int .i64 0]) (by simp [results, Tryd.results24, go_sem, k0, k1, k2, k3]) rfl ⟨rfl, ((((Fr.setCell HZ1.out.2.2 (p := ⟨w.heap.size, 0, none⟩) (Nat.le_refl _) _).setCell (p := ⟨w.heap.size, 1, none⟩) (Nat.le_refl _) _).setCell (p := ⟨w.heap.size, 2, none⟩) (Nat.le_refl _) _).setCell (p := ⟨w.heap.size, 3, none⟩) (Nat.le_refl _) _).new⟩
  · have HU := hid (un_no hb)
    rw [decide_eq_false hb] at H1
    clear hb
    rw [HU.out.1, HU.out.2.1, HU.out.2.2.1, HU.out.2.2.2.1, HU.out.2.2.2.2]
    clear HU
    have e1 := Kb.new (w.alloc (.cells #[.int .i64 0, .int .i64 0, .int .i64 0, .int .i64 0] 53)) (h % 16) (h / 128 % 8192) (h / 16 % 8) (h / 1048576)
    simp only [World.size_alloc] at e1
    have c0 := e1.c0
    have c1 := e1.c1
    have c2 := e1.c2
    have c3 := e1.c3
    clear e1
    go_enter Tryd.func24, Tryd.ntmps24
    go_wp2_with fail
    refine (H1.out _).mono ?_
    rintro e w1 ⟨rfl, f1⟩
    have HZ1 := hid (HZ.out w1 f1)
    clear f1 HZ c0 c1 c2 c3
    have z0 := HZ1.out.1.c0
    have z1 := HZ1.out.1.c1
    have z2 := HZ1.out.1.c2
    have z3 := HZ1.out.1.c3
    have g : ∀ k, w1.frozen? ⟨w.heap.size, k, none⟩ = false := fun k => HZ1.out.1.g k
    go_wp2
    have k0 := (HZ1.out.1.put 0 0 0 0).c0
    have k1 := (HZ1.out.1.put 0 0 0 0).c1
    have k2 := (HZ1.out.1.put 0 0 0 0).c2
    have k3 := (HZ1.out.1.put 0 0 0 0).c3
    exact bodyPost_ret (v := .tuple #[.agg #[.int .i64 0, .int .i64 0, .int .i64 0, .int .i64 0], .int .i64 5]) (by simp [results, Tryd.results24, go_sem, k0, k1, k2, k3]) rfl ⟨rfl, ((((Fr.setCell HZ1.out.2.2 (p := ⟨w.heap.size, 0, none⟩) (Nat.le_refl _) _).setCell (p := ⟨w.heap.size, 1, none⟩) (Nat.le_refl _) _).setCell (p := ⟨w.heap.size, 2, none⟩) (Nat.le_refl _) _).setCell (p := ⟨w.heap.size, 3, none⟩) (Nat.le_refl _) _).new⟩
end Go.Proofs.YtcleheapfgapaaaDoor
