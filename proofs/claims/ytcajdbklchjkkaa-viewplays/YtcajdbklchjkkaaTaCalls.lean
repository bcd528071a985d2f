/-
  What the calls of package table answer, and what they leave, at the landed code.
-/
import Derived.Test.YtcajdbklchjkkaaTaCallsB
import Derived.Test.YtcajdbklchjkkaaTaCallsC
namespace Go.Proofs.Ytcajdbklchjkkaa
open Go.RowKit

section
variable {w : World} {t : Nat} {Z : Nat → Prop} {T : Tb}
theorem Tm.kept {w' : World} (h : Tm t T w Z) (f : Fr (fun _ => False) w w') : Tm t T w' Z := (Tm.good t T).1 h f fun _ _ => id
theorem Tm.lt (h : Tm t T w Z) : ∀ i, Z i → i < w.heap.size := by obtain ⟨m1, m2, h⟩ := h; exact h.lt
theorem c_new (w : World) : Calls Try.prog 8 #[] w fun e w' => ∃ t Z, e = .returned (.pointer (some ⟨t, 0, none⟩)) ∧ Tm t [] w' Z ∧ Fr (fun _ => False) w w' ∧ ∀ i, Z i → w.heap.size ≤ i ∧ i < w'.heap.size := by
  go_enter Try.func8, Try.ntmps8
  go_wp2
  go_ret
  exact ⟨w.heap.size, fun i => i = w.heap.size, by simp, ⟨none, none, heap_alloc_new w _, .inl ⟨rfl, fun _ => rfl, rfl⟩, .inl ⟨rfl, fun _ => rfl, rfl⟩, Iff.rfl, rfl, (fun B e => by cases e), (fun B e => by cases e), (fun B e => by cases e), (fun i e => by subst e; simp)⟩, (Fr.refl _ _).alloc _, fun i e => by subst e; simp⟩
theorem c_find (h : Tm t T w Z) (ok : TbOk T) {v : Int} (hv : I64 v) : Calls Try.prog 35 #[.pointer (some ⟨t, 0, none⟩), .int .i64 v] w fun e w' => e = .returned (.int .i64 (tbF T v)) ∧ Fr (fun _ => False) w w' := by
  obtain ⟨m1, m2, h⟩ := h
  refine (u_find h.c h.o1 hv).mono ?_
  rintro e w' ⟨rfl, rfl⟩
  exact ⟨by rw [← fF_get ok], Fr.refl _ _⟩
theorem c_find_nil (v : Int) (w : World) : Calls Try.prog 35 #[.pointer none, .int .i64 v] w fun e w' => e = .returned (.int .i64 (-1)) ∧ Fr (fun _ => False) w w' := by
  go_enter Try.func35, Try.ntmps35
  go_wp2
  go_ret
  exact ⟨by simp, Fr.refl _ _⟩
theorem c_holder (h : Tm t T w Z) (ok : TbOk T) {p : Int} (hp : I64 p) : Calls Try.prog 24 #[.pointer (some ⟨t, 0, none⟩), .int .i64 p] w fun e w' => e = .returned (.int .i64 (tbH T p)) ∧ Fr (fun _ => False) w w' := by
  obtain ⟨m1, m2, h⟩ := h
  refine (u_holder h.c h.o2 hp).mono ?_
  rintro e w' ⟨rfl, rfl⟩
  exact ⟨by rw [← fH_get ok], Fr.refl _ _⟩
theorem c_holder_nil (p : Int) (w : World) : Calls Try.prog 24 #[.pointer none, .int .i64 p] w fun e w' => e = .returned (.int .i64 (-1)) ∧ Fr (fun _ => False) w w' := by
  go_enter Try.func24, Try.ntmps24
  go_wp2
  go_ret
  exact ⟨by simp, Fr.refl _ _⟩
theorem c_pieces_c (h : Tm t T w Z) (ok : TbOk T) {a n : Int} (ha : I64 a) (hn : I64 n) : Calls Try.prog 21 #[.pointer (some ⟨t, 0, none⟩), .int .i64 a, .int .i64 n] w fun e w' => ∃ ad cap, e = .returned (.tuple #[.slice ad (piL T a n).length cap, .int .i64 (piE T a n)]) ∧ SpAt w' ad (piL T a n) ∧ (∀ b off, ad = some ⟨b, off, none⟩ → 0 < (piL T a n).length → w.heap.size ≤ b) ∧ Fr (fun _ => False) w w' ∧ (piL T a n).length ≤ cap := u_pieces_c h ok ha hn
theorem c_pieces (h : Tm t T w Z) (ok : TbOk T) {a n : Int} (ha : I64 a) (hn : I64 n) : Calls Try.prog 21 #[.pointer (some ⟨t, 0, none⟩), .int .i64 a, .int .i64 n] w fun e w' => ∃ ad cap, e = .returned (.tuple #[.slice ad (piL T a n).length cap, .int .i64 (piE T a n)]) ∧ SpAt w' ad (piL T a n) ∧ (∀ b off, ad = some ⟨b, off, none⟩ → 0 < (piL T a n).length → w.heap.size ≤ b) ∧ Fr (fun _ => False) w w' := u_pieces h ok ha hn
theorem c_pieces_nil (a n : Int) (w : World) : Calls Try.prog 21 #[.pointer none, .int .i64 a, .int .i64 n] w fun e w' => ∃ ad cap, e = .returned (.tuple #[.slice ad 0 cap, .int .i64 11]) ∧ Fr (fun _ => False) w w' := by
  go_enter Try.func21, Try.ntmps21
  go_wp2
  go_ret2
  exact ⟨none, 0, by simp, Fr.refl _ _⟩
set_option maxRecDepth 20000 in
theorem c_map_no (h : Tm t T w Z) (ok : TbOk T) {v p : Int} (hv : I64 v) (hp : I64 p) (hs : ¬ ((VOk v ∧ POk p) ∧ tbF T v < 0 ∧ tbH T p < 0)) : Calls Try.prog 17 #[.pointer (some ⟨t, 0, none⟩), .int .i64 v, .int .i64 p] w fun e w' => e = .returned (.int .i64 (tbME T v p)) ∧ Fr (fun _ => False) w w' := by
  have HL := hid (u_local (v := v) (Fr.refl _ w : Pt.K w w))
  have HP : Hid (∀ w0, Calls Try.prog 34 #[.int .i64 p] w0 fun e w' => e = .returned (.bool (decide (POk p))) ∧ w' = w0) := fun w0 => u_page p w0
  have H1 : Hid (∀ w0, Fr (fun _ => False) w w0 → Calls Try.prog 35 #[.pointer (some ⟨t, 0, none⟩), .int .i64 v] w0 fun e w' => e = .returned (.int .i64 (tbF T v)) ∧ Fr (fun _ => False) w w') := fun w0 f => (c_find (h.kept f) ok hv).mono fun _ _ ⟨he, f2⟩ => ⟨he, f.trans f2⟩
  have HH : Hid (∀ w0, Fr (fun _ => False) w w0 → Calls Try.prog 24 #[.pointer (some ⟨t, 0, none⟩), .int .i64 p] w0 fun e w' => e = .returned (.int .i64 (tbH T p)) ∧ Fr (fun _ => False) w w') := fun w0 f => (c_holder (h.kept f) ok hp).mono fun _ _ ⟨he, f2⟩ => ⟨he, f.trans f2⟩
  have r1 := ok.f_range v
  have r2 := ok.h_range p
  unfold tbME
  by_cases c0 : VOk v
  case neg =>
    rw [if_neg fun e => c0 e.1]
    rw [decide_eq_false c0] at HL
    clear h ok hv hp hs HH H1 HP r1 r2 c0
    go_enter Try.func17, Try.ntmps17
    go_wp2_with fail
    refine HL.out.mono ?_
    rintro e w1 ⟨rfl, hf1⟩
    have HF := hid hf1
    clear hf1
    go_wp2
    go_ret
    exact ⟨by simp, HF.out⟩
  rw [decide_eq_true c0] at HL
  by_cases c1 : POk p
  case neg =>
    rw [if_neg fun e => c1 e.2]
    rw [decide_eq_false c1] at HP
    clear h ok hv hp hs HH H1 r1 r2 c0 c1
    go_enter Try.func17, Try.ntmps17
    go_wp2_with fail
    refine HL.out.mono ?_
    rintro e w1 ⟨rfl, hf1⟩
    have HF := hid hf1
    clear hf1
    go_wp2_with fail
    refine (HP.out _).mono ?_
    rintro e w2 ⟨rfl, hw⟩
    obtain rfl := hw.symm
    go_wp2
    go_ret
    exact ⟨by simp, HF.out⟩
  rw [decide_eq_true c1] at HP
  rw [if_pos ⟨c0, c1⟩]
  have hs2 : ¬ (tbF T v < 0 ∧ tbH T p < 0) := fun e => hs ⟨⟨c0, c1⟩, e⟩
  rw [if_neg hs2]
  by_cases c2 : tbF T v < 0
  · have c3 : ¬ tbH T p < 0 := fun c3 => hs2 ⟨c2, c3⟩
    have q1 : tbF T v = -1 := by omega
    have q2 : (tbH T p != -1) = true := by simp; omega
    rw [q1] at H1
    clear h ok hv hp hs r1 r2 c0 c1 c2 c3 hs2 q1
    generalize tbH T p = z at *
    go_enter Try.func17, Try.ntmps17
    go_wp2_with fail
    refine HL.out.mono ?_
    rintro e w1 ⟨rfl, hf1⟩
    have HF := hid hf1
    clear hf1
    go_wp2_with fail
    refine (HP.out _).mono ?_
    rintro e w2 ⟨rfl, hw⟩
    obtain rfl := hw.symm
    clear hw
    go_wp2_with fail
    refine (H1.out _ HF.out).mono ?_
    rintro e w3 ⟨rfl, hf3⟩
    have HF3 := hid hf3
    clear hf3
    go_wp2_with fail
    refine (HH.out _ HF3.out).mono ?_
    rintro e w4 ⟨rfl, hf4⟩
    have HF4 := hid hf4
    clear hf4
    go_wp2
    go_ret
    exact ⟨by simp, HF4.out⟩
  · have q1 : (tbF T v != -1) = true := by simp; omega
    clear h ok hv hp hs r1 r2 c0 c1 c2 hs2
    generalize tbF T v = y at *
    go_enter Try.func17, Try.ntmps17
    go_wp2_with fail
    refine HL.out.mono ?_
    rintro e w1 ⟨rfl, hf1⟩
    have HF := hid hf1
    clear hf1
    go_wp2_with fail
    refine (HP.out _).mono ?_
    rintro e w2 ⟨rfl, hw⟩
    obtain rfl := hw.symm
    clear hw
    go_wp2_with fail
    refine (H1.out _ HF.out).mono ?_
    rintro e w3 ⟨rfl, hf3⟩
    have HF3 := hid hf3
    clear hf3
    go_wp2
    go_ret
    exact ⟨by simp, HF3.out⟩
set_option maxRecDepth 20000 in
theorem c_map_yes (h : Tm t T w Z) (ok : TbOk T) {v p : Int} (hv : I64 v) (hp : I64 p) (hs : (VOk v ∧ POk p) ∧ tbF T v < 0 ∧ tbH T p < 0) : Calls Try.prog 17 #[.pointer (some ⟨t, 0, none⟩), .int .i64 v, .int .i64 p] w fun e w' => e = .returned (.int .i64 0) ∧ ∃ Z', Tm t (tbI T v p) w' Z' ∧ Gw w w' Z Z' := by
  have HL := hid (u_local (v := v) (Fr.refl _ w : Pt.K w w))
  have HP : Hid (∀ w0, Calls Try.prog 34 #[.int .i64 p] w0 fun e w' => e = .returned (.bool (decide (POk p))) ∧ w' = w0) := fun w0 => u_page p w0
  have H1 : Hid (∀ w0, Fr (fun _ => False) w w0 → Calls Try.prog 35 #[.pointer (some ⟨t, 0, none⟩), .int .i64 v] w0 fun e w' => e = .returned (.int .i64 (tbF T v)) ∧ Fr (fun _ => False) w w') := fun w0 f => (c_find (h.kept f) ok hv).mono fun _ _ ⟨he, f2⟩ => ⟨he, f.trans f2⟩
  have HH : Hid (∀ w0, Fr (fun _ => False) w w0 → Calls Try.prog 24 #[.pointer (some ⟨t, 0, none⟩), .int .i64 p] w0 fun e w' => e = .returned (.int .i64 (tbH T p)) ∧ Fr (fun _ => False) w w') := fun w0 f => (c_holder (h.kept f) ok hp).mono fun _ _ ⟨he, f2⟩ => ⟨he, f.trans f2⟩
  have HJ : Hid (∀ w0, Fr (fun _ => False) w w0 → Calls Try.prog 36 #[.pointer (some ⟨t, 0, none⟩), .int .i64 v, .int .i64 p] w0 fun e w' => e = .returned (.tuple #[]) ∧ ∃ Z', Tm t (tbI T v p) w' Z' ∧ Gw w w' Z Z') := fun w0 f => (u_join (h.kept f) ok hs.1.1 hs.1.2 hs.2.1 hs.2.2).mono fun _ _ ⟨he, Z', h1, h2⟩ => ⟨he, Z', h1, h2.ahead f⟩
  have r1 := ok.f_range v
  have r2 := ok.h_range p
  rw [decide_eq_true hs.1.1] at HL
  rw [decide_eq_true hs.1.2] at HP
  have q1 : tbF T v = -1 := by omega
  have q2 : tbH T p = -1 := by omega
  rw [q1] at H1
  rw [q2] at HH
  clear h ok hv hp hs r1 r2 q1 q2
  go_enter Try.func17, Try.ntmps17
  go_wp2_with fail
  refine HL.out.mono ?_
  rintro e w1 ⟨rfl, hf1⟩
  have HF := hid hf1
  clear hf1
  go_wp2_with fail
  refine (HP.out _).mono ?_
  rintro e w2 ⟨rfl, hw⟩
  obtain rfl := hw.symm
  clear hw
  go_wp2_with fail
  refine (H1.out _ HF.out).mono ?_
  rintro e w3 ⟨rfl, hf3⟩
  have HF3 := hid hf3
  clear hf3
  go_wp2_with fail
  refine (HH.out _ HF3.out).mono ?_
  rintro e w4 ⟨rfl, hf4⟩
  have HF4 := hid hf4
  clear hf4
  go_wp2_with fail
  refine (HJ.out _ HF4.out).mono ?_
  rintro e w5 ⟨rfl, h5⟩
  have HR := hid h5
  clear h5
  go_wp2
  go_ret
  exact ⟨by simp, HR.out⟩
theorem c_map (h : Tm t T w Z) (ok : TbOk T) {v p : Int} (hv : I64 v) (hp : I64 p) : Calls Try.prog 17 #[.pointer (some ⟨t, 0, none⟩), .int .i64 v, .int .i64 p] w fun e w' => e = .returned (.int .i64 (tbME T v p)) ∧ ∃ Z', Tm t (tbM T v p) w' Z' ∧ Gw w w' Z Z' := by
  by_cases hs : (VOk v ∧ POk p) ∧ tbF T v < 0 ∧ tbH T p < 0
  · have e2 : tbME T v p = 0 := by unfold tbME; rw [if_pos hs.1, if_pos hs.2]
    have e3 : tbM T v p = tbI T v p := if_pos hs
    rw [e2, e3]
    exact c_map_yes h ok hv hp hs
  · have e3 : tbM T v p = T := if_neg hs
    rw [e3]
    exact (c_map_no h ok hv hp hs).mono fun _ _ ⟨he, f⟩ => ⟨he, Z, h.kept f, Gw.same h.lt (f.mono fun _ _ e => e.elim)⟩
theorem c_map_nil (v p : Int) (w : World) : Calls Try.prog 17 #[.pointer none, .int .i64 v, .int .i64 p] w fun e w' => e = .returned (.int .i64 11) ∧ Fr (fun _ => False) w w' := by
  go_enter Try.func17, Try.ntmps17
  go_wp2
  go_ret
  exact ⟨by simp, Fr.refl _ _⟩
end
end Go.Proofs.Ytcajdbklchjkkaa
