/-
  What the calls of package table answer, and what they leave, at the landed code.
-/
import Derived.Test.YtpmajadljlibbaaTaCallsB
import Derived.Test.YtpmajadljlibbaaTaCallsC
import Derived.Test.YtpmajadljlibbaaTaSorted
namespace Go.Proofs.Ytpmajadljlibbaa
open Go.RowKit

section
variable {w : World} {t : Nat} {Z : Nat → Prop} {T : Tb}
theorem Tm.kept {w' : World} (h : Tm t T w Z) (f : Fr (fun _ => False) w w') : Tm t T w' Z := (Tm.good t T).1 h f fun _ _ => id
theorem Tm.lt (h : Tm t T w Z) : ∀ i, Z i → i < w.heap.size := by obtain ⟨m1, m2, h⟩ := h; exact h.lt
theorem c_new (w : World) : Calls Try.prog 8 #[] w fun e w' => ∃ t Z, e = .returned (.pointer (some ⟨t, 0, none⟩)) ∧ Tm t [] w' Z ∧ Fr (fun _ => False) w w' ∧ ∀ i, Z i → w.heap.size ≤ i ∧ i < w'.heap.size := by
  go_enter Try.func8, Try.ntmps8
  go_wp2
  go_ret
  exact ⟨w.heap.size, fun i => i = w.heap.size, by simp, ⟨none, none, heap_alloc_new w _, .inl ⟨rfl, fun _ => rfl, rfl⟩, .inl ⟨rfl, fun _ => rfl, rfl⟩, Iff.rfl, rfl, (fun B e => by cases e), (fun B e => by cases e), (fun B e => by cases e), (fun i e => by subst e; simp)⟩, (Fr.refl _ _).alloc _, fun i e => by subst e; simp⟩
theorem c_find (h : Tm t T w Z) (ok : TbOk T) {v : Int} (hv : I64 v) : Calls Try.prog 19 #[.pointer (some ⟨t, 0, none⟩), .int .i64 v] w fun e w' => e = .returned (.int .i64 (tbF T v)) ∧ Fr (fun _ => False) w w' := by
  obtain ⟨m1, m2, h⟩ := h
  refine (u_find h.c h.o1 hv).mono ?_
  rintro e w' ⟨rfl, rfl⟩
  exact ⟨by rw [← fF_get ok], Fr.refl _ _⟩
theorem c_find_nil (v : Int) (w : World) : Calls Try.prog 19 #[.pointer none, .int .i64 v] w fun e w' => e = .returned (.int .i64 (-1)) ∧ Fr (fun _ => False) w w' := by
  go_enter Try.func19, Try.ntmps19
  go_wp2
  go_ret
  exact ⟨by simp, Fr.refl _ _⟩
theorem c_holder (h : Tm t T w Z) (ok : TbOk T) {p : Int} (hp : I64 p) : Calls Try.prog 21 #[.pointer (some ⟨t, 0, none⟩), .int .i64 p] w fun e w' => e = .returned (.int .i64 (tbH T p)) ∧ Fr (fun _ => False) w w' := by
  obtain ⟨m1, m2, h⟩ := h
  refine (u_holder h.c h.o2 hp).mono ?_
  rintro e w' ⟨rfl, rfl⟩
  exact ⟨by rw [← fH_get ok], Fr.refl _ _⟩
theorem c_holder_nil (p : Int) (w : World) : Calls Try.prog 21 #[.pointer none, .int .i64 p] w fun e w' => e = .returned (.int .i64 (-1)) ∧ Fr (fun _ => False) w w' := by
  go_enter Try.func21, Try.ntmps21
  go_wp2
  go_ret
  exact ⟨by simp, Fr.refl _ _⟩
theorem c_all (h : Tm t T w Z) (ok : TbOk T) : Calls Try.prog 25 #[.pointer (some ⟨t, 0, none⟩)] w fun e w' => ∃ ad cap, e = .returned (.slice ad (T.map Prod.fst).length cap) ∧ NumsAt w' ad (T.map Prod.fst) ∧ (∀ b off, ad = some ⟨b, off, none⟩ → 0 < (T.map Prod.fst).length → w.heap.size ≤ b) ∧ Fr (fun _ => False) w w' := by
  obtain ⟨m1, m2, h⟩ := h
  exact u_all h.c h.o1 ok
theorem c_all_nil (w : World) : Calls Try.prog 25 #[.pointer none] w fun e w' => ∃ ad cap, e = .returned (.slice ad 0 cap) ∧ Fr (fun _ => False) w w' := by
  go_enter Try.func25, Try.ntmps25
  go_wp2
  go_ret
  exact ⟨none, 0, by simp, Fr.refl _ _⟩
theorem c_pieces (h : Tm t T w Z) (ok : TbOk T) {a n : Int} (ha : I64 a) (hn : I64 n) : Calls Try.prog 15 #[.pointer (some ⟨t, 0, none⟩), .int .i64 a, .int .i64 n] w fun e w' => ∃ ad cap, e = .returned (.tuple #[.slice ad (piL T a n).length cap, .int .i64 (piE T a n)]) ∧ SpAt w' ad (piL T a n) ∧ (∀ b off, ad = some ⟨b, off, none⟩ → 0 < (piL T a n).length → w.heap.size ≤ b) ∧ Fr (fun _ => False) w w' := u_pieces h ok ha hn
theorem c_pieces_nil (a n : Int) (w : World) : Calls Try.prog 15 #[.pointer none, .int .i64 a, .int .i64 n] w fun e w' => ∃ ad cap, e = .returned (.tuple #[.slice ad 0 cap, .int .i64 11]) ∧ Fr (fun _ => False) w w' := by
  go_enter Try.func15, Try.ntmps15
  go_wp2
  go_ret2
  exact ⟨none, 0, by simp, Fr.refl _ _⟩
theorem c_len (h : Tm t T w Z) (_ok : TbOk T) : Calls Try.prog 23 #[.pointer (some ⟨t, 0, none⟩)] w fun e w' => e = .returned (.int .i64 T.length) ∧ Fr (fun _ => False) w w' := by
  obtain ⟨m1, m2, h⟩ := h
  refine (u_len h.c h.o1).mono ?_
  rintro e w' ⟨rfl, rfl⟩
  exact ⟨rfl, Fr.refl _ _⟩
theorem c_len_nil (w : World) : Calls Try.prog 23 #[.pointer none] w fun e w' => e = .returned (.int .i64 0) ∧ Fr (fun _ => False) w w' := by
  go_enter Try.func23, Try.ntmps23
  go_wp2
  go_ret
  exact ⟨by simp, Fr.refl _ _⟩
set_option maxRecDepth 20000 in
theorem c_copy (h : Tm t T w Z) (_ok : TbOk T) : Calls Try.prog 18 #[.pointer (some ⟨t, 0, none⟩)] w fun e w' => ∃ t' Z', e = .returned (.pointer (some ⟨t', 0, none⟩)) ∧ Tm t' T w' Z' ∧ Fr (fun _ => False) w w' ∧ ∀ i, Z' i → w.heap.size ≤ i ∧ i < w'.heap.size := by
  obtain ⟨m1, m2, h⟩ := h
  have H1 : Hid (∀ w0, Fr (fun _ => False) w w0 → Calls Try.prog 35 #[.map m1] w0 fun e w' => ∃ m', e = .returned (.map m') ∧ Og w' m' (fF T) T.length ∧ (m' = none ↔ m1 = none) ∧ Fr (fun _ => False) w0 w' ∧ ∀ B, m' = some B → w0.heap.size ≤ B ∧ B < w'.heap.size) := fun w0 f => u_clone (h.o1.carry f fun _ _ => id)
  have H2 : Hid (∀ w0, Fr (fun _ => False) w w0 → Calls Try.prog 35 #[.map m2] w0 fun e w' => ∃ m', e = .returned (.map m') ∧ Og w' m' (fH T) T.length ∧ (m' = none ↔ m2 = none) ∧ Fr (fun _ => False) w0 w' ∧ ∀ B, m' = some B → w0.heap.size ≤ B ∧ B < w'.heap.size) := fun w0 f => u_clone (h.o2.carry f fun _ _ => id)
  have HN := hid h.nn
  have HC : Hid (∀ w0, Fr (fun _ => False) w w0 → w0.cell? ⟨t, 0, none⟩ = some (.map m1) ∧ w0.cell? ⟨t, 1, none⟩ = some (.map m2)) := fun w0 f => ⟨(h.c.carry f id).c0, (h.c.carry f id).c1⟩
  obtain ⟨c0, c1⟩ := HC.out w (Fr.refl _ _)
  clear h
  go_enter Try.func18, Try.ntmps18
  go_wp2_with fail
  go_region_held3 (fun w' => w'.cell? ⟨t, 0, none⟩ = some (.map m1) ∧ w'.cell? ⟨t, 1, none⟩ = some (.map m2)) (first | exact ⟨by assumption, by assumption⟩ | go_keep) (first
    | (go_at_call 35; refine (H2.out _ F1.out).mono ?_; rintro e w2 ⟨mb, rfl, o2, n2, f2, b2⟩; obtain ⟨d0, d1⟩ := HC.out _ (F1.out.trans f2); have O2 := hid (And.intro o2 (And.intro n2 b2)); have F2 := hid f2; clear o2 n2 f2 b2)
    | (go_at_call 35; refine (H1.out _ (Fr.refl _ _).drew).mono ?_; rintro e w1 ⟨ma, rfl, o1, n1, f1, b1⟩; have F1 := hid (Fr.trans ((Fr.refl _ _).drew) f1); obtain ⟨c10, c11⟩ := HC.out _ F1.out; have O1 := hid (And.intro o1 (And.intro n1 b1)); clear o1 n1 f1 b1))
  go_wp2
  go_ret
  have g2 : Fr (fun _ => False) w2 (w2.alloc (.cells #[.map ma, .map mb] 54)) := (Fr.refl _ _).alloc _
  have s1 : w.heap.size ≤ w1.heap.size := F1.out.size
  have s2 : w1.heap.size ≤ w2.heap.size := F2.out.size
  refine ⟨w2.heap.size, fun i => i = w2.heap.size ∨ ma = some i ∨ mb = some i, by simp, ⟨ma, mb, heap_alloc_new w2 _, (O1.out.1.carry F2.out fun _ _ => id).carry g2 fun _ _ => id, O2.out.1.carry g2 fun _ _ => id, ?_, .inl rfl, fun B e => ⟨.inr (.inl e), ?_⟩, fun B e => ⟨.inr (.inr e), ?_⟩, fun B e e2 => ?_, fun i e => ?_⟩, (F1.out.trans F2.out).trans g2, fun i e => ?_⟩
  · rw [O1.out.2.1, O2.out.2.1]; exact HN.out
  · have := (O1.out.2.2 B e).2; omega
  · have := (O2.out.2.2 B e).2; omega
  · have q1 := (O1.out.2.2 B e).2
    have q2 := (O2.out.2.2 B e2).1
    omega
  · rw [World.alloc, Array.size_push]
    rcases e with e | e | e
    · omega
    · have := (O1.out.2.2 i e).2; omega
    · have := (O2.out.2.2 i e).2; omega
  · have hz : (w2.alloc (.cells #[.map ma, .map mb] 54)).heap.size = w2.heap.size + 1 := by simp
    rw [hz]
    rcases e with e | e | e
    · omega
    · have := O1.out.2.2 i e
      have : w.drew.heap.size = w.heap.size := rfl
      omega
    · have := O2.out.2.2 i e; omega
theorem c_copy_nil (w : World) : Calls Try.prog 18 #[.pointer none] w fun e w' => e = .returned (.pointer none) ∧ Fr (fun _ => False) w w' := by
  go_enter Try.func18, Try.ntmps18
  go_wp2
  go_ret
  exact ⟨by simp, Fr.refl _ _⟩
set_option maxRecDepth 20000 in
theorem c_unmap (h : Tm t T w Z) (ok : TbOk T) {v : Int} (hv : I64 v) : Calls Try.prog 11 #[.pointer (some ⟨t, 0, none⟩), .int .i64 v] w fun e w' => e = .returned (.tuple #[.int .i64 (tbUV T v), .int .i64 (tbUE T v)]) ∧ ∃ Z', Tm t (tbU T v) w' Z' ∧ Gw w w' Z Z' := by
  have H1 := hid (c_find h ok hv)
  have hr := ok.f_range v
  unfold tbUV tbUE
  by_cases hf : tbF T v < 0
  · rw [if_pos hf, if_pos hf, tbU_gone ok hf]
    have e1 : tbF T v = -1 := by omega
    have HR : Hid (∀ w', Fr (fun _ => False) w w' → ∃ Z', Tm t T w' Z' ∧ Gw w w' Z Z') := fun w' f => ⟨Z, h.kept f, Gw.same h.lt (f.mono fun _ _ e => e.elim)⟩
    rw [e1] at H1
    clear h ok hv hr hf e1
    go_enter Try.func11, Try.ntmps11
    go_wp2_with fail
    refine H1.out.mono ?_
    rintro e w1 ⟨rfl, hf1⟩
    have HF := hid hf1
    clear hf1
    go_wp2
    go_ret2
    exact ⟨by simp, HR.out _ HF.out⟩
  · rw [if_neg hf, if_neg hf]
    have H2 : Hid (∀ w0, Fr (fun _ => False) w w0 → Calls Try.prog 30 #[.pointer (some ⟨t, 0, none⟩), .int .i64 v, .int .i64 (tbF T v)] w0 fun e w' => e = .returned (.tuple #[]) ∧ ∃ Z', Tm t (tbU T v) w' Z' ∧ Gw w w' Z Z') := fun w0 f => (u_part (h.kept f) ok hf).mono fun _ _ ⟨he, Z', h1, h2⟩ => ⟨he, Z', h1, h2.ahead f⟩
    have hq1 : (tbF T v == -1) = false := by simp; omega
    clear h ok hv hr hf
    generalize tbF T v = p at *
    go_enter Try.func11, Try.ntmps11
    go_wp2_with fail
    refine H1.out.mono ?_
    rintro e w1 ⟨rfl, hf1⟩
    have HF := hid hf1
    clear hf1
    go_wp2_with fail
    refine (H2.out _ HF.out).mono ?_
    rintro e w2 ⟨rfl, h2⟩
    have HR := hid h2
    clear h2
    go_wp2
    go_ret2
    exact ⟨by simp, HR.out⟩
theorem c_unmap_nil (v : Int) (w : World) : Calls Try.prog 11 #[.pointer none, .int .i64 v] w fun e w' => e = .returned (.tuple #[.int .i64 0, .int .i64 11]) ∧ Fr (fun _ => False) w w' := by
  go_enter Try.func11, Try.ntmps11
  go_wp2
  go_ret2
  exact ⟨by simp, Fr.refl _ _⟩
set_option maxRecDepth 20000 in
theorem c_swap_no (h : Tm t T w Z) (ok : TbOk T) {v p : Int} (hv : I64 v) (hp : I64 p) (hs : ¬ SwOk T v p) : Calls Try.prog 13 #[.pointer (some ⟨t, 0, none⟩), .int .i64 v, .int .i64 p] w fun e w' => e = .returned (.tuple #[.int .i64 0, .int .i64 (tbSE T v p)]) ∧ Fr (fun _ => False) w w' := by
  have H1 := hid (c_find h ok hv)
  have HP : Hid (∀ w0, Calls Try.prog 28 #[.int .i64 p] w0 fun e w' => e = .returned (.bool (decide (POk p))) ∧ w' = w0) := fun w0 => u_page p w0
  have HH : Hid (∀ w0, Fr (fun _ => False) w w0 → Calls Try.prog 21 #[.pointer (some ⟨t, 0, none⟩), .int .i64 p] w0 fun e w' => e = .returned (.int .i64 (tbH T p)) ∧ Fr (fun _ => False) w w') := fun w0 f => (c_holder (h.kept f) ok hp).mono fun _ _ ⟨he, f2⟩ => ⟨he, f.trans f2⟩
  have r1 := ok.f_range v
  have r2 := ok.h_range p
  unfold tbSE
  by_cases c1 : POk p
  case neg =>
    rw [if_pos c1]
    rw [decide_eq_false c1] at HP
    clear h ok hv hp hs HH r1 r2 c1
    generalize tbF T v = y at *
    go_enter Try.func13, Try.ntmps13
    go_wp2_with fail
    refine H1.out.mono ?_
    rintro e w1 ⟨rfl, hf1⟩
    have HF := hid hf1
    clear hf1
    go_wp2_with fail
    refine (HP.out _).mono ?_
    rintro e w2 ⟨rfl, hw⟩
    obtain rfl := hw.symm
    go_wp2
    go_ret2
    exact ⟨by simp, HF.out⟩
  rw [if_neg (by simpa using c1)]
  rw [decide_eq_true c1] at HP
  by_cases c2 : tbF T v < 0
  case pos =>
    rw [if_pos c2]
    have e1 : tbF T v = -1 := by omega
    rw [e1] at H1
    clear h ok hv hp hs HH r1 r2 c1 c2 e1
    go_enter Try.func13, Try.ntmps13
    go_wp2_with fail
    refine H1.out.mono ?_
    rintro e w1 ⟨rfl, hf1⟩
    have HF := hid hf1
    clear hf1
    go_wp2_with fail
    refine (HP.out _).mono ?_
    rintro e w2 ⟨rfl, hw⟩
    obtain rfl := hw.symm
    go_wp2
    go_ret2
    exact ⟨by simp, HF.out⟩
  rw [if_neg c2]
  have c3 : ¬ tbH T p < 0 := fun c3 => hs ⟨c1, c2, c3⟩
  rw [if_neg c3]
  have q1 : (tbF T v == -1) = false := by simp; omega
  have q2 : (tbH T p != -1) = true := by simp; omega
  clear h ok hv hp hs r1 r2 c1 c2 c3
  generalize tbF T v = y at *
  generalize tbH T p = z at *
  go_enter Try.func13, Try.ntmps13
  go_wp2_with fail
  refine H1.out.mono ?_
  rintro e w1 ⟨rfl, hf1⟩
  have HF := hid hf1
  clear hf1
  go_wp2_with fail
  refine (HP.out _).mono ?_
  rintro e w2 ⟨rfl, hw⟩
  obtain rfl := hw.symm
  clear hw
  go_wp2_with fail
  refine (HH.out _ HF.out).mono ?_
  rintro e w3 ⟨rfl, hf3⟩
  have HF3 := hid hf3
  clear hf3
  go_wp2
  go_ret2
  exact ⟨by simp, HF3.out⟩
set_option maxRecDepth 20000 in
theorem c_swap_yes (h : Tm t T w Z) (ok : TbOk T) {v p : Int} (hv : I64 v) (hp : I64 p) (hs : SwOk T v p) : Calls Try.prog 13 #[.pointer (some ⟨t, 0, none⟩), .int .i64 v, .int .i64 p] w fun e w' => e = .returned (.tuple #[.int .i64 (tbF T v), .int .i64 0]) ∧ ∃ Z', Tm t (tbW T v p) w' Z' ∧ Gw w w' Z Z' := by
  have H1 := hid (c_find h ok hv)
  have HP : Hid (∀ w0, Calls Try.prog 28 #[.int .i64 p] w0 fun e w' => e = .returned (.bool (decide (POk p))) ∧ w' = w0) := fun w0 => u_page p w0
  have HH : Hid (∀ w0, Fr (fun _ => False) w w0 → Calls Try.prog 21 #[.pointer (some ⟨t, 0, none⟩), .int .i64 p] w0 fun e w' => e = .returned (.int .i64 (tbH T p)) ∧ Fr (fun _ => False) w w') := fun w0 f => (c_holder (h.kept f) ok hp).mono fun _ _ ⟨he, f2⟩ => ⟨he, f.trans f2⟩
  have H2 : Hid (∀ w0, Fr (fun _ => False) w w0 → Calls Try.prog 30 #[.pointer (some ⟨t, 0, none⟩), .int .i64 v, .int .i64 (tbF T v)] w0 fun e w' => e = .returned (.tuple #[]) ∧ ∃ Z', Tm t (tbU T v) w' Z' ∧ Gw w w' Z Z') := fun w0 f => (u_part (h.kept f) ok hs.2.1).mono fun _ _ ⟨he, Z', h1, h2⟩ => ⟨he, Z', h1, h2.ahead f⟩
  have r1 := ok.f_range v
  have r2 := ok.h_range p
  have hm := ok.f_some hs.2.1
  have hvo := (ok.at_ _ hm).1
  simp only at hvo
  have n1 : tbF (tbU T v) v < 0 := by
    rcases tbF_or (v := v) (tbU T v) with ⟨e, _⟩ | e
    · omega
    · exact absurd rfl ((mem_tbU.1 e).2)
  have n2 : tbH (tbU T v) p < 0 := by
    rcases tbH_or (p := p) (tbU T v) with ⟨e, _⟩ | e
    · omega
    · exact absurd rfl ((ok.h_none hs.2.2).2 _ (mem_tbU.1 e).1)
  have H3 : Hid (∀ w0 Z0, Tm t (tbU T v) w0 Z0 → Gw w w0 Z Z0 → Calls Try.prog 29 #[.pointer (some ⟨t, 0, none⟩), .int .i64 v, .int .i64 p] w0 fun e w' => e = .returned (.tuple #[]) ∧ ∃ Z', Tm t (tbW T v p) w' Z' ∧ Gw w w' Z Z') := fun w0 Z0 h0 g0 => (u_join h0 (ok.unmap v) hvo hs.1 n1 n2).mono fun _ _ ⟨he, Z', h1, h2⟩ => ⟨he, Z', by rw [← tbI_tbU ok hs.2.1]; exact h1, g0.trans h2⟩
  rw [decide_eq_true hs.1] at HP
  have q1 : (tbF T v == -1) = false := by simp; omega
  have q2 : tbH T p = -1 := by omega
  rw [q2] at HH
  clear h ok hv hp r1 r2 hm hvo n1 n2 hs q2
  generalize tbF T v = y at *
  go_enter Try.func13, Try.ntmps13
  go_wp2_with fail
  refine H1.out.mono ?_
  rintro e w1 ⟨rfl, hf1⟩
  have HF := hid hf1
  clear hf1
  go_wp2_with fail
  refine (HP.out _).mono ?_
  rintro e w2 ⟨rfl, hw⟩
  obtain rfl := hw.symm
  clear hw
  go_wp2_with fail
  refine (HH.out _ HF.out).mono ?_
  rintro e w3 ⟨rfl, hf3⟩
  have HF3 := hid hf3
  clear hf3
  go_wp2_with fail
  refine (H2.out _ HF3.out).mono ?_
  rintro e w4 ⟨rfl, Z4, h4, g4⟩
  have HG4 := hid (And.intro h4 g4)
  clear h4 g4
  go_wp2_with fail
  refine (H3.out _ _ HG4.out.1 HG4.out.2).mono ?_
  rintro e w5 ⟨rfl, h5⟩
  have HR := hid h5
  clear h5
  go_wp2
  go_ret2
  exact ⟨by simp, HR.out⟩
theorem c_swap (h : Tm t T w Z) (ok : TbOk T) {v p : Int} (hv : I64 v) (hp : I64 p) : Calls Try.prog 13 #[.pointer (some ⟨t, 0, none⟩), .int .i64 v, .int .i64 p] w fun e w' => e = .returned (.tuple #[.int .i64 (tbSV T v p), .int .i64 (tbSE T v p)]) ∧ ∃ Z', Tm t (tbS T v p) w' Z' ∧ Gw w w' Z Z' := by
  by_cases hs : SwOk T v p
  · have e1 : tbSV T v p = tbF T v := if_pos hs
    have e2 : tbSE T v p = 0 := by unfold tbSE; rw [if_neg (by simpa using hs.1), if_neg hs.2.1, if_pos hs.2.2]
    have e3 : tbS T v p = tbW T v p := if_pos hs
    rw [e1, e2, e3]
    exact c_swap_yes h ok hv hp hs
  · have e1 : tbSV T v p = 0 := if_neg hs
    have e3 : tbS T v p = T := if_neg hs
    rw [e1, e3]
    exact (c_swap_no h ok hv hp hs).mono fun _ _ ⟨he, f⟩ => ⟨he, Z, h.kept f, Gw.same h.lt (f.mono fun _ _ e => e.elim)⟩
theorem c_swap_nil (v p : Int) (w : World) : Calls Try.prog 13 #[.pointer none, .int .i64 v, .int .i64 p] w fun e w' => e = .returned (.tuple #[.int .i64 0, .int .i64 11]) ∧ Fr (fun _ => False) w w' := by
  have H1 := hid (c_find_nil v w)
  go_enter Try.func13, Try.ntmps13
  go_wp2_with fail
  refine H1.out.mono ?_
  rintro e w1 ⟨rfl, hf1⟩
  have HF := hid hf1
  clear hf1
  go_wp2
  go_ret2
  exact ⟨by simp, HF.out⟩
set_option maxRecDepth 20000 in
theorem c_map_no (h : Tm t T w Z) (ok : TbOk T) {v p : Int} (hv : I64 v) (hp : I64 p) (hs : ¬ ((VOk v ∧ POk p) ∧ tbF T v < 0 ∧ tbH T p < 0)) : Calls Try.prog 9 #[.pointer (some ⟨t, 0, none⟩), .int .i64 v, .int .i64 p] w fun e w' => e = .returned (.int .i64 (tbME T v p)) ∧ Fr (fun _ => False) w w' := by
  have HL := hid (u_local (v := v) (Fr.refl _ w : Pt.K w w))
  have HP : Hid (∀ w0, Calls Try.prog 28 #[.int .i64 p] w0 fun e w' => e = .returned (.bool (decide (POk p))) ∧ w' = w0) := fun w0 => u_page p w0
  have H1 : Hid (∀ w0, Fr (fun _ => False) w w0 → Calls Try.prog 19 #[.pointer (some ⟨t, 0, none⟩), .int .i64 v] w0 fun e w' => e = .returned (.int .i64 (tbF T v)) ∧ Fr (fun _ => False) w w') := fun w0 f => (c_find (h.kept f) ok hv).mono fun _ _ ⟨he, f2⟩ => ⟨he, f.trans f2⟩
  have HH : Hid (∀ w0, Fr (fun _ => False) w w0 → Calls Try.prog 21 #[.pointer (some ⟨t, 0, none⟩), .int .i64 p] w0 fun e w' => e = .returned (.int .i64 (tbH T p)) ∧ Fr (fun _ => False) w w') := fun w0 f => (c_holder (h.kept f) ok hp).mono fun _ _ ⟨he, f2⟩ => ⟨he, f.trans f2⟩
  have r1 := ok.f_range v
  have r2 := ok.h_range p
  unfold tbME
  by_cases c0 : VOk v
  case neg =>
    rw [if_neg fun e => c0 e.1]
    rw [decide_eq_false c0] at HL
    clear h ok hv hp hs HH H1 HP r1 r2 c0
    go_enter Try.func9, Try.ntmps9
    go_wp2_with fail
    refine HL.out.mono ?_
    rintro e w1 ⟨rfl, hf1⟩
    have HF := hid hf1
    clear hf1
    go_wp2
    go_ret
    exact ⟨by simp, HF.out⟩
  rw [decide_eq_true c0] at HL
  by_cases c1 : POk p
  case neg =>
    rw [if_neg fun e => c1 e.2]
    rw [decide_eq_false c1] at HP
    clear h ok hv hp hs HH H1 r1 r2 c0 c1
    go_enter Try.func9, Try.ntmps9
    go_wp2_with fail
    refine HL.out.mono ?_
    rintro e w1 ⟨rfl, hf1⟩
    have HF := hid hf1
    clear hf1
    go_wp2_with fail
    refine (HP.out _).mono ?_
    rintro e w2 ⟨rfl, hw⟩
    obtain rfl := hw.symm
    go_wp2
    go_ret
    exact ⟨by simp, HF.out⟩
  rw [decide_eq_true c1] at HP
  rw [if_pos ⟨c0, c1⟩]
  have hs2 : ¬ (tbF T v < 0 ∧ tbH T p < 0) := fun e => hs ⟨⟨c0, c1⟩, e⟩
  rw [if_neg hs2]
  by_cases c2 : tbF T v < 0
  · have c3 : ¬ tbH T p < 0 := fun c3 => hs2 ⟨c2, c3⟩
    have q1 : tbF T v = -1 := by omega
    have q2 : (tbH T p != -1) = true := by simp; omega
    rw [q1] at H1
    clear h ok hv hp hs r1 r2 c0 c1 c2 c3 hs2 q1
    generalize tbH T p = z at *
    go_enter Try.func9, Try.ntmps9
    go_wp2_with fail
    refine HL.out.mono ?_
    rintro e w1 ⟨rfl, hf1⟩
    have HF := hid hf1
    clear hf1
    go_wp2_with fail
    refine (HP.out _).mono ?_
    rintro e w2 ⟨rfl, hw⟩
    obtain rfl := hw.symm
    clear hw
    go_wp2_with fail
    refine (H1.out _ HF.out).mono ?_
    rintro e w3 ⟨rfl, hf3⟩
    have HF3 := hid hf3
    clear hf3
    go_wp2_with fail
    refine (HH.out _ HF3.out).mono ?_
    rintro e w4 ⟨rfl, hf4⟩
    have HF4 := hid hf4
    clear hf4
    go_wp2
    go_ret
    exact ⟨by simp, HF4.out⟩
  · have q1 : (tbF T v != -1) = true := by simp; omega
    clear h ok hv hp hs r1 r2 c0 c1 c2 hs2
    generalize tbF T v = y at *
    go_enter Try.func9, Try.ntmps9
    go_wp2_with fail
    refine HL.out.mono ?_
    rintro e w1 ⟨rfl, hf1⟩
    have HF := hid hf1
    clear hf1
    go_wp2_with fail
    refine (HP.out _).mono ?_
    rintro e w2 ⟨rfl, hw⟩
    obtain rfl := hw.symm
    clear hw
    go_wp2_with fail
    refine (H1.out _ HF.out).mono ?_
    rintro e w3 ⟨rfl, hf3⟩
    have HF3 := hid hf3
    clear hf3
    go_wp2
    go_ret
    exact ⟨by simp, HF3.out⟩
set_option maxRecDepth 20000 in
theorem c_map_yes (h : Tm t T w Z) (ok : TbOk T) {v p : Int} (hv : I64 v) (hp : I64 p) (hs : (VOk v ∧ POk p) ∧ tbF T v < 0 ∧ tbH T p < 0) : Calls Try.prog 9 #[.pointer (some ⟨t, 0, none⟩), .int .i64 v, .int .i64 p] w fun e w' => e = .returned (.int .i64 0) ∧ ∃ Z', Tm t (tbI T v p) w' Z' ∧ Gw w w' Z Z' := by
  have HL := hid (u_local (v := v) (Fr.refl _ w : Pt.K w w))
  have HP : Hid (∀ w0, Calls Try.prog 28 #[.int .i64 p] w0 fun e w' => e = .returned (.bool (decide (POk p))) ∧ w' = w0) := fun w0 => u_page p w0
  have H1 : Hid (∀ w0, Fr (fun _ => False) w w0 → Calls Try.prog 19 #[.pointer (some ⟨t, 0, none⟩), .int .i64 v] w0 fun e w' => e = .returned (.int .i64 (tbF T v)) ∧ Fr (fun _ => False) w w') := fun w0 f => (c_find (h.kept f) ok hv).mono fun _ _ ⟨he, f2⟩ => ⟨he, f.trans f2⟩
  have HH : Hid (∀ w0, Fr (fun _ => False) w w0 → Calls Try.prog 21 #[.pointer (some ⟨t, 0, none⟩), .int .i64 p] w0 fun e w' => e = .returned (.int .i64 (tbH T p)) ∧ Fr (fun _ => False) w w') := fun w0 f => (c_holder (h.kept f) ok hp).mono fun _ _ ⟨he, f2⟩ => ⟨he, f.trans f2⟩
  have HJ : Hid (∀ w0, Fr (fun _ => False) w w0 → Calls Try.prog 29 #[.pointer (some ⟨t, 0, none⟩), .int .i64 v, .int .i64 p] w0 fun e w' => e = .returned (.tuple #[]) ∧ ∃ Z', Tm t (tbI T v p) w' Z' ∧ Gw w w' Z Z') := fun w0 f => (u_join (h.kept f) ok hs.1.1 hs.1.2 hs.2.1 hs.2.2).mono fun _ _ ⟨he, Z', h1, h2⟩ => ⟨he, Z', h1, h2.ahead f⟩
  have r1 := ok.f_range v
  have r2 := ok.h_range p
  rw [decide_eq_true hs.1.1] at HL
  rw [decide_eq_true hs.1.2] at HP
  have q1 : tbF T v = -1 := by omega
  have q2 : tbH T p = -1 := by omega
  rw [q1] at H1
  rw [q2] at HH
  clear h ok hv hp hs r1 r2 q1 q2
  go_enter Try.func9, Try.ntmps9
  go_wp2_with fail
  refine HL.out.mono ?_
  rintro e w1 ⟨rfl, hf1⟩
  have HF := hid hf1
  clear hf1
  go_wp2_with fail
  refine (HP.out _).mono ?_
  rintro e w2 ⟨rfl, hw⟩
  obtain rfl := hw.symm
  clear hw
  go_wp2_with fail
  refine (H1.out _ HF.out).mono ?_
  rintro e w3 ⟨rfl, hf3⟩
  have HF3 := hid hf3
  clear hf3
  go_wp2_with fail
  refine (HH.out _ HF3.out).mono ?_
  rintro e w4 ⟨rfl, hf4⟩
  have HF4 := hid hf4
  clear hf4
  go_wp2_with fail
  refine (HJ.out _ HF4.out).mono ?_
  rintro e w5 ⟨rfl, h5⟩
  have HR := hid h5
  clear h5
  go_wp2
  go_ret
  exact ⟨by simp, HR.out⟩
theorem c_map (h : Tm t T w Z) (ok : TbOk T) {v p : Int} (hv : I64 v) (hp : I64 p) : Calls Try.prog 9 #[.pointer (some ⟨t, 0, none⟩), .int .i64 v, .int .i64 p] w fun e w' => e = .returned (.int .i64 (tbME T v p)) ∧ ∃ Z', Tm t (tbM T v p) w' Z' ∧ Gw w w' Z Z' := by
  by_cases hs : (VOk v ∧ POk p) ∧ tbF T v < 0 ∧ tbH T p < 0
  · have e2 : tbME T v p = 0 := by unfold tbME; rw [if_pos hs.1, if_pos hs.2]
    have e3 : tbM T v p = tbI T v p := if_pos hs
    rw [e2, e3]
    exact c_map_yes h ok hv hp hs
  · have e3 : tbM T v p = T := if_neg hs
    rw [e3]
    exact (c_map_no h ok hv hp hs).mono fun _ _ ⟨he, f⟩ => ⟨he, Z, h.kept f, Gw.same h.lt (f.mono fun _ _ e => e.elim)⟩
theorem c_map_nil (v p : Int) (w : World) : Calls Try.prog 9 #[.pointer none, .int .i64 v, .int .i64 p] w fun e w' => e = .returned (.int .i64 11) ∧ Fr (fun _ => False) w w' := by
  go_enter Try.func9, Try.ntmps9
  go_wp2
  go_ret
  exact ⟨by simp, Fr.refl _ _⟩
end
end Go.Proofs.Ytpmajadljlibbaa
