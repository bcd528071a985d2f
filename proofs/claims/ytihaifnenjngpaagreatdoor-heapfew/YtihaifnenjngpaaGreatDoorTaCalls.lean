/-
  What the calls of package table answer, and what they leave, at the landed code.
-/
import Derived.Test.YtihaifnenjngpaaGreatDoorSpRow
import Derived.Test.YtihaifnenjngpaaGreatDoorTaSorted
namespace Go.Proofs.YtihaifnenjngpaaGreatDoor
open Go.RowKit

section
variable {w : World} {t : Nat} {Z : Nat → Prop} {T : Tb}
theorem Tm.kept {w' : World} (h : Tm t T w Z) (f : Fr (fun _ => False) w w') : Tm t T w' Z := (Tm.good t T).1 h f fun _ _ => id
theorem Tm.lt (h : Tm t T w Z) : ∀ i, Z i → i < w.heap.size := by obtain ⟨m1, m2, h⟩ := h; exact h.lt
theorem c_new (w : World) : Calls Tryz.prog 96 #[] w fun e w' => ∃ t Z, e = .returned (.pointer (some ⟨t, 0, none⟩)) ∧ Tm t [] w' Z ∧ Fr (fun _ => False) w w' ∧ ∀ i, Z i → w.heap.size ≤ i ∧ i < w'.heap.size := by
  go_enter Tryz.func96, Tryz.ntmps96
  go_wp2
  go_ret
  exact ⟨w.heap.size, fun i => i = w.heap.size, by simp, ⟨none, none, heap_alloc_new w _, .inl ⟨rfl, fun _ => rfl, rfl⟩, .inl ⟨rfl, fun _ => rfl, rfl⟩, Iff.rfl, rfl, (fun B e => by cases e), (fun B e => by cases e), (fun B e => by cases e), (fun i e => by subst e; simp)⟩, (Fr.refl _ _).alloc _, fun i e => by subst e; simp⟩
theorem c_find (h : Tm t T w Z) (ok : TbOk T) {v : Int} (hv : I64 v) : Calls Tryz.prog 20 #[.pointer (some ⟨t, 0, none⟩), .int .i64 v] w fun e w' => e = .returned (.int .i64 (tbF T v)) ∧ Fr (fun _ => False) w w' := by
  obtain ⟨m1, m2, h⟩ := h
  refine (u_find h.c h.o1 hv).mono ?_
  rintro e w' ⟨rfl, rfl⟩
  exact ⟨by rw [← fF_get ok], Fr.refl _ _⟩
theorem c_find_nil (v : Int) (w : World) : Calls Tryz.prog 20 #[.pointer none, .int .i64 v] w fun e w' => e = .returned (.int .i64 (-1)) ∧ Fr (fun _ => False) w w' := by
  go_enter Tryz.func20, Tryz.ntmps20
  go_wp2
  go_ret
  exact ⟨by simp, Fr.refl _ _⟩
theorem c_holder (h : Tm t T w Z) (ok : TbOk T) {p : Int} (hp : I64 p) : Calls Tryz.prog 201 #[.pointer (some ⟨t, 0, none⟩), .int .i64 p] w fun e w' => e = .returned (.int .i64 (tbH T p)) ∧ Fr (fun _ => False) w w' := by
  obtain ⟨m1, m2, h⟩ := h
  refine (u_holder h.c h.o2 hp).mono ?_
  rintro e w' ⟨rfl, rfl⟩
  exact ⟨by rw [← fH_get ok], Fr.refl _ _⟩
theorem c_holder_nil (p : Int) (w : World) : Calls Tryz.prog 201 #[.pointer none, .int .i64 p] w fun e w' => e = .returned (.int .i64 (-1)) ∧ Fr (fun _ => False) w w' := by
  go_enter Tryz.func201, Tryz.ntmps201
  go_wp2
  go_ret
  exact ⟨by simp, Fr.refl _ _⟩
theorem c_all (h : Tm t T w Z) (ok : TbOk T) : Calls Tryz.prog 18 #[.pointer (some ⟨t, 0, none⟩)] w fun e w' => ∃ ad cap, e = .returned (.slice ad (T.map Prod.fst).length cap) ∧ NumsAt w' ad (T.map Prod.fst) ∧ (∀ b off, ad = some ⟨b, off, none⟩ → 0 < (T.map Prod.fst).length → w.heap.size ≤ b) ∧ Fr (fun _ => False) w w' := by
  obtain ⟨m1, m2, h⟩ := h
  exact u_all h.c h.o1 ok
theorem c_all_nil (w : World) : Calls Tryz.prog 18 #[.pointer none] w fun e w' => ∃ ad cap, e = .returned (.slice ad 0 cap) ∧ Fr (fun _ => False) w w' := by
  go_enter Tryz.func18, Tryz.ntmps18
  go_wp2
  go_ret
  exact ⟨none, 0, by simp, Fr.refl _ _⟩
theorem c_pieces_c (h : Tm t T w Z) (ok : TbOk T) {a n : Int} (ha : I64 a) (hn : I64 n) : Calls Tryz.prog 141 #[.pointer (some ⟨t, 0, none⟩), .int .i64 a, .int .i64 n] w fun e w' => ∃ ad cap, e = .returned (.tuple #[.slice ad (piL T a n).length cap, .int .i64 (piE T a n)]) ∧ SpAt w' ad (piL T a n) ∧ (∀ b off, ad = some ⟨b, off, none⟩ → 0 < (piL T a n).length → w.heap.size ≤ b) ∧ Fr (fun _ => False) w w' ∧ (piL T a n).length ≤ cap := u_pieces_c h ok ha hn
theorem c_pieces (h : Tm t T w Z) (ok : TbOk T) {a n : Int} (ha : I64 a) (hn : I64 n) : Calls Tryz.prog 141 #[.pointer (some ⟨t, 0, none⟩), .int .i64 a, .int .i64 n] w fun e w' => ∃ ad cap, e = .returned (.tuple #[.slice ad (piL T a n).length cap, .int .i64 (piE T a n)]) ∧ SpAt w' ad (piL T a n) ∧ (∀ b off, ad = some ⟨b, off, none⟩ → 0 < (piL T a n).length → w.heap.size ≤ b) ∧ Fr (fun _ => False) w w' := u_pieces h ok ha hn
theorem c_pieces_nil (a n : Int) (w : World) : Calls Tryz.prog 141 #[.pointer none, .int .i64 a, .int .i64 n] w fun e w' => ∃ ad cap, e = .returned (.tuple #[.slice ad 0 cap, .int .i64 11]) ∧ Fr (fun _ => False) w w' := by
  go_enter Tryz.func141, Tryz.ntmps141
  go_wp2
  go_ret2
  exact ⟨none, 0, by simp, Fr.refl _ _⟩
theorem c_len (h : Tm t T w Z) (_ok : TbOk T) : Calls Tryz.prog 55 #[.pointer (some ⟨t, 0, none⟩)] w fun e w' => e = .returned (.int .i64 T.length) ∧ Fr (fun _ => False) w w' := by
  obtain ⟨m1, m2, h⟩ := h
  refine (u_len h.c h.o1).mono ?_
  rintro e w' ⟨rfl, rfl⟩
  exact ⟨rfl, Fr.refl _ _⟩
theorem c_len_nil (w : World) : Calls Tryz.prog 55 #[.pointer none] w fun e w' => e = .returned (.int .i64 0) ∧ Fr (fun _ => False) w w' := by
  go_enter Tryz.func55, Tryz.ntmps55
  go_wp2
  go_ret
  exact ⟨by simp, Fr.refl _ _⟩
set_option maxRecDepth 20000 in
theorem c_unmap (h : Tm t T w Z) (ok : TbOk T) {v : Int} (hv : I64 v) : Calls Tryz.prog 155 #[.pointer (some ⟨t, 0, none⟩), .int .i64 v] w fun e w' => e = .returned (.tuple #[.int .i64 (tbUV T v), .int .i64 (tbUE T v)]) ∧ ∃ Z', Tm t (tbU T v) w' Z' ∧ Gw w w' Z Z' := by
  have H1 := hid (c_find h ok hv)
  have hr := ok.f_range v
  unfold tbUV tbUE
  by_cases hf : tbF T v < 0
  · rw [if_pos hf, if_pos hf, tbU_gone ok hf]
    have e1 : tbF T v = -1 := by omega
    have HR : Hid (∀ w', Fr (fun _ => False) w w' → ∃ Z', Tm t T w' Z' ∧ Gw w w' Z Z') := fun w' f => ⟨Z, h.kept f, Gw.same h.lt (f.mono fun _ _ e => e.elim)⟩
    rw [e1] at H1
    clear h ok hv hr hf e1
    go_enter Tryz.func155, Tryz.ntmps155
    go_wp2_with fail
    refine H1.out.mono ?_
    rintro e w1 ⟨rfl, hf1⟩
    have HF := hid hf1
    clear hf1
    go_wp2
    go_ret2
    exact ⟨by simp, HR.out _ HF.out⟩
  · rw [if_neg hf, if_neg hf]
    have H2 : Hid (∀ w0, Fr (fun _ => False) w w0 → Calls Tryz.prog 202 #[.pointer (some ⟨t, 0, none⟩), .int .i64 v, .int .i64 (tbF T v)] w0 fun e w' => e = .returned (.tuple #[]) ∧ ∃ Z', Tm t (tbU T v) w' Z' ∧ Gw w w' Z Z') := fun w0 f => (u_part (h.kept f) ok hf).mono fun _ _ ⟨he, Z', h1, h2⟩ => ⟨he, Z', h1, h2.ahead f⟩
    have hq1 : (tbF T v == -1) = false := by simp; omega
    clear h ok hv hr hf
    generalize tbF T v = p at *
    go_enter Tryz.func155, Tryz.ntmps155
    go_wp2_with fail
    refine H1.out.mono ?_
    rintro e w1 ⟨rfl, hf1⟩
    have HF := hid hf1
    clear hf1
    go_wp2_with fail
    refine (H2.out _ HF.out).mono ?_
    rintro e w2 ⟨rfl, h2⟩
    have HR := hid h2
    clear h2
    go_wp2
    go_ret2
    exact ⟨by simp, HR.out⟩
theorem c_unmap_nil (v : Int) (w : World) : Calls Tryz.prog 155 #[.pointer none, .int .i64 v] w fun e w' => e = .returned (.tuple #[.int .i64 0, .int .i64 11]) ∧ Fr (fun _ => False) w w' := by
  go_enter Tryz.func155, Tryz.ntmps155
  go_wp2
  go_ret2
  exact ⟨by simp, Fr.refl _ _⟩
set_option maxRecDepth 20000 in
theorem c_swap_no (h : Tm t T w Z) (ok : TbOk T) {v p : Int} (hv : I64 v) (hp : I64 p) (hs : ¬ SwOk T v p) : Calls Tryz.prog 148 #[.pointer (some ⟨t, 0, none⟩), .int .i64 v, .int .i64 p] w fun e w' => e = .returned (.tuple #[.int .i64 0, .int .i64 (tbSE T v p)]) ∧ Fr (fun _ => False) w w' := by
  have H1 := hid (c_find h ok hv)
  have HP : Hid (∀ w0, Calls Tryz.prog 200 #[.int .i64 p] w0 fun e w' => e = .returned (.bool (decide (POk p))) ∧ w' = w0) := fun w0 => u_page p w0
  have HH : Hid (∀ w0, Fr (fun _ => False) w w0 → Calls Tryz.prog 201 #[.pointer (some ⟨t, 0, none⟩), .int .i64 p] w0 fun e w' => e = .returned (.int .i64 (tbH T p)) ∧ Fr (fun _ => False) w w') := fun w0 f => (c_holder (h.kept f) ok hp).mono fun _ _ ⟨he, f2⟩ => ⟨he, f.trans f2⟩
  have r1 := ok.f_range v
  have r2 := ok.h_range p
  unfold tbSE
  by_cases c1 : POk p
  case neg =>
    rw [if_pos c1]
    rw [decide_eq_false c1] at HP
    clear h ok hv hp hs HH r1 r2 c1
    generalize tbF T v = y at *
    go_enter Tryz.func148, Tryz.ntmps148
    go_wp2_with fail
    refine H1.out.mono ?_
    rintro e w1 ⟨rfl, hf1⟩
    have HF := hid hf1
    clear hf1
    go_wp2_with fail
    refine (HP.out _).mono ?_
    rintro e w2 ⟨rfl, hw⟩
    obtain rfl := hw.symm
    go_wp2
    go_ret2
    exact ⟨by simp, HF.out⟩
  rw [if_neg (by simpa using c1)]
  rw [decide_eq_true c1] at HP
  by_cases c2 : tbF T v < 0
  case pos =>
    rw [if_pos c2]
    have e1 : tbF T v = -1 := by omega
    rw [e1] at H1
    clear h ok hv hp hs HH r1 r2 c1 c2 e1
    go_enter Tryz.func148, Tryz.ntmps148
    go_wp2_with fail
    refine H1.out.mono ?_
    rintro e w1 ⟨rfl, hf1⟩
    have HF := hid hf1
    clear hf1
    go_wp2_with fail
    refine (HP.out _).mono ?_
    rintro e w2 ⟨rfl, hw⟩
    obtain rfl := hw.symm
    go_wp2
    go_ret2
    exact ⟨by simp, HF.out⟩
  rw [if_neg c2]
  have c3 : ¬ tbH T p < 0 := fun c3 => hs ⟨c1, c2, c3⟩
  rw [if_neg c3]
  have q1 : (tbF T v == -1) = false := by simp; omega
  have q2 : (tbH T p != -1) = true := by simp; omega
  clear h ok hv hp hs r1 r2 c1 c2 c3
  generalize tbF T v = y at *
  generalize tbH T p = z at *
  go_enter Tryz.func148, Tryz.ntmps148
  go_wp2_with fail
  refine H1.out.mono ?_
  rintro e w1 ⟨rfl, hf1⟩
  have HF := hid hf1
  clear hf1
  go_wp2_with fail
  refine (HP.out _).mono ?_
  rintro e w2 ⟨rfl, hw⟩
  obtain rfl := hw.symm
  clear hw
  go_wp2_with fail
  refine (HH.out _ HF.out).mono ?_
  rintro e w3 ⟨rfl, hf3⟩
  have HF3 := hid hf3
  clear hf3
  go_wp2
  go_ret2
  exact ⟨by simp, HF3.out⟩
set_option maxRecDepth 20000 in
theorem c_swap_yes (h : Tm t T w Z) (ok : TbOk T) {v p : Int} (hv : I64 v) (hp : I64 p) (hs : SwOk T v p) : Calls Tryz.prog 148 #[.pointer (some ⟨t, 0, none⟩), .int .i64 v, .int .i64 p] w fun e w' => e = .returned (.tuple #[.int .i64 (tbF T v), .int .i64 0]) ∧ ∃ Z', Tm t (tbW T v p) w' Z' ∧ Gw w w' Z Z' := by
  have H1 := hid (c_find h ok hv)
  have HP : Hid (∀ w0, Calls Tryz.prog 200 #[.int .i64 p] w0 fun e w' => e = .returned (.bool (decide (POk p))) ∧ w' = w0) := fun w0 => u_page p w0
  have HH : Hid (∀ w0, Fr (fun _ => False) w w0 → Calls Tryz.prog 201 #[.pointer (some ⟨t, 0, none⟩), .int .i64 p] w0 fun e w' => e = .returned (.int .i64 (tbH T p)) ∧ Fr (fun _ => False) w w') := fun w0 f => (c_holder (h.kept f) ok hp).mono fun _ _ ⟨he, f2⟩ => ⟨he, f.trans f2⟩
  have H2 : Hid (∀ w0, Fr (fun _ => False) w w0 → Calls Tryz.prog 202 #[.pointer (some ⟨t, 0, none⟩), .int .i64 v, .int .i64 (tbF T v)] w0 fun e w' => e = .returned (.tuple #[]) ∧ ∃ Z', Tm t (tbU T v) w' Z' ∧ Gw w w' Z Z') := fun w0 f => (u_part (h.kept f) ok hs.2.1).mono fun _ _ ⟨he, Z', h1, h2⟩ => ⟨he, Z', h1, h2.ahead f⟩
  have r1 := ok.f_range v
  have r2 := ok.h_range p
  have hm := ok.f_some hs.2.1
  have hvo := (ok.at_ _ hm).1
  simp only at hvo
  have n1 : tbF (tbU T v) v < 0 := by
    rcases tbF_or (v := v) (tbU T v) with ⟨e, _⟩ | e
    · omega
    · exact absurd rfl ((mem_tbU.1 e).2)
  have n2 : tbH (tbU T v) p < 0 := by
    rcases tbH_or (p := p) (tbU T v) with ⟨e, _⟩ | e
    · omega
    · exact absurd rfl ((ok.h_none hs.2.2).2 _ (mem_tbU.1 e).1)
  have H3 : Hid (∀ w0 Z0, Tm t (tbU T v) w0 Z0 → Gw w w0 Z Z0 → Calls Tryz.prog 203 #[.pointer (some ⟨t, 0, none⟩), .int .i64 v, .int .i64 p] w0 fun e w' => e = .returned (.tuple #[]) ∧ ∃ Z', Tm t (tbW T v p) w' Z' ∧ Gw w w' Z Z') := fun w0 Z0 h0 g0 => (u_join h0 (ok.unmap v) hvo hs.1 n1 n2).mono fun _ _ ⟨he, Z', h1, h2⟩ => ⟨he, Z', by rw [← tbI_tbU ok hs.2.1]; exact h1, g0.trans h2⟩
  rw [decide_eq_true hs.1] at HP
  have q1 : (tbF T v == -1) = false := by simp; omega
  have q2 : tbH T p = -1 := by omega
  rw [q2] at HH
  clear h ok hv hp r1 r2 hm hvo n1 n2 hs q2
  generalize tbF T v = y at *
  go_enter Tryz.func148, Tryz.ntmps148
  go_wp2_with fail
  refine H1.out.mono ?_
  rintro e w1 ⟨rfl, hf1⟩
  have HF := hid hf1
  clear hf1
  go_wp2_with fail
  refine (HP.out _).mono ?_
  rintro e w2 ⟨rfl, hw⟩
  obtain rfl := hw.symm
  clear hw
  go_wp2_with fail
  refine (HH.out _ HF.out).mono ?_
  rintro e w3 ⟨rfl, hf3⟩
  have HF3 := hid hf3
  clear hf3
  go_wp2_with fail
  refine (H2.out _ HF3.out).mono ?_
  rintro e w4 ⟨rfl, Z4, h4, g4⟩
  have HG4 := hid (And.intro h4 g4)
  clear h4 g4
  go_wp2_with fail
  refine (H3.out _ _ HG4.out.1 HG4.out.2).mono ?_
  rintro e w5 ⟨rfl, h5⟩
  have HR := hid h5
  clear h5
  go_wp2
  go_ret2
  exact ⟨by simp, HR.out⟩
theorem c_swap (h : Tm t T w Z) (ok : TbOk T) {v p : Int} (hv : I64 v) (hp : I64 p) : Calls Tryz.prog 148 #[.pointer (some ⟨t, 0, none⟩), .int .i64 v, .int .i64 p] w fun e w' => e = .returned (.tuple #[.int .i64 (tbSV T v p), .int .i64 (tbSE T v p)]) ∧ ∃ Z', Tm t (tbS T v p) w' Z' ∧ Gw w w' Z Z' := by
  by_cases hs : SwOk T v p
  · have e1 : tbSV T v p = tbF T v := if_pos hs
    have e2 : tbSE T v p = 0 := by unfold tbSE; rw [if_neg (by simpa using hs.1), if_neg hs.2.1, if_pos hs.2.2]
    have e3 : tbS T v p = tbW T v p := if_pos hs
    rw [e1, e2, e3]
    exact c_swap_yes h ok hv hp hs
  · have e1 : tbSV T v p = 0 := if_neg hs
    have e3 : tbS T v p = T := if_neg hs
    rw [e1, e3]
    exact (c_swap_no h ok hv hp hs).mono fun _ _ ⟨he, f⟩ => ⟨he, Z, h.kept f, Gw.same h.lt (f.mono fun _ _ e => e.elim)⟩
theorem c_swap_nil (v p : Int) (w : World) : Calls Tryz.prog 148 #[.pointer none, .int .i64 v, .int .i64 p] w fun e w' => e = .returned (.tuple #[.int .i64 0, .int .i64 11]) ∧ Fr (fun _ => False) w w' := by
  have H1 := hid (c_find_nil v w)
  go_enter Tryz.func148, Tryz.ntmps148
  go_wp2_with fail
  refine H1.out.mono ?_
  rintro e w1 ⟨rfl, hf1⟩
  have HF := hid hf1
  clear hf1
  go_wp2
  go_ret2
  exact ⟨by simp, HF.out⟩
set_option maxRecDepth 20000 in
theorem c_map_no (h : Tm t T w Z) (ok : TbOk T) {v p : Int} (hv : I64 v) (hp : I64 p) (hs : ¬ ((VOk v ∧ POk p) ∧ tbF T v < 0 ∧ tbH T p < 0)) : Calls Tryz.prog 180 #[.pointer (some ⟨t, 0, none⟩), .int .i64 v, .int .i64 p] w fun e w' => e = .returned (.int .i64 (tbME T v p)) ∧ Fr (fun _ => False) w w' := by
  have HL := hid (u_local (v := v) (Fr.refl _ w : Pt.K w w))
  have HP : Hid (∀ w0, Calls Tryz.prog 200 #[.int .i64 p] w0 fun e w' => e = .returned (.bool (decide (POk p))) ∧ w' = w0) := fun w0 => u_page p w0
  have H1 : Hid (∀ w0, Fr (fun _ => False) w w0 → Calls Tryz.prog 20 #[.pointer (some ⟨t, 0, none⟩), .int .i64 v] w0 fun e w' => e = .returned (.int .i64 (tbF T v)) ∧ Fr (fun _ => False) w w') := fun w0 f => (c_find (h.kept f) ok hv).mono fun _ _ ⟨he, f2⟩ => ⟨he, f.trans f2⟩
  have HH : Hid (∀ w0, Fr (fun _ => False) w w0 → Calls Tryz.prog 201 #[.pointer (some ⟨t, 0, none⟩), .int .i64 p] w0 fun e w' => e = .returned (.int .i64 (tbH T p)) ∧ Fr (fun _ => False) w w') := fun w0 f => (c_holder (h.kept f) ok hp).mono fun _ _ ⟨he, f2⟩ => ⟨he, f.trans f2⟩
  have r1 := ok.f_range v
  have r2 := ok.h_range p
  unfold tbME
  by_cases c0 : VOk v
  case neg =>
    rw [if_neg fun e => c0 e.1]
    rw [decide_eq_false c0] at HL
    clear h ok hv hp hs HH H1 HP r1 r2 c0
    go_enter Tryz.func180, Tryz.ntmps180
    go_wp2_with fail
    refine HL.out.mono ?_
    rintro e w1 ⟨rfl, hf1⟩
    have HF := hid hf1
    clear hf1
    go_wp2
    go_ret
    exact ⟨by simp, HF.out⟩
  rw [decide_eq_true c0] at HL
  by_cases c1 : POk p
  case neg =>
    rw [if_neg fun e => c1 e.2]
    rw [decide_eq_false c1] at HP
    clear h ok hv hp hs HH H1 r1 r2 c0 c1
    go_enter Tryz.func180, Tryz.ntmps180
    go_wp2_with fail
    refine HL.out.mono ?_
    rintro e w1 ⟨rfl, hf1⟩
    have HF := hid hf1
    clear hf1
    go_wp2_with fail
    refine (HP.out _).mono ?_
    rintro e w2 ⟨rfl, hw⟩
    obtain rfl := hw.symm
    go_wp2
    go_ret
    exact ⟨by simp, HF.out⟩
  rw [decide_eq_true c1] at HP
  rw [if_pos ⟨c0, c1⟩]
  have hs2 : ¬ (tbF T v < 0 ∧ tbH T p < 0) := fun e => hs ⟨⟨c0, c1⟩, e⟩
  rw [if_neg hs2]
  by_cases c2 : tbF T v < 0
  · have c3 : ¬ tbH T p < 0 := fun c3 => hs2 ⟨c2, c3⟩
    have q1 : tbF T v = -1 := by omega
    have q2 : (tbH T p != -1) = true := by simp; omega
    rw [q1] at H1
    clear h ok hv hp hs r1 r2 c0 c1 c2 c3 hs2 q1
    generalize tbH T p = z at *
    go_enter Tryz.func180, Tryz.ntmps180
    go_wp2_with fail
    refine HL.out.mono ?_
    rintro e w1 ⟨rfl, hf1⟩
    have HF := hid hf1
    clear hf1
    go_wp2_with fail
    refine (HP.out _).mono ?_
    rintro e w2 ⟨rfl, hw⟩
    obtain rfl := hw.symm
    clear hw
    go_wp2_with fail
    refine (H1.out _ HF.out).mono ?_
    rintro e w3 ⟨rfl, hf3⟩
    have HF3 := hid hf3
    clear hf3
    go_wp2_with fail
    refine (HH.out _ HF3.out).mono ?_
    rintro e w4 ⟨rfl, hf4⟩
    have HF4 := hid hf4
    clear hf4
    go_wp2
    go_ret
    exact ⟨by simp, HF4.out⟩
  · have q1 : (tbF T v != -1) = true := by simp; omega
    clear h ok hv hp hs r1 r2 c0 c1 c2 hs2
    generalize tbF T v = y at *
    go_enter Tryz.func180, Tryz.ntmps180
    go_wp2_with fail
    refine HL.out.mono ?_
    rintro e w1 ⟨rfl, hf1⟩
    have HF := hid hf1
    clear hf1
    go_wp2_with fail
    refine (HP.out _).mono ?_
    rintro e w2 ⟨rfl, hw⟩
    obtain rfl := hw.symm
    clear hw
    go_wp2_with fail
    refine (H1.out _ HF.out).mono ?_
    rintro e w3 ⟨rfl, hf3⟩
    have HF3 := hid hf3
    clear hf3
    go_wp2
    go_ret
    exact ⟨by simp, HF3.out⟩
set_option maxRecDepth 20000 in
theorem c_map_yes (h : Tm t T w Z) (ok : TbOk T) {v p : Int} (hv : I64 v) (hp : I64 p) (hs : (VOk v ∧ POk p) ∧ tbF T v < 0 ∧ tbH T p < 0) : Calls Tryz.prog 180 #[.pointer (some ⟨t, 0, none⟩), .int .i64 v, .int .i64 p] w fun e w' => e = .returned (.int .i64 0) ∧ ∃ Z', Tm t (tbI T v p) w' Z' ∧ Gw w w' Z Z' := by
  have HL := hid (u_local (v := v) (Fr.refl _ w : Pt.K w w))
  have HP : Hid (∀ w0, Calls Tryz.prog 200 #[.int .i64 p] w0 fun e w' => e = .returned (.bool (decide (POk p))) ∧ w' = w0) := fun w0 => u_page p w0
  have H1 : Hid (∀ w0, Fr (fun _ => False) w w0 → Calls Tryz.prog 20 #[.pointer (some ⟨t, 0, none⟩), .int .i64 v] w0 fun e w' => e = .returned (.int .i64 (tbF T v)) ∧ Fr (fun _ => False) w w') := fun w0 f => (c_find (h.kept f) ok hv).mono fun _ _ ⟨he, f2⟩ => ⟨he, f.trans f2⟩
  have HH : Hid (∀ w0, Fr (fun _ => False) w w0 → Calls Tryz.prog 201 #[.pointer (some ⟨t, 0, none⟩), .int .i64 p] w0 fun e w' => e = .returned (.int .i64 (tbH T p)) ∧ Fr (fun _ => False) w w') := fun w0 f => (c_holder (h.kept f) ok hp).mono fun _ _ ⟨he, f2⟩ => ⟨he, f.trans f2⟩
  have HJ : Hid (∀ w0, Fr (fun _ => False) w w0 → Calls Tryz.prog 203 #[.pointer (some ⟨t, 0, none⟩), .int .i64 v, .int .i64 p] w0 fun e w' => e = .returned (.tuple #[]) ∧ ∃ Z', Tm t (tbI T v p) w' Z' ∧ Gw w w' Z Z') := fun w0 f => (u_join (h.kept f) ok hs.1.1 hs.1.2 hs.2.1 hs.2.2).mono fun _ _ ⟨he, Z', h1, h2⟩ => ⟨he, Z', h1, h2.ahead f⟩
  have r1 := ok.f_range v
  have r2 := ok.h_range p
  rw [decide_eq_true hs.1.1] at HL
  rw [decide_eq_true hs.1.2] at HP
  have q1 : tbF T v = -1 := by omega
  have q2 : tbH T p = -1 := by omega
  rw [q1] at H1
  rw [q2] at HH
  clear h ok hv hp hs r1 r2 q1 q2
  go_enter Tryz.func180, Tryz.ntmps180
  go_wp2_with fail
  refine HL.out.mono ?_
  rintro e w1 ⟨rfl, hf1⟩
  have HF := hid hf1
  clear hf1
  go_wp2_with fail
  refine (HP.out _).mono ?_
  rintro e w2 ⟨rfl, hw⟩
  obtain rfl := hw.symm
  clear hw
  go_wp2_with fail
  refine (H1.out _ HF.out).mono ?_
  rintro e w3 ⟨rfl, hf3⟩
  have HF3 := hid hf3
  clear hf3
  go_wp2_with fail
  refine (HH.out _ HF3.out).mono ?_
  rintro e w4 ⟨rfl, hf4⟩
  have HF4 := hid hf4
  clear hf4
  go_wp2_with fail
  refine (HJ.out _ HF4.out).mono ?_
  rintro e w5 ⟨rfl, h5⟩
  have HR := hid h5
  clear h5
  go_wp2
  go_ret
  exact ⟨by simp, HR.out⟩
theorem c_map (h : Tm t T w Z) (ok : TbOk T) {v p : Int} (hv : I64 v) (hp : I64 p) : Calls Tryz.prog 180 #[.pointer (some ⟨t, 0, none⟩), .int .i64 v, .int .i64 p] w fun e w' => e = .returned (.int .i64 (tbME T v p)) ∧ ∃ Z', Tm t (tbM T v p) w' Z' ∧ Gw w w' Z Z' := by
  by_cases hs : (VOk v ∧ POk p) ∧ tbF T v < 0 ∧ tbH T p < 0
  · have e2 : tbME T v p = 0 := by unfold tbME; rw [if_pos hs.1, if_pos hs.2]
    have e3 : tbM T v p = tbI T v p := if_pos hs
    rw [e2, e3]
    exact c_map_yes h ok hv hp hs
  · have e3 : tbM T v p = T := if_neg hs
    rw [e3]
    exact (c_map_no h ok hv hp hs).mono fun _ _ ⟨he, f⟩ => ⟨he, Z, h.kept f, Gw.same h.lt (f.mono fun _ _ e => e.elim)⟩
theorem c_map_nil (v p : Int) (w : World) : Calls Tryz.prog 180 #[.pointer none, .int .i64 v, .int .i64 p] w fun e w' => e = .returned (.int .i64 11) ∧ Fr (fun _ => False) w w' := by
  go_enter Tryz.func180, Tryz.ntmps180
  go_wp2
  go_ret
  exact ⟨by simp, Fr.refl _ _⟩
end
end Go.Proofs.YtihaifnenjngpaaGreatDoor
