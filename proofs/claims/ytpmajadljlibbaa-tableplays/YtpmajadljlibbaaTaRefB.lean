/-
  What the document's own table does: Swap, Unmap.
-/
import Derived.Test.YtpmajadljlibbaaTaRefA
namespace Go.Proofs.Ytpmajadljlibbaa
open Go.RowKit

theorem pc_set2 : ∀ (L : Tb) (i : Nat) (p : Int) (h : i < L.length), (pc L).set (i * 2 + 1) (.int .i64 p) = pc (L.set i (L[i].1, p))
  | x :: L, 0, p, _ => by simp [pc_cons]
  | x :: L, i + 1, p, h => by
    have := pc_set2 L i p (by simpa using h)
    rw [pc_cons, show (i + 1) * 2 + 1 = (i * 2 + 1) + 1 + 1 by omega, List.set_cons_succ, List.set_cons_succ, this]
    rfl
/-- Swap, behind so many rounds. -/
def tbWm (T : Tb) (v p : Int) (m : Nat) : Tb := tbW (T.take m) v p ++ T.drop m
theorem tbWm_len (T : Tb) (v p : Int) (m : Nat) : (tbWm T v p m).length = T.length := by unfold tbWm tbW; simp; omega
theorem tbWm_at {T : Tb} {v p : Int} {m : Nat} (h : m < T.length) (h2 : m < (tbWm T v p m).length) : (tbWm T v p m)[m] = T[m] := by
  have hl : (tbW (T.take m) v p).length = m := by unfold tbW; simp; omega
  have e : tbWm T v p m = tbW (T.take m) v p ++ T.drop m := rfl
  rw [List.getElem_of_eq e, List.getElem_append_right (by omega)]
  simp [hl]
theorem tbWm_no {T : Tb} {v p : Int} {m : Nat} (h : m < T.length) (hx : T[m].1 ≠ v) : tbWm T v p (m + 1) = tbWm T v p m := by
  unfold tbWm
  rw [List.take_succ_eq_append_getElem h]
  unfold tbW
  rw [List.map_append, List.drop_eq_getElem_cons h]
  simp [hx]
theorem tbWm_yes {T : Tb} {v p : Int} {m : Nat} (h : m < T.length) (hx : T[m].1 = v) : tbWm T v p (m + 1) = (tbWm T v p m).set m (T[m].1, p) := by
  have hl : (tbW (T.take m) v p).length = m := by unfold tbW; simp; omega
  unfold tbWm
  rw [List.set_append_right _ _ (by omega), hl, Nat.sub_self, List.drop_eq_getElem_cons h, List.set_cons_zero, List.take_succ_eq_append_getElem h]
  unfold tbW
  rw [List.map_append]
  simp [hx]
theorem tbWm_all (T : Tb) (v p : Int) : tbWm T v p T.length = tbW T v p := by unfold tbWm; simp
theorem tbU_none {T : Tb} {v : Int} (h : ∀ y ∈ T, y.1 ≠ v) : tbU T v = T := List.filter_eq_self.2 fun x hx => by simpa using h x hx
theorem tbU_snoc (L : Tb) (x : Int × Int) (v : Int) : tbU (L ++ [x]) v = if x.1 = v then tbU L v else tbU L v ++ [x] := by
  unfold tbU
  rw [List.filter_append]
  by_cases e : x.1 = v
  · simp [e]
  · simp [e]
section
variable {w : World} {base q : Nat} {v : Value} {T : Tb}
theorem Rtb.own_lt (h : Rtb w base q v T) {g : Nat} (e : v.ownBlock = some g) : g < w.heap.size := (h.row.lt g e).2
/-- A pair's page is stored. -/
theorem Rtb.put {g n cap : Nat} (h : Rtb w base q (.slice (some ⟨g, 0, none⟩) n cap) T) (i : Nat) (hi : i < T.length) (p : Int) : Rtb (w.setCell ⟨g, i * 2 + 1, none⟩ (.int .i64 p)) base q (.slice (some ⟨g, 0, none⟩) n cap) (T.set i (T[i].1, p)) := by
  have hg : g ≠ q := fun e => h.ne (by rw [e]; rfl)
  have hn : n = T.length := by
    rcases h.row.2 with ⟨e1, _⟩ | ⟨g', cap', cur, e1, _⟩
    · cases e1
    · simp only [Value.slice.injEq] at e1; exact e1.2.1
  subst hn
  refine ⟨?_, ?_, h.ne, by rw [List.length_set]; exact h.len, h.lo⟩
  · have f : Fr (fun k => k = g) w (w.setCell ⟨g, i * 2 + 1, none⟩ (.int .i64 p)) := Fr.setCell (S := fun k => k = g) (p := ⟨g, i * 2 + 1, none⟩) (Fr.refl _ _) rfl _
    rw [f.block q h.ltr (fun e => hg e.symm)]
    exact h.st
  · rw [← pc_set2 T i p hi, List.length_set]
    exact (h.row.stored _ _).1
set_option maxRecDepth 20000 in
set_option maxHeartbeats 1000000 in
theorem f_swap (h : Rtb w base q v T) (x p : Int) : Calls Try.prog 14 #[.pointer (some ⟨q, 0, none⟩), .int .i64 x, .int .i64 p] w fun e w' => e = .returned (.tuple #[.int .i64 (tbSV T x p), .int .i64 (tbSE T x p)]) ∧ Rtb w' base q v (tbS T x p) ∧ Fr (fun k => v.ownBlock = some k) w w' := by
  have HR := hid h
  have hlen := h.len
  have H1 := hid (f_find h x)
  have H2 : Hid (∀ w0, Fr (fun _ => False) w w0 → Calls Try.prog 22 #[.pointer (some ⟨q, 0, none⟩), .int .i64 p] w0 fun e w' => e = .returned (.int .i64 (tbH T p)) ∧ Fr (fun _ => False) w w') := fun w0 f => (f_holder (h.kept f) p).mono fun _ _ ⟨he, f2⟩ => ⟨he, f.trans f2⟩
  clear h
  have same : ¬ SwOk T x p → tbS T x p = T ∧ tbSV T x p = 0 := fun e => ⟨if_neg e, if_neg e⟩
  by_cases hp : POk p
  case neg =>
    have e3 : tbSE T x p = 12 := if_pos hp
    rw [(same fun e => hp e.1).1, (same fun e => hp e.1).2, e3]
    clear same e3
    generalize tbF T x = fx at *
    by_cases hp1 : p < 0
    · clear hp
      go_enter Try.func14, Try.ntmps14
      go_wp2_with fail
      refine H1.out.mono ?_
      rintro e w1 ⟨rfl, f⟩
      have HF := hid f
      clear f H1
      go_wp2
      go_ret2
      exact ⟨by simp, HR.out.kept HF.out, HF.out.mono fun _ _ e => e.elim⟩
    · have hp2 : 1048576 < p := by omega
      clear hp
      go_enter Try.func14, Try.ntmps14
      go_wp2_with fail
      refine H1.out.mono ?_
      rintro e w1 ⟨rfl, f⟩
      have HF := hid f
      clear f H1
      go_wp2
      go_ret2
      exact ⟨by simp, HR.out.kept HF.out, HF.out.mono fun _ _ e => e.elim⟩
  by_cases hf : tbF T x < 0
  · have e3 : tbSE T x p = 13 := by unfold tbSE; rw [if_neg (by omega), if_pos hf]
    rw [(same fun e => e.2.1 hf).1, (same fun e => e.2.1 hf).2, e3]
    clear same e3
    generalize tbF T x = fx at *
    go_enter Try.func14, Try.ntmps14
    go_wp2_with fail
    refine H1.out.mono ?_
    rintro e w1 ⟨rfl, f⟩
    have HF := hid f
    clear f H1
    go_wp2
    go_ret2
    exact ⟨by simp, HR.out.kept HF.out, HF.out.mono fun _ _ e => e.elim⟩
  by_cases hh : tbH T p < 0
  case neg =>
    have e3 : tbSE T x p = 7 := by unfold tbSE; rw [if_neg (by omega), if_neg hf, if_neg hh]
    rw [(same fun e => hh e.2.2).1, (same fun e => hh e.2.2).2, e3]
    clear same e3
    generalize tbF T x = fx at *
    generalize tbH T p = hx at *
    go_enter Try.func14, Try.ntmps14
    go_wp2_with fail
    refine H1.out.mono ?_
    rintro e w1 ⟨rfl, f⟩
    have HF := hid f
    clear f H1
    go_wp2_with fail
    refine (H2.out _ HF.out).mono ?_
    rintro e w2 ⟨rfl, f⟩
    have HF2 := hid f
    clear f H2 HF
    go_wp2
    go_ret2
    exact ⟨by simp, HR.out.kept HF2.out, HF2.out.mono fun _ _ e => e.elim⟩
  have hsw : SwOk T x p := ⟨hp, hf, hh⟩
  have e1 : tbS T x p = tbWm T x p T.length := by rw [tbWm_all]; exact if_pos hsw
  have e2 : tbSV T x p = tbF T x := if_pos hsw
  have e3 : tbSE T x p = 0 := by unfold tbSE; rw [if_neg (by omega), if_neg hf, if_pos hh]
  rw [e2, e3]
  have E1 := hid e1
  clear same e1 e2 e3 hsw
  generalize tbF T x = fx at *
  generalize tbH T p = hx at *
  have HW0 : Hid (Rtb w base q v (tbWm T x p 0)) := by show Rtb _ _ _ _ _; unfold tbWm tbW; simpa using HR.out
  go_enter Try.func14, Try.ntmps14
  go_wp2_with fail
  refine H1.out.mono ?_
  rintro e w1 ⟨rfl, f⟩
  have HF := hid f
  clear f H1
  go_wp2_with fail
  refine (H2.out _ HF.out).mono ?_
  rintro e w2 ⟨rfl, f⟩
  have HF2 := hid f
  clear f H2 HF
  go_wp2
  go_loopw [9] (fun i wr => ∃ m : Nat, m ≤ T.length ∧ i = .int .i64 m ∧ Hid (Rtb wr base q v (tbWm T x p m)) ∧ Hid (Fr (fun k => v.ownBlock = some k) w wr)) (fun i _ => T.length - (intOf i).toNat)
  case atStart => exact ⟨0, by omega, rfl, HW0.out.kept HF2.out, HF2.out.mono fun _ _ e => e.elim⟩
  case round =>
    clear HW0 HF2 HR
    obtain ⟨m, hm, rfl, HR, HF⟩ := hrel
    have c0 := HR.out.c0
    by_cases hlt : m < T.length
    · have hlt2 : m < (tbWm T x p m).length := by rw [tbWm_len]; exact hlt
      obtain ⟨g, cap, rfl, x0, x1⟩ := HR.out.cells m hlt2
      have fz : wr.frozen? ⟨g, m * 2 + 1, none⟩ = false := by
        rcases HR.out.row.2 with ⟨e1, _⟩ | ⟨g', cap', cur, e1, _, hc, _⟩
        · cases e1
        · simp only [Value.slice.injEq, Option.some.injEq, Addr.mk.injEq] at e1
          rw [← e1.1.1] at hc
          simp [World.frozen?, hc]
      rw [tbWm_at hlt hlt2] at x0 x1
      rw [tbWm_len] at c0
      by_cases hx : T[m].1 = x
      · have HR2 := hid (HR.out.put m hlt2 p)
        rw [tbWm_at hlt hlt2, ← tbWm_yes hlt hx] at HR2
        have HF2 : Hid (Fr (fun k => (Value.slice (some ⟨g, 0, none⟩) (tbWm T x p m).length cap).ownBlock = some k) w (wr.setCell ⟨g, m * 2 + 1, none⟩ (.int .i64 p))) := Fr.setCell (p := ⟨g, m * 2 + 1, none⟩) HF.out rfl _
        clear HR HF
        rw [tbWm_len] at *
        generalize T[m].2 = y2 at *
        generalize T[m].1 = y1 at *
        subst hx
        go_wp2
        go_roundw
        case rel => exact ⟨m + 1, by omega, by go_num, HR2, HF2⟩
        case measure => simp [intOf]; omega
      · rw [← tbWm_no hlt hx] at HR
        rw [tbWm_len] at *
        generalize T[m].2 = y2 at *
        generalize T[m].1 = y1 at *
        go_wp2
        go_roundw
        case rel => exact ⟨m + 1, by omega, by go_num, HR, HF⟩
        case measure => simp [intOf]; omega
    · obtain rfl : T.length = m := by omega
      obtain ⟨ad, cap, rfl, _⟩ := HR.out.form
      rw [tbWm_len] at c0
      have hfin : Hid (tbS T x p = tbWm T x p T.length) := E1
      go_wp2
      go_ret2
      exact ⟨by simp, by rw [hfin.out]; exact HR.out, HF.out⟩
end
end Go.Proofs.Ytpmajadljlibbaa
