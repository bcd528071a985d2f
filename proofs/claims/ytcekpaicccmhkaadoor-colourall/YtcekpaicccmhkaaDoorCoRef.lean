/-
  The document's map of pages: what each of its calls answers and leaves.
-/
import Derived.Test.YtcekpaicccmhkaaDoorCoMem
namespace Go.Proofs.YtcekpaicccmhkaaDoor
open Go.RowKit

theorem inW_yes {k p j : Nat} {l : List Int} (hj : j < l.length) (h : l[j] = ((p % k : Nat) : Int)) : inW k l p = true := by
  unfold inW; rw [List.any_eq_true]; exact ⟨l[j], List.getElem_mem hj, by simp [h]⟩
theorem inW_no {k p : Nat} {l : List Int} (h : ∀ i (hi : i < l.length), l[i] ≠ ((p % k : Nat) : Int)) : inW k l p = false := by
  unfold inW; rw [List.any_eq_false]; intro x hx
  obtain ⟨i, hi, rfl⟩ := List.mem_iff_getElem.1 hx
  simpa using h i hi
set_option maxHeartbeats 1000000 in
theorem e_of {w : World} {r k p : Nat} {ad : Option Addr} {l : List Int} (cap : Nat) (c1 : w.cell? ⟨r, 1, none⟩ = some (.int .i64 (k : Int))) (hk : 0 < k) (hk2 : k ≤ 32) (hp : p ≤ 65536) (hl : NumsAt w ad l) (hm : l.length ≤ maxLen) :
    Calls Tryd.prog 25 #[.pointer (some ⟨r, 0, none⟩), .int .i64 (p : Int), .slice ad l.length cap] w fun e w' => e = .returned (.bool (inW k l p)) ∧ ∃ m, w' = w.drewN m := by
  have HL := hid hl
  have hmod : Int.tmod (p : Int) (k : Int) = ((p % k : Nat) : Int) := by
    rw [Int.tmod_eq_emod_of_nonneg (by omega)]; rfl
  have hml : (l.length : Int) ≤ 9223372036854775807 := by simp only [maxLen] at hm; omega
  have hz : ((k : Int) == 0) = false := by simp; omega
  have hr0 : p % k < k := Nat.mod_lt _ hk
  have hw0 : IntKind.i64.wrap ((p % k : Nat) : Int) = ((p % k : Nat) : Int) := by rw [IntKind.wrap_i64]; omega
  have HC := hid c1
  clear hl c1 hm
  go_enter Tryd.func25, Tryd.ntmps25
  go_wp2
  go_loopw [7] (fun i wr => ∃ j : Nat, j ≤ l.length ∧ i = .int .i64 j ∧ Hid (∃ m, wr = w.drewN m) ∧ Hid (∀ i (hi : i < l.length), i < j → l[i] ≠ ((p % k : Nat) : Int))) (fun i _ => l.length - (intOf i).toNat)
  case atStart => exact ⟨0, by omega, rfl, ⟨0, rfl⟩, fun i _ hi => by omega⟩
  case round =>
    obtain ⟨j, hj, rfl, hwr, hb⟩ := hrel
    by_cases hlt : j < l.length
    · have cw : wr.cell? ⟨r, 1, none⟩ = some (.int .i64 (k : Int)) := by obtain ⟨m, rfl⟩ := hwr; simpa using HC.out
      obtain ⟨bb, off, rfl, hbb, hc⟩ := HL.out.fr (frOf hwr) j hlt
      by_cases hv : l[j] = ((p % k : Nat) : Int)
      · have he := hid (inW_yes hlt hv)
        rw [hv] at hc
        clear hv hb
        generalize p % k = q at *
        go_wp2
        go_quiet (fail)
        go_wp2
        go_ret
        exact ⟨by rw [he.out]; simp, more_drew hwr _ rfl⟩
      · have hv2 : (l[j] == ((p % k : Nat) : Int)) = false := by simpa using hv
        have hb2 : Hid (∀ i (hi : i < l.length), i < j + 1 → l[i] ≠ ((p % k : Nat) : Int)) := fun i hi hij => by
          by_cases e : i = j
          · subst e; exact hv
          · exact hb.out i hi (by omega)
        clear hv hb
        generalize p % k = q at *
        generalize l[j] = x at *
        go_wp2
        go_quiet (fail)
        go_wp2
        go_roundw
        case rel => exact ⟨j + 1, by omega, by go_num, more_drew hwr _ rfl, hb2⟩
        case measure => simp [intOf]; omega
    · obtain rfl : j = l.length := by omega
      have he : Hid (inW k l p = false) := inW_no fun i hi => hb.out i hi hi
      clear HL
      go_wp2
      go_ret
      exact ⟨by rw [he.out]; simp, hwr⟩
section
variable {w : World} {r t k : Nat} {has : List Bool} {ad : Option Addr} {l : List Int}
theorem meant_taken {p : Nat} (hp : p < has.length) (h : has[p] = true) : meant k has l p = false := by
  unfold meant; simp [List.getD, hp, h]
theorem meant_free {p : Nat} (hp : p < has.length) (h : has[p] = false) : meant k has l p = inW k l p := by
  unfold meant; simp [List.getD, hp, h]
theorem e_of' (cap : Nat) (h : Rf w r t k has) {p : Nat} (hp : p ≤ 65536) (hl : NumsAt w ad l) (hm : l.length ≤ maxLen) :
    Calls Tryd.prog 25 #[.pointer (some ⟨r, 0, none⟩), .int .i64 (p : Int), .slice ad l.length cap] w fun e w' => e = .returned (.bool (inW k l p)) ∧ ∃ m, w' = w.drewN m :=
  e_of cap h.c1 h.k0 h.k1 hp hl hm
set_option maxHeartbeats 1000000 in
theorem e_take (cap : Nat) (h : Rf w r t k has) (hl : NumsAt w ad l) (hm : l.length ≤ maxLen) :
    Calls Tryd.prog 14 #[.pointer (some ⟨r, 0, none⟩), .slice ad l.length cap] w fun e w' => e = .returned (.tuple #[.int .i64 (takV k has l), .int .i64 (takE k has l)]) ∧ Rf w' r t k (takS k has l) ∧ Fr (fun i => i = t) w w' := by
  have HH := hid h
  have HL := hid hl
  have HM := hid hm
  have hle := h.le
  clear h hl hm
  go_enter Tryd.func14, Tryd.ntmps14
  go_wp2
  go_loopw [6] (fun i wr => ∃ j : Nat, j ≤ has.length ∧ i = .int .i64 j ∧ Hid (∃ m, wr = w.drewN m) ∧ Hid (∀ i, i < j → meant k has l i = false)) (fun i _ => has.length - (intOf i).toNat)
  case atStart => exact ⟨0, by omega, rfl, ⟨0, rfl⟩, fun i hi => by omega⟩
  case round =>
    obtain ⟨j, hj, rfl, hwr, hb⟩ := hrel
    have HR : Hid (Rf wr r t k has) := HH.out.kept (frOf hwr)
    have c2 := HR.out.c2
    by_cases hlt : j < has.length
    · have ct := HR.out.ct j hlt
      have ft := HR.out.ft j
      cases hv : has[j]'hlt
      · rw [hv] at ct
        have hmean := meant_free (k := k) (l := l) hlt hv
        have HO := hid fun w' (hw : ∃ m, w' = wr.drewN m) => e_of' (p := j) cap (HR.out.kept (frOf hw)) (by omega) (HL.out.fr ((frOf hwr).trans (frOf hw))) HM.out
        cases hi : inW k l j
        · rw [hi] at HO hmean
          have hb2 : Hid (∀ i, i < j + 1 → meant k has l i = false) := fun i hi => by
            by_cases e : i = j
            · subst e; exact hmean
            · exact hb.out i (by omega)
          clear hv hb hmean hi
          go_wp2_with fail
          refine (HO.out _ ⟨0, rfl⟩).mono ?_
          rintro e w2 ⟨rfl, hw⟩
          have HW2 : Hid (∃ m, w2 = w.drewN m) := by obtain ⟨m, hw⟩ := hw; exact more_drew hwr m hw
          clear hw HO
          go_wp2
          go_roundw
          case rel => exact ⟨j + 1, by omega, by go_num, HW2, hb2⟩
          case measure => simp [intOf]; omega
        · rw [hi] at HO hmean
          have e0 := low_unique (meant k has l) has.length j hlt hmean hb.out
          have e1 : Hid (takV k has l = (j : Int)) := by show _ = _; unfold takV takP; rw [e0, if_pos hlt]
          have e2 : Hid (takE k has l = 0) := by show _ = _; unfold takE takP; rw [e0, if_pos hlt]
          have e3 : Hid (takS k has l = has.set j true) := by show _ = _; unfold takS takP; rw [e0]
          clear hv hb hmean hi e0
          go_wp2_with fail
          refine (HO.out _ ⟨0, rfl⟩).mono ?_
          rintro e w2 ⟨rfl, hw⟩
          have HR2 := hid (HR.out.kept (frOf hw))
          have HF2 := hid (Fr.mono (S' := fun i => i = t) ((frOf hwr).trans (frOf hw)) (fun _ _ h => h.elim))
          clear hw HO c2 ct ft
          have c2 := HR2.out.c2
          have ct := HR2.out.ct j hlt
          have ft := HR2.out.ft j
          generalize has[j] = v at *
          go_wp2
          go_ret2
          exact ⟨by rw [e1.out, e2.out]; rfl, by rw [e3.out]; exact HR2.out.set j true, HF2.out.setCell rfl _⟩
      · rw [hv] at ct
        have hmean := meant_taken (k := k) (l := l) hlt hv
        have hb2 : Hid (∀ i, i < j + 1 → meant k has l i = false) := fun i hi => by
          by_cases e : i = j
          · subst e; exact hmean
          · exact hb.out i (by omega)
        clear hv hb hmean
        go_wp2
        go_roundw
        case rel => exact ⟨j + 1, by omega, by go_num, hwr, hb2⟩
        case measure => simp [intOf]; omega
    · obtain rfl : j = has.length := by omega
      have e0 := low_none (meant k has l) has.length hb.out
      have e1 : Hid (takV k has l = 0) := by show _ = _; unfold takV takP; rw [e0, if_neg (by omega)]
      have e2 : Hid (takE k has l = 13) := by show _ = _; unfold takE takP; rw [e0, if_neg (by omega)]
      have e3 : Hid (takS k has l = has) := by show _ = _; unfold takS takP; rw [e0]; exact List.set_eq_of_length_le (Nat.le_refl _)
      clear hb e0
      go_wp2
      go_ret2
      exact ⟨by rw [e1.out, e2.out]; rfl, by rw [e3.out]; exact HR.out, (frOf hwr).mono fun _ _ h => h.elim⟩
set_option maxHeartbeats 1000000 in
theorem e_free (cap : Nat) (h : Rf w r t k has) (hl : NumsAt w ad l) (hm : l.length ≤ maxLen) :
    Calls Tryd.prog 19 #[.pointer (some ⟨r, 0, none⟩), .slice ad l.length cap] w fun e w' => e = .returned (.int .i64 (frI k has l : Int)) ∧ ∃ m, w' = w.drewN m := by
  have HH := hid h
  have HL := hid hl
  have HM := hid hm
  have hle := h.le
  clear h hl hm
  go_enter Tryd.func19, Tryd.ntmps19
  go_wp2
  go_loopw [5, 6] (fun c i wr => ∃ j : Nat, j ≤ has.length ∧ i = .int .i64 j ∧ c = .int .i64 (cnt (meant k has l) j : Nat) ∧ Hid (∃ m, wr = w.drewN m)) (fun _ i _ => has.length - (intOf i).toNat)
  case atStart => exact ⟨0, by omega, rfl, rfl, ⟨0, rfl⟩⟩
  case round =>
    obtain ⟨j, hj, rfl, rfl, hwr⟩ := hrel
    have HR : Hid (Rf wr r t k has) := HH.out.kept (frOf hwr)
    have c2 := HR.out.c2
    have hcs := hid (cnt_succ (meant k has l) j)
    have hcl := cnt_le (meant k has l) j
    by_cases hlt : j < has.length
    · have ct := HR.out.ct j hlt
      cases hv : has[j]'hlt
      · rw [hv] at ct
        have hmean := meant_free (k := k) (l := l) hlt hv
        have HO := hid fun w' (hw : ∃ m, w' = wr.drewN m) => e_of' (p := j) cap (HR.out.kept (frOf hw)) (by omega) (HL.out.fr ((frOf hwr).trans (frOf hw))) HM.out
        cases hi : inW k l j
        · rw [hi] at HO hmean
          rw [hmean] at hcs
          clear hv hmean hi
          generalize cnt (meant k has l) j = q at *
          go_wp2_with fail
          refine (HO.out _ ⟨0, rfl⟩).mono ?_
          rintro e w2 ⟨rfl, hw⟩
          have HW2 : Hid (∃ m, w2 = w.drewN m) := by obtain ⟨m, hw⟩ := hw; exact more_drew hwr m hw
          clear hw HO
          go_wp2
          go_roundw
          case rel => exact ⟨j + 1, by omega, by go_num, by rw [hcs.out]; simp, HW2⟩
          case measure => simp [intOf]; omega
        · rw [hi] at HO hmean
          rw [hmean] at hcs
          clear hv hmean hi
          generalize cnt (meant k has l) j = q at *
          go_wp2_with fail
          refine (HO.out _ ⟨0, rfl⟩).mono ?_
          rintro e w2 ⟨rfl, hw⟩
          have HW2 : Hid (∃ m, w2 = w.drewN m) := by obtain ⟨m, hw⟩ := hw; exact more_drew hwr m hw
          clear hw HO
          go_wp2
          go_roundw
          case rel => exact ⟨j + 1, by omega, by go_num, by rw [hcs.out]; go_num, HW2⟩
          case measure => simp [intOf]; omega
      · rw [hv] at ct
        have hmean := meant_taken (k := k) (l := l) hlt hv
        rw [hmean] at hcs
        clear hv hmean
        generalize cnt (meant k has l) j = q at *
        go_wp2
        go_roundw
        case rel => exact ⟨j + 1, by omega, by go_num, by rw [hcs.out]; simp, hwr⟩
        case measure => simp [intOf]; omega
    · obtain rfl : j = has.length := by omega
      have he : Hid (frI k has l = cnt (meant k has l) has.length) := rfl
      clear hcs
      go_wp2
      go_ret
      exact ⟨by rw [he.out]; simp, hwr⟩
theorem in_nat {p : Int} {n : Nat} (h : 0 ≤ p ∧ p < n) : ∃ j : Nat, p = (j : Int) ∧ j < n := ⟨p.toNat, by omega, by omega⟩
theorem e_give (h : Rf w r t k has) (p : Int) :
    Calls Tryd.prog 16 #[.pointer (some ⟨r, 0, none⟩), .int .i64 p] w fun e w' => e = .returned (.int .i64 (giE has p)) ∧ Rf w' r t k (giS has p) ∧ Fr (fun i => i = t) w w' := by
  have HH := hid h
  have c2 := h.c2
  by_cases hn : 0 ≤ p ∧ p < has.length
  · obtain ⟨j, rfl, hj⟩ := in_nat hn
    have ct := h.ct j hj
    have ft := h.ft j
    have e2 : Hid (giS has (j : Int) = has.set j false) := by show _ = _; unfold giS; rw [if_pos hn]; simp
    cases hv : has[j] with
    | false =>
      have e1 : Hid (giE has (j : Int) = 13) := by show _ = _; unfold giE; rw [if_pos hn]; simp [List.getD, hj, hv]
      have e3 : Hid (has.set j false = has) := by show _ = _; rw [← hv]; exact List.set_getElem_self hj
      rw [hv] at ct
      clear h hn hv
      go_enter Tryd.func16, Tryd.ntmps16
      go_wp2
      go_ret
      exact ⟨by rw [e1.out]; simp, by rw [e2.out, e3.out]; exact HH.out, Fr.refl _ _⟩
    | true =>
      have e1 : Hid (giE has (j : Int) = 0) := by show _ = _; unfold giE; rw [if_pos hn]; simp [List.getD, hj, hv]
      rw [hv] at ct
      clear h hn hv
      go_enter Tryd.func16, Tryd.ntmps16
      go_wp2
      go_ret
      exact ⟨by rw [e1.out]; simp, by rw [e2.out]; exact HH.out.set j false, Fr.one _ _ _ _⟩
  · have e1 : Hid (giE has p = 12) := by show _ = _; unfold giE; rw [if_neg hn]
    have e2 : Hid (giS has p = has) := by show _ = _; unfold giS; rw [if_neg hn]
    have hle := h.le
    clear h
    by_cases g1 : p < 0
    · clear hn
      go_enter Tryd.func16, Tryd.ntmps16
      go_wp2
      go_ret
      exact ⟨by rw [e1.out]; simp, by rw [e2.out]; exact HH.out, Fr.refl _ _⟩
    · have g2 : (has.length : Int) ≤ p := by omega
      clear hn
      go_enter Tryd.func16, Tryd.ntmps16
      go_wp2
      go_ret
      exact ⟨by rw [e1.out]; simp, by rw [e2.out]; exact HH.out, Fr.refl _ _⟩
theorem e_taken (h : Rf w r t k has) (p : Int) :
    Calls Tryd.prog 21 #[.pointer (some ⟨r, 0, none⟩), .int .i64 p] w fun e w' => e = .returned (.bool (isT has p)) ∧ w' = w := by
  have c2 := h.c2
  have hle := h.le
  by_cases hn : 0 ≤ p ∧ p < has.length
  · obtain ⟨j, rfl, hj⟩ := in_nat hn
    have ct := h.ct j hj
    have e1 : Hid (isT has (j : Int) = has[j]) := by show _ = _; unfold isT; rw [decide_eq_true hn]; simp [List.getD, hj]
    clear h hn
    generalize has[j] = v at *
    go_enter Tryd.func21, Tryd.ntmps21
    go_wp2
    go_ret
    exact ⟨by rw [e1.out]; simp, rfl⟩
  · have e1 : Hid (isT has p = false) := by show _ = _; unfold isT; rw [decide_eq_false hn]; rfl
    clear h
    by_cases g1 : 0 ≤ p
    · have g2 : (has.length : Int) ≤ p := by omega
      clear hn
      go_enter Tryd.func21, Tryd.ntmps21
      go_wp2
      go_ret
      exact ⟨by rw [e1.out]; simp, rfl⟩
    · clear hn
      go_enter Tryd.func21, Tryd.ntmps21
      go_wp2
      go_ret
      exact ⟨by rw [e1.out]; simp, rfl⟩
theorem e_colour (h : Rf w r t k has) (p : Int) :
    Calls Tryd.prog 23 #[.pointer (some ⟨r, 0, none⟩), .int .i64 p] w fun e w' => e = .returned (.int .i64 (colI has.length k p)) ∧ w' = w := by
  have c0 := h.c0
  have c1 := h.c1
  have hle := h.le
  have hk0 := h.k0
  have hk1 := h.k1
  by_cases hn : 0 ≤ p ∧ p < has.length
  · obtain ⟨j, rfl, hj⟩ := in_nat hn
    have e1 : Hid (colI has.length k (j : Int) = ((j % k : Nat) : Int)) := by show _ = _; unfold colI; rw [if_pos hn]; simp
    have hmod : Int.tmod (j : Int) (k : Int) = ((j % k : Nat) : Int) := by
      rw [Int.tmod_eq_emod_of_nonneg (by omega)]; rfl
    have hz : ((k : Int) == 0) = false := by simp; omega
    have hr0 : j % k < k := Nat.mod_lt _ hk0
    have hw0 : IntKind.i64.wrap ((j % k : Nat) : Int) = ((j % k : Nat) : Int) := by rw [IntKind.wrap_i64]; omega
    clear h hn
    generalize j % k = q at *
    go_enter Tryd.func23, Tryd.ntmps23
    go_wp2
    go_ret
    exact ⟨by rw [e1.out]; simp, rfl⟩
  · have e1 : Hid (colI has.length k p = -1) := by show _ = _; unfold colI; rw [if_neg hn]
    clear h
    by_cases g1 : p < 0
    · clear hn
      go_enter Tryd.func23, Tryd.ntmps23
      go_wp2
      go_ret
      exact ⟨by rw [e1.out]; simp, rfl⟩
    · have g2 : (has.length : Int) ≤ p := by omega
      clear hn
      go_enter Tryd.func23, Tryd.ntmps23
      go_wp2
      go_ret
      exact ⟨by rw [e1.out]; simp, rfl⟩
end
end Go.Proofs.YtcekpaicccmhkaaDoor
