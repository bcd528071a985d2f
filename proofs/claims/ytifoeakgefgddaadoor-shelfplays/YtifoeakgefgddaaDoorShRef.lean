/-
  The document's shelf (a row of Booleans): what each of its calls answers and leaves.
-/
import Derived.Test.YtifoeakgefgddaaDoorShTwo
namespace Go.Proofs.YtifoeakgefgddaaDoor
open Go.RowKit

def bl (l : List Bool) : List Value := l.map Value.bool
/-- In w there lies a shelf of the document's at block r: its Booleans lie in block t. -/
structure Rf (w : World) (r t : Nat) (has : List Bool) : Prop where
  st : w.heap[r]? = some (.cells #[.slice (some ⟨t, 0, none⟩) has.length has.length] 51 (0, 0))
  row : w.heap[t]? = some (.cells (bl has).toArray 4 (0, 0))
  ne : r ≠ t
  le : has.length ≤ 65536
section
variable {w w' : World} {r t : Nat} {has : List Bool}
theorem Rf.c0 (h : Rf w r t has) : w.cell? ⟨r, 0, none⟩ = some (.slice (some ⟨t, 0, none⟩) has.length has.length) := by simp [World.cell?, h.st]
theorem Rf.ct (h : Rf w r t has) (j : Nat) (hj : j < has.length) : w.cell? ⟨t, j, none⟩ = some (.bool has[j]) := by simp [World.cell?, h.row, bl, hj]
theorem Rf.ft (h : Rf w r t has) (j : Nat) : w.frozen? ⟨t, j, none⟩ = false := row_frozen h.row j
theorem Rf.ltr (h : Rf w r t has) : r < w.heap.size := (Array.getElem?_eq_some_iff.1 h.st).1
theorem Rf.ltt (h : Rf w r t has) : t < w.heap.size := (Array.getElem?_eq_some_iff.1 h.row).1
theorem Rf.carry {S : Nat → Prop} (h : Rf w r t has) (hf : Fr S w w') (h1 : ¬ S r) (h2 : ¬ S t) : Rf w' r t has :=
  ⟨by rw [hf.block r h.ltr h1]; exact h.st, by rw [hf.block t h.ltt h2]; exact h.row, h.ne, h.le⟩
theorem Rf.set (h : Rf w r t has) (k : Nat) (b : Bool) : Rf (w.setCell ⟨t, k, none⟩ (.bool b)) r t (has.set k b) := by
  refine ⟨?_, ?_, h.ne, by simpa using h.le⟩
  · rw [Below.heap_setCell w _ _ r h.ne]; simpa using h.st
  · rw [heap_setCell_same w t k _ _ _ h.row]
    congr 2
    apply Array.ext'
    simp [bl, List.map_set]
theorem Fr.one (w : World) (t k : Nat) (b : Bool) : Fr (fun i => i = t) w (w.setCell ⟨t, k, none⟩ (.bool b)) := Fr.setCell (S := fun i => i = t) (p := ⟨t, k, none⟩) (Fr.refl _ _) rfl _

set_option maxHeartbeats 400000 in
theorem d_lowest (h : Rf w r t has) :
    Calls Tryd.prog 18 #[.pointer (some ⟨r, 0, none⟩)] w fun e w' => e = .returned (.int .i64 (lowI has)) ∧ w' = w := by
  have c0 := h.c0
  have hle := h.le
  have HS := hid h
  clear h
  go_enter Tryd.func18, Tryd.ntmps18
  go_wp2
  go_loopw [3] (fun i wr => ∃ j : Nat, j ≤ has.length ∧ i = .int .i64 j ∧ wr = w ∧ Hid (∀ i (_ : i < j) (hl : i < has.length), has[i] = true)) (fun i _ => has.length - (intOf i).toNat)
  case atStart => exact ⟨0, by omega, rfl, rfl, fun i hi _ => by omega⟩
  case round =>
    obtain ⟨j, hj, rfl, hwr, hb⟩ := hrel
    obtain rfl := hwr.symm
    clear hwr
    by_cases hlt : j < has.length
    · have ct := HS.out.ct j hlt
      cases hv : has[j]'hlt
      · have he : lowI has = (j : Int) := by
          have := low_unique has j hlt hv (fun i hi => hb.out i hi (by omega))
          unfold lowI; rw [if_pos (by omega), this]
        have HE := hid he
        rw [hv] at ct
        clear hv he
        go_wp2
        go_ret
        exact ⟨by rw [HE.out]; simp, rfl⟩
      · have hb' : Hid (∀ i (_ : i < j + 1) (hl : i < has.length), has[i] = true) := fun i hi hl => by
          by_cases e : i = j
          · subst e; exact hv
          · exact hb.out i (by omega) hl
        rw [hv] at ct
        clear hv
        go_wp2
        go_roundw
        case rel => exact ⟨j + 1, by omega, by go_num, trivial, hb'⟩
        case measure => simp [intOf]; omega
    · obtain rfl : j = has.length := by omega
      have he : lowI has = -1 := by
        have := low_full has (fun i hi => hb.out i hi hi)
        unfold lowI; rw [if_neg (by omega)]
      have HE := hid he
      clear he
      go_wp2
      go_ret
      exact ⟨by rw [HE.out]; simp, rfl⟩
set_option maxHeartbeats 400000 in
theorem d_free (h : Rf w r t has) :
    Calls Tryd.prog 16 #[.pointer (some ⟨r, 0, none⟩)] w fun e w' => e = .returned (.int .i64 (frees has : Int)) ∧ w' = w := by
  have c0 := h.c0
  have hle := h.le
  have HS := hid h
  clear h
  go_enter Tryd.func16, Tryd.ntmps16
  go_wp2
  go_loopw [3, 4] (fun n i wr => ∃ j : Nat, j ≤ has.length ∧ i = .int .i64 j ∧ n = .int .i64 (frees (has.take j) : Nat) ∧ wr = w) (fun _ i _ => has.length - (intOf i).toNat)
  case atStart => exact ⟨0, by omega, rfl, by simp [frees], rfl⟩
  case round =>
    obtain ⟨j, hj, rfl, rfl, hwr⟩ := hrel
    obtain rfl := hwr.symm
    clear hwr
    by_cases hlt : j < has.length
    · have ct := HS.out.ct j hlt
      have HF := hid (frees_take_succ has j hlt)
      have hfb : frees (has.take j) ≤ 65536 := by have := frees_le (has.take j); simp at this; omega
      cases hv : has[j]'hlt
      · rw [hv] at ct HF
        generalize frees (has.take j) = f at *
        clear hv
        go_wp2
        go_roundw
        case rel => exact ⟨j + 1, by omega, by go_num, by rw [HF.out]; go_num, trivial⟩
        case measure => simp [intOf]; omega
      · rw [hv] at ct HF
        generalize frees (has.take j) = f at *
        clear hv
        go_wp2
        go_roundw
        case rel => exact ⟨j + 1, by omega, by go_num, by rw [HF.out]; go_num, trivial⟩
        case measure => simp [intOf]; omega
    · obtain rfl : j = has.length := by omega
      go_wp2
      go_ret
      exact ⟨by rw [List.take_length]; simp, rfl⟩
theorem d_taken (h : Rf w r t has) (k : Int) :
    Calls Tryd.prog 20 #[.pointer (some ⟨r, 0, none⟩), .int .i64 k] w fun e w' => e = .returned (.bool (isT has k)) ∧ w' = w := by
  have c0 := h.c0
  cases hn : hasN has k with
  | true =>
    obtain ⟨g1, g2⟩ := hasN_iff.1 hn
    obtain ⟨n, rfl⟩ : ∃ n : Nat, k = (n : Int) := ⟨k.toNat, by omega⟩
    have hlt : n < has.length := by omega
    have ct := h.ct n hlt
    rw [isT_nat has n hlt]
    clear h hn g1 g2
    generalize has[n] = v at *
    go_enter Tryd.func20, Tryd.ntmps20
    go_wp2
    go_ret
    exact ⟨by simp, rfl⟩
  | false =>
    have e : isT has k = false := by simp [isT, hn]
    rw [e]
    have hn' : ¬ (0 ≤ k ∧ k < has.length) := fun h => by rw [hasN_iff.2 h] at hn; cases hn
    clear h hn e
    by_cases g1 : 0 ≤ k
    · have g2 : (has.length : Int) ≤ k := by omega
      clear hn'
      go_enter Tryd.func20, Tryd.ntmps20
      go_wp2
      go_ret
      exact ⟨by simp, rfl⟩
    · clear hn'
      go_enter Tryd.func20, Tryd.ntmps20
      go_wp2
      go_ret
      exact ⟨by simp, rfl⟩
theorem d_take (h : Rf w r t has) :
    Calls Tryd.prog 26 #[.pointer (some ⟨r, 0, none⟩)] w fun e w' => e = .returned (.tuple #[.int .i64 (takV has), .int .i64 (takE has)]) ∧ Rf w' r t (takS has) ∧ Fr (fun i => i = t) w w' := by
  have HL := hid (d_lowest h)
  have HH := hid h
  have hle := h.le
  by_cases hl : low has < has.length
  · have e1 : lowI has = (low has : Int) := by unfold lowI; rw [if_pos hl]
    have e2 : takV has = (low has : Int) := by unfold takV; rw [if_pos hl]
    have e3 : takE has = 0 := by unfold takE; rw [if_pos hl]
    have e4 : takS has = has.set (low has) true := by unfold takS; rw [if_pos hl]
    have c0 := h.c0
    have ct := h.ct (low has) hl
    have ft := h.ft (low has)
    rw [e1] at HL
    rw [e2, e3, e4]
    clear h e1 e2 e3 e4
    generalize has[low has] = v at *
    generalize low has = k at *
    go_enter Tryd.func26, Tryd.ntmps26
    go_wp2_with fail
    refine HL.out.mono ?_
    rintro e w' ⟨rfl, hw⟩
    obtain rfl := hw.symm
    go_wp2
    go_ret2
    exact ⟨by simp, HH.out.set k true, Fr.one _ _ _ _⟩
  · have e1 : lowI has = -1 := by unfold lowI; rw [if_neg hl]
    have e2 : takV has = 0 := by unfold takV; rw [if_neg hl]
    have e3 : takE has = 13 := by unfold takE; rw [if_neg hl]
    have e4 : takS has = has := by unfold takS; rw [if_neg hl]
    rw [e1] at HL
    rw [e2, e3, e4]
    clear h e1 e2 e3 e4
    go_enter Tryd.func26, Tryd.ntmps26
    go_wp2_with fail
    refine HL.out.mono ?_
    rintro e w' ⟨rfl, hw⟩
    obtain rfl := hw.symm
    go_wp2
    go_ret2
    exact ⟨by simp, HH.out, Fr.refl _ _⟩
theorem d_takeAt (h : Rf w r t has) (k : Int) :
    Calls Tryd.prog 27 #[.pointer (some ⟨r, 0, none⟩), .int .i64 k] w fun e w' => e = .returned (.int .i64 (taE has k)) ∧ Rf w' r t (taS has k) ∧ Fr (fun i => i = t) w w' := by
  have c0 := h.c0
  have HH := hid h
  cases hn : hasN has k with
  | true =>
    obtain ⟨g1, g2⟩ := hasN_iff.1 hn
    obtain ⟨n, rfl⟩ : ∃ n : Nat, k = (n : Int) := ⟨k.toNat, by omega⟩
    have hlt : n < has.length := by omega
    have ct := h.ct n hlt
    have ft := h.ft n
    cases hv : has[n] with
    | false =>
      have ht : isT has (n : Int) = false := by rw [isT_nat has n hlt, hv]
      have e1 : taE has (n : Int) = 0 := by simp [taE, hn, ht]
      have e2 : taS has (n : Int) = has.set n true := by simp [taS, hn]
      rw [hv] at ct
      rw [e1, e2]
      clear h hn g1 g2 hv ht e1 e2
      go_enter Tryd.func27, Tryd.ntmps27
      go_wp2
      go_ret
      exact ⟨by simp, HH.out.set n true, Fr.one _ _ _ _⟩
    | true =>
      have ht : isT has (n : Int) = true := by rw [isT_nat has n hlt, hv]
      have e1 : taE has (n : Int) = 7 := by simp [taE, hn, ht]
      have e2 : taS has (n : Int) = has := taS_taken _ _ ht
      rw [hv] at ct
      rw [e1, e2]
      clear h hn g1 g2 hv ht e1 e2
      go_enter Tryd.func27, Tryd.ntmps27
      go_wp2
      go_ret
      exact ⟨by simp, HH.out, Fr.refl _ _⟩
  | false =>
    have e1 : taE has k = 12 := by simp [taE, hn]
    have e2 : taS has k = has := by simp [taS, hn]
    rw [e1, e2]
    have hn' : ¬ (0 ≤ k ∧ k < has.length) := fun h => by rw [hasN_iff.2 h] at hn; cases hn
    clear h hn e1 e2
    by_cases g1 : k < 0
    · clear hn'
      go_enter Tryd.func27, Tryd.ntmps27
      go_wp2
      go_ret
      exact ⟨by simp, HH.out, Fr.refl _ _⟩
    · have g2 : (has.length : Int) ≤ k := by omega
      clear hn'
      go_enter Tryd.func27, Tryd.ntmps27
      go_wp2
      go_ret
      exact ⟨by simp, HH.out, Fr.refl _ _⟩
theorem d_give (h : Rf w r t has) (k : Int) :
    Calls Tryd.prog 28 #[.pointer (some ⟨r, 0, none⟩), .int .i64 k] w fun e w' => e = .returned (.int .i64 (giE has k)) ∧ Rf w' r t (giS has k) ∧ Fr (fun i => i = t) w w' := by
  have c0 := h.c0
  have HH := hid h
  cases hn : hasN has k with
  | true =>
    obtain ⟨g1, g2⟩ := hasN_iff.1 hn
    obtain ⟨n, rfl⟩ : ∃ n : Nat, k = (n : Int) := ⟨k.toNat, by omega⟩
    have hlt : n < has.length := by omega
    have ct := h.ct n hlt
    have ft := h.ft n
    cases hv : has[n] with
    | true =>
      have ht : isT has (n : Int) = true := by rw [isT_nat has n hlt, hv]
      have e1 : giE has (n : Int) = 0 := by simp [giE, hn, ht]
      have e2 : giS has (n : Int) = has.set n false := by simp [giS, hn]
      rw [hv] at ct
      rw [e1, e2]
      clear h hn g1 g2 hv ht e1 e2
      go_enter Tryd.func28, Tryd.ntmps28
      go_wp2
      go_ret
      exact ⟨by simp, HH.out.set n false, Fr.one _ _ _ _⟩
    | false =>
      have ht : isT has (n : Int) = false := by rw [isT_nat has n hlt, hv]
      have e1 : giE has (n : Int) = 13 := by simp [giE, hn, ht]
      have e2 : giS has (n : Int) = has := giS_free _ _ ht
      rw [hv] at ct
      rw [e1, e2]
      clear h hn g1 g2 hv ht e1 e2
      go_enter Tryd.func28, Tryd.ntmps28
      go_wp2
      go_ret
      exact ⟨by simp, HH.out, Fr.refl _ _⟩
  | false =>
    have e1 : giE has k = 12 := by simp [giE, hn]
    have e2 : giS has k = has := by simp [giS, hn]
    rw [e1, e2]
    have hn' : ¬ (0 ≤ k ∧ k < has.length) := fun h => by rw [hasN_iff.2 h] at hn; cases hn
    clear h hn e1 e2
    by_cases g1 : k < 0
    · clear hn'
      go_enter Tryd.func28, Tryd.ntmps28
      go_wp2
      go_ret
      exact ⟨by simp, HH.out, Fr.refl _ _⟩
    · have g2 : (has.length : Int) ≤ k := by omega
      clear hn'
      go_enter Tryd.func28, Tryd.ntmps28
      go_wp2
      go_ret
      exact ⟨by simp, HH.out, Fr.refl _ _⟩
theorem Tryd.infoBool : (Tryd.prog.info? 4).map (fun i => (i.zero, i.size, i.bytes)) = some (some (.bool false), 1, 1) := by kernel_rfl
theorem made_bools (n : Nat) : madeCells #[Value.bool false] n = (bl (List.replicate n false)).toArray := by
  apply Array.ext'
  rw [toList_madeCells_one]
  simp [bl]
theorem d_new (n : Nat) (w : World) (h : n ≤ 65536) :
    Calls Tryd.prog 11 #[.int .i64 n] w fun e w' => e = .returned (.tuple #[.pointer (some ⟨w.heap.size + 1, 0, none⟩), .int .i64 0]) ∧ Rf w' (w.heap.size + 1) w.heap.size (List.replicate n false) ∧ Fr (fun _ => False) w w' := by
  obtain ⟨i0, hi, hz0, hz1, hz2⟩ := info_parts Tryd.infoBool
  have hmk := run_make (P := Tryd.prog) w 49 4 i0 (.bool false) Tryd.underlying49 hi hz0 .i64 .i64 (n : Int) (n : Int) (by omega) (by omega) (by rw [hz2]; omega) (by omega)
  rw [hz1] at hmk
  simp only [Int.toNat_natCast, Nat.mul_one, Value.cells, made_bools] at hmk
  clear hi hz0 hz1 hz2
  go_enter Tryd.func11, Tryd.ntmps11
  go_wp2
  go_ret2
  refine ⟨by simp, ⟨?_, ?_, by omega, by simpa using h⟩, ((Fr.refl _ _).alloc _).alloc _⟩
  · rw [heap_two]; simp
  · rw [heap_one]
theorem d_new_bad (n : Int) (w : World) (h : n < 0 ∨ 65536 < n) :
    Calls Tryd.prog 11 #[.int .i64 n] w fun e w' => e = .returned (.tuple #[.pointer none, .int .i64 12]) ∧ w' = w := by
  by_cases h0 : n < 0
  · go_enter Tryd.func11, Tryd.ntmps11
    go_wp2
    go_ret2
    exact ⟨by simp, rfl⟩
  · have h1 : 65536 < n := by omega
    clear h
    go_enter Tryd.func11, Tryd.ntmps11
    go_wp2
    go_ret2
    exact ⟨by simp, rfl⟩
end
end Go.Proofs.YtifoeakgefgddaaDoor
