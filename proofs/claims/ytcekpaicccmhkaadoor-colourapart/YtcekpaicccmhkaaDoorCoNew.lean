/-
  The document's configurations: which may be; a new map.
-/
import Derived.Test.YtcekpaicccmhkaaDoorCoRef
namespace Go.Proofs.YtcekpaicccmhkaaDoor
open Go.RowKit

/-- Two numbers of a configuration in memory. -/
structure Cf (w : World) (B : Nat) (n k : Int) : Prop where
  heap : w.heap[B]? = some (.cells #[.int .i64 n, .int .i64 k] 23 (0, 0))
section
variable {w w' : World} {B : Nat} {n k : Int}
theorem Cf.new (w : World) (n k : Int) : Cf (w.alloc (.cells #[.int .i64 n, .int .i64 k] 23)) w.heap.size n k := ⟨heap_alloc_new w _⟩
theorem Cf.lt (h : Cf w B n k) : B < w.heap.size := (Array.getElem?_eq_some_iff.1 h.heap).1
theorem Cf.carry {S : Nat → Prop} (h : Cf w B n k) (f : Fr S w w') (hn : ¬ S B) : Cf w' B n k := ⟨by rw [f.block B h.lt hn]; exact h.heap⟩
theorem Cf.kept (h : Cf w B n k) (f : Fr (fun _ => False) w w') : Cf w' B n k := h.carry f id
theorem Cf.alloc (h : Cf w B n k) (o : Obj) : Cf (w.alloc o) B n k := h.kept ((Fr.refl _ _).alloc o)
theorem Cf.c0 (h : Cf w B n k) : w.cell? ⟨B, 0, none⟩ = some (.int .i64 n) := by simp [World.cell?, h.heap]
theorem Cf.c1 (h : Cf w B n k) : w.cell? ⟨B, 1, none⟩ = some (.int .i64 k) := by simp [World.cell?, h.heap]
end
theorem e_right (n k : Int) (w : World) : Calls Tryd.prog 27 #[.agg #[.int .i64 n, .int .i64 k]] w fun e w' => e = .returned (.bool (decide (Cfg n k))) ∧ Fr (fun _ => False) w w' := by
  have A := Cf.new w n k
  have c0 := A.c0
  have c1 := A.c1
  clear A
  by_cases h1 : 1 ≤ k
  · by_cases h2 : k ≤ 32
    · by_cases h3 : 1 ≤ n
      · by_cases h4 : n ≤ 4096
        · have hmod : Int.tmod n k = n % k := Int.tmod_eq_emod_of_nonneg (by omega)
          have hz : (k == 0) = false := by simp; omega
          have m0 := Int.emod_nonneg n (show k ≠ 0 by omega)
          have m1 := Int.emod_lt_of_pos n (show 0 < k by omega)
          have hw0 : IntKind.i64.wrap (n % k) = n % k := by rw [IntKind.wrap_i64]; omega
          have he : Hid (decide (Cfg n k) = (n % k == 0)) := by
            show _ = _
            rw [Bool.eq_iff_iff]; simp [Cfg]; omega
          generalize decide (Cfg n k) = v at *
          generalize n % k = q at *
          go_enter Tryd.func27, Tryd.ntmps27
          go_wp2
          go_ret
          exact ⟨by rw [he.out]; simp, (Fr.refl _ _).alloc _⟩
        · have he : Hid (decide (Cfg n k) = false) := decide_eq_false fun h => h4 h.2.2.2.1
          generalize decide (Cfg n k) = v at *
          go_enter Tryd.func27, Tryd.ntmps27
          go_wp2
          go_ret
          exact ⟨by rw [he.out]; simp, (Fr.refl _ _).alloc _⟩
      · have he : Hid (decide (Cfg n k) = false) := decide_eq_false fun h => h3 h.2.2.1
        generalize decide (Cfg n k) = v at *
        go_enter Tryd.func27, Tryd.ntmps27
        go_wp2
        go_ret
        exact ⟨by rw [he.out]; simp, (Fr.refl _ _).alloc _⟩
    · have he : Hid (decide (Cfg n k) = false) := decide_eq_false fun h => h2 h.2.1
      generalize decide (Cfg n k) = v at *
      go_enter Tryd.func27, Tryd.ntmps27
      go_wp2
      go_ret
      exact ⟨by rw [he.out]; simp, (Fr.refl _ _).alloc _⟩
  · have he : Hid (decide (Cfg n k) = false) := decide_eq_false fun h => h1 h.1
    generalize decide (Cfg n k) = v at *
    go_enter Tryd.func27, Tryd.ntmps27
    go_wp2
    go_ret
    exact ⟨by rw [he.out]; simp, (Fr.refl _ _).alloc _⟩
theorem e_new_no {n k : Int} (h : ¬ Cfg n k) (w : World) : Calls Tryd.prog 9 #[.agg #[.int .i64 n, .int .i64 k]] w fun e w' => e = .returned (.tuple #[.pointer none, .int .i64 12]) ∧ Fr (fun _ => False) w w' := by
  have H1 := hid fun w => e_right n k w
  rw [decide_eq_false h] at H1
  have A := Cf.new w n k
  have c0 := A.c0
  have c1 := A.c1
  clear A h
  go_enter Tryd.func9, Tryd.ntmps9
  go_wp2_with fail
  refine (H1.out _).mono ?_
  rintro e w1 ⟨rfl, f1⟩
  have HF := hid (((Fr.refl (fun _ => False) w).alloc _).trans f1)
  clear f1
  go_wp2
  go_ret2
  exact ⟨by simp, HF.out⟩
theorem Tryd.infoBool : (Tryd.prog.info? 4).map (fun i => (i.zero, i.size, i.bytes)) = some (some (.bool false), 1, 1) := by kernel_rfl
theorem made_bools (n : Nat) : madeCells #[Value.bool false] n = (bl (List.replicate n false)).toArray := by
  apply Array.ext'
  rw [toList_madeCells_one]
  simp [bl]
theorem e_new {n k : Nat} (h : Cfg n k) (w : World) : Calls Tryd.prog 9 #[.agg #[.int .i64 (n : Int), .int .i64 (k : Int)]] w fun e w' => ∃ r t, e = .returned (.tuple #[.pointer (some ⟨r, 0, none⟩), .int .i64 0]) ∧ w.heap.size ≤ r ∧ w.heap.size ≤ t ∧ Rf w' r t k (List.replicate n false) ∧ Fr (fun _ => False) w w' := by
  have H1 := hid fun w => e_right n k w
  rw [decide_eq_true h] at H1
  have HA := hid (Cf.new w n k)
  have c0 := HA.out.c0
  have c1 := HA.out.c1
  unfold Cfg at h
  obtain ⟨i0, hi, hz0, hz1, hz2⟩ := info_parts Tryd.infoBool
  have hmk := fun w => run_make (P := Tryd.prog) w 53 4 i0 (.bool false) Tryd.underlying53 hi hz0 .i64 .i64 (n : Int) (n : Int) (by omega) (by omega) (by rw [hz2]; omega) (by omega)
  simp only [hz1, Int.toNat_natCast, Nat.mul_one, Value.cells, made_bools] at hmk
  clear hi hz0 hz1 hz2
  go_enter Tryd.func9, Tryd.ntmps9
  go_wp2_with fail
  refine (H1.out _).mono ?_
  rintro e w1 ⟨rfl, f1⟩
  have HF := hid (((Fr.refl (fun _ => False) w).alloc _).trans f1)
  have A1 := HA.out.kept f1
  clear f1 c0 c1
  have c0 := A1.c0
  have c1 := A1.c1
  clear A1 HA
  go_wp2
  go_region_held (fun w' => w'.cell? ⟨w.heap.size, 0, none⟩ = some (.int .i64 (n : Int)) ∧ w'.cell? ⟨w.heap.size, 1, none⟩ = some (.int .i64 (k : Int))) (go_keep) (fail)
  go_wp2
  go_ret2
  have hs := HF.out.size
  refine ⟨w1.heap.size + 1, w1.heap.size, by simp, by omega, hs, ⟨?_, ?_, by omega, by simp; omega, by omega, by omega⟩, ((HF.out.alloc _).alloc _).drew⟩
  · exact (heap_two w1 _ _).trans (by simp)
  · exact heap_one w1 _ _
end Go.Proofs.YtcekpaicccmhkaaDoor
