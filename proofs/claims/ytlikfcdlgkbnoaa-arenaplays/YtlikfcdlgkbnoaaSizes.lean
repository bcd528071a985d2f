/-
  Small laws: a number brought below a bound; bytes that 'make' lays, read as text.
-/
import Derived.Test.YtlikfcdlgkbnoaaAwake
namespace Go.Proofs.Ytlikfcdlgkbnoaa
open Go.RowKit

theorem size_mod (z : Int) (k : Int) (h0 : 0 < k) (h1 : k ≤ 65536) : ∃ N : Nat, (N : Int) < k ∧ wrap64 ((IntKind.u64.wrap z).tmod k) = (N : Int) := by
  have e : IntKind.u64.wrap z = z % 18446744073709551616 := rfl
  have h2 : 0 ≤ z % 18446744073709551616 := Int.emod_nonneg _ (by omega)
  rw [e, Int.tmod_eq_emod_of_nonneg h2]
  have h3 : 0 ≤ (z % 18446744073709551616) % k := Int.emod_nonneg _ (by omega)
  have h4 : (z % 18446744073709551616) % k < k := Int.emod_lt_of_pos _ h0
  obtain ⟨N, hN⟩ := Int.eq_ofNat_of_zero_le h3
  rw [hN] at h4 ⊢
  refine ⟨N, h4, ?_⟩
  simp only [wrap64]
  omega

/-- So many noughts: a name that the walk leaves standing. -/
def zs (n : Nat) : List UInt8 := List.replicate n 0
theorem zs_length (n : Nat) : (zs n).length = n := by simp [zs]
/-- 'make([]byte, n)'. -/
theorem run_make_bytes (w : World) (n : Nat) (hn : n ≤ 2097152) : (Instr.makeSlice 39 (.int .i64 n) (.int .i64 n)).run Try.prog w = .ok (.slice (some ⟨w.heap.size, 0, none⟩) n n) (w.alloc (.cells (bc (zs n)).toArray 5)) := by
  obtain ⟨i0, hi, hz0, hz1, hz2⟩ := info_parts Try.info5
  have hmk := run_make (P := Try.prog) w 39 5 i0 (.int .u8 0) Try.underlying39 hi hz0 .i64 .i64 (n : Int) (n : Int) (by omega) (by omega) (by rw [hz2]; omega) (by omega)
  rw [hz1] at hmk
  simp only [Int.toNat_natCast, Nat.mul_one, Value.cells, made_bytes] at hmk
  exact hmk
/-- 'string(make([]byte, n))'. -/
theorem run_made_text (w : World) (n : Nat) : (convert 39 9 (.slice (some ⟨w.heap.size, 0, none⟩) n n)).run Try.prog (w.alloc (.cells (bc (zs n)).toArray 5)) = .ok (.string ⟨(zs n).toArray⟩) (w.alloc (.cells (bc (zs n)).toArray 5)) := by
  have := run_bytes_string (P := Try.prog) 39 5 9 Try.underlying39 Try.underlying5 Try.underlying9 (w := w.alloc (.cells (bc (zs n)).toArray 5)) (b := w.heap.size) (l := zs n) (heap_alloc_new w _) 0 n n (by simp [zs_length])
  rw [List.drop_zero, List.take_of_length_le (by simp [zs_length])] at this
  exact this
end Go.Proofs.Ytlikfcdlgkbnoaa
