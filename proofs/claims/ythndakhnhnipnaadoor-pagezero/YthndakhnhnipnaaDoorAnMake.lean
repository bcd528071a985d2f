/-
  Bytes that 'make' lays, read as text.
-/
import Derived.Test.YthndakhnhnipnaaDoorAnArena
namespace Go.Proofs.YthndakhnhnipnaaDoor.An
open Go.RowKit

/-- So many noughts: a name that the walk leaves standing. -/
def zs (n : Nat) : List UInt8 := List.replicate n 0
theorem zs_length (n : Nat) : (zs n).length = n := by simp [zs]
/-- 'make([]byte, n)'. -/
theorem run_make_bytes (w : World) (n : Nat) (hn : n ≤ 2097152) : (Instr.makeSlice 54 (.int .i64 n) (.int .i64 n)).run Tryd.prog w = .ok (.slice (some ⟨w.heap.size, 0, none⟩) n n) (w.alloc (.cells (bc (zs n)).toArray 5)) := by
  obtain ⟨i0, hi, hz0, hz1, hz2⟩ := info_parts Tryd.info5
  have hmk := run_make (P := Tryd.prog) w 54 5 i0 (.int .u8 0) Tryd.underlying54 hi hz0 .i64 .i64 (n : Int) (n : Int) (by omega) (by omega) (by rw [hz2]; omega) (by omega)
  rw [hz1] at hmk
  simp only [Int.toNat_natCast, Nat.mul_one, Value.cells, made_bytes] at hmk
  exact hmk
/-- 'string(make([]byte, n))'. -/
theorem run_made_text (w : World) (n : Nat) : (convert 54 9 (.slice (some ⟨w.heap.size, 0, none⟩) n n)).run Tryd.prog (w.alloc (.cells (bc (zs n)).toArray 5)) = .ok (.string ⟨(zs n).toArray⟩) (w.alloc (.cells (bc (zs n)).toArray 5)) := by
  have := run_bytes_string (P := Tryd.prog) 54 5 9 Tryd.underlying54 Tryd.underlying5 Tryd.underlying9 (w := w.alloc (.cells (bc (zs n)).toArray 5)) (b := w.heap.size) (l := zs n) (heap_alloc_new w _) 0 n n (by simp [zs_length])
  rw [List.drop_zero, List.take_of_length_le (by simp [zs_length])] at this
  exact this
end Go.Proofs.YthndakhnhnipnaaDoor.An
