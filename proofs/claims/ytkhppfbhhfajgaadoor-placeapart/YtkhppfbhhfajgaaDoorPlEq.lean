/-
  Two triples held against each other.
-/
import Derived.Test.YtkhppfbhhfajgaaDoorPlAwake
import Derived.ChangeKeysEq
import Derived.OwnWalk
import Derived.OpenShut
namespace Go.Proofs.YtkhppfbhhfajgaaDoor
open Go.RowKit

theorem wfI {n : Int} (h : I64 n) : (Lit.int .i64 n).wf = true := by simp [Lit.wf, IntKind.min, IntKind.max, IntKind.signed, IntKind.bits]; omega
theorem Tryd.infoInt3 : (Tryd.prog.info? 3).map (fun i => (i.zero, i.size, i.bytes)) = some (some (.int .i64 0), 1, 8) := by kernel_rfl
theorem Tryd.cellsInt3 : Tryd.prog.cellsOf 3 = 1 := by kernel_rfl
theorem Tryd.plainInt3 : Tryd.prog.plainKey 3 = true := by kernel_rfl
theorem eq3 {a b c d f g : Int} (ha : I64 a) (hb : I64 b) (hc : I64 c) (hd : I64 d) (hf : I64 f) (hg : I64 g) (w : World) : (Op.equalIn 10000 34 (.agg #[.int .i64 a, .int .i64 b, .int .i64 c]) (.agg #[.int .i64 d, .int .i64 f, .int .i64 g])).run Tryd.prog w = .ok (decide (a = d ∧ b = f ∧ c = g)) w := by
  obtain ⟨i0, hi, _, _, _⟩ := info_parts Tryd.infoInt3
  have r3 : List.range 3 = [0, 1, 2] := rfl
  obtain ⟨r, hr, hiff⟩ := run_eqItems_plain (P := Tryd.prog) w 9998 Tryd.plainInt3 #[.int .i64 a, .int .i64 b, .int .i64 c] #[.int .i64 d, .int .i64 f, .int .i64 g] (D := 1) (D' := 1) [0, 1, 2] [[.int .i64 a], [.int .i64 b], [.int .i64 c]] [[.int .i64 d], [.int .i64 f], [.int .i64 g]]
    (by simp [Tryd.cellsInt3, Program.keyLits, Tryd.underlying3, wfI ha, wfI hb, wfI hc]) (by simp [Tryd.cellsInt3, Program.keyLits, Tryd.underlying3, wfI hd, wfI hf, wfI hg])
  rw [run_equalIn_array (P := Tryd.prog) w 9999 _ _ Tryd.underlying34 hi, r3, hr]
  congr 1
  cases r
  · symm
    apply decide_eq_false
    rintro ⟨rfl, rfl, rfl⟩
    exact absurd (hiff.2 rfl) (by decide)
  · symm
    apply decide_eq_true
    have := hiff.1 rfl
    simpa using this
end Go.Proofs.YtkhppfbhhfajgaaDoor
