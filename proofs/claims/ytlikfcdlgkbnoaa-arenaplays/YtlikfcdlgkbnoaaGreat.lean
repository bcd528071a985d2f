/-
  Calls as data (Op), and 'great' over whatever list of them.
-/
import Derived.Test.YtlikfcdlgkbnoaaSizes
import Derived.ProofKit
namespace Go.Proofs.Ytlikfcdlgkbnoaa
open Go.RowKit Go.ChangeShapes Go.WideShapes

/-- A call, as its six fields hold it. -/
structure OpV where
  kind : Int
  a : Int
  b : Int
  c : Int
  v : Int
  data : ByteArray

/-- Its six cells. -/
def opc (o : OpV) : List Value := [.int .i64 o.kind, .int .i64 o.a, .int .i64 o.b, .int .i64 o.c, .int .u64 o.v, .string o.data]

/-- What the six fields may be. -/
structure OpV.ok (o : OpV) : Prop where
  a1 : o.a ≤ 9223372036854775807
  b1 : o.b ≤ 9223372036854775807
  c1 : o.c ≤ 9223372036854775807
  v0 : 0 ≤ o.v
  v1 : o.v ≤ 18446744073709551615
  d1 : o.data.size ≤ maxLen
  k1 : -9223372036854775808 ≤ o.kind ∧ o.kind ≤ 9223372036854775807
  a0 : -9223372036854775808 ≤ o.a
  b0 : -9223372036854775808 ≤ o.b
  c0 : -9223372036854775808 ≤ o.c

/-- The six cells of call i of a list that lies from a on. -/
def OpsAt (w : World) (b off : Nat) (ops : List OpV) : Prop :=
  ∀ i (hi : i < ops.length), w.cell? ⟨b, off + i * 6, none⟩ = some (.int .i64 (ops[i]).kind) ∧ w.cell? ⟨b, off + i * 6 + 1, none⟩ = some (.int .i64 (ops[i]).a) ∧ w.cell? ⟨b, off + i * 6 + 2, none⟩ = some (.int .i64 (ops[i]).b) ∧
    w.cell? ⟨b, off + i * 6 + 3, none⟩ = some (.int .i64 (ops[i]).c) ∧ w.cell? ⟨b, off + i * 6 + 4, none⟩ = some (.int .u64 (ops[i]).v) ∧ w.cell? ⟨b, off + i * 6 + 5, none⟩ = some (.string (ops[i]).data)

theorem OpsAt.fr {S : Nat → Prop} {w w' : World} {b off : Nat} {ops : List OpV} (h : OpsAt w b off ops) (hf : Fr S w w') (hb : b < w.heap.size) (hs : ¬ S b) : OpsAt w' b off ops := by
  intro i hi
  have e : ∀ o, w'.cell? ⟨b, o, none⟩ = w.cell? ⟨b, o, none⟩ := fun o => World.cell?_of_block (w := w) (hf.block b hb hs)
  simp only [e]
  exact h i hi

/-- What 'great' reckons. -/
def weigh (n : Nat) (o : OpV) : Nat := n + (1 + min o.data.size 1048576)
def greatL : List OpV → Nat → Bool
  | [], _ => false
  | o :: r, n => if 16384 < weigh n o then true else greatL r (weigh n o)

theorem great_yes {ops : List OpV} {j k : Nat} (hj : j < ops.length) (h : 16384 < weigh k ops[j]) : greatL (ops.drop j) k = true := by
  rw [List.drop_eq_getElem_cons hj, greatL, if_pos h]
theorem great_no {ops : List OpV} {j k : Nat} (hj : j < ops.length) (h : ¬ 16384 < weigh k ops[j]) : greatL (ops.drop j) k = greatL (ops.drop (j + 1)) (weigh k ops[j]) := by
  rw [List.drop_eq_getElem_cons hj, greatL, if_neg h]

theorem min_int (d : Nat) : (if (1048576 : Int) < (d : Int) then (1048576 : Int) else (d : Int)) = ((min d 1048576 : Nat) : Int) := by
  split <;> omega

set_option maxHeartbeats 1000000 in
theorem great_pos {w : World} {b off cap : Nat} {ops : List OpV} (h : OpsAt w b off ops) (hb : b < w.heap.size) (hl : ops.length ≤ maxLen) (hd : ∀ i (hi : i < ops.length), (ops[i]).data.size ≤ maxLen) (h0 : 0 < ops.length) :
    Calls Try.prog 12 #[.slice (some ⟨b, off, none⟩) ops.length cap] w fun e w' => e = .returned (.bool (greatL ops 0 || decide (500 < ops.length))) ∧ Fr (fun _ => False) w w' := by
  have HO : Hid (OpsAt w b off ops) := h
  have HD : Hid (∀ i (hi : i < ops.length), (ops[i]).data.size ≤ maxLen) := hd
  clear h hd
  unfold maxLen at hl
  go_enter Try.func12, Try.ntmps12
  go_wp2
  go_loopw [3, 5, 8] (fun n _ i wr => ∃ j k : Nat, j ≤ ops.length ∧ i = .int .i64 j ∧ n = .int .i64 k ∧ k ≤ 16384 ∧ greatL (ops.drop j) k = greatL ops 0 ∧ Fr (fun _ => False) w wr) (fun _ _ i _ => ops.length - (intOf i).toNat)
  case atStart => exact ⟨0, 0, by omega, rfl, rfl, by omega, rfl, Fr.refl _ _⟩
  case round =>
    obtain ⟨j, k, hj, rfl, rfl, hk, hg, hf⟩ := hrel
    have HF : Hid (Fr (fun _ => False) w wr) := hf
    have HG : Hid (greatL (ops.drop j) k = greatL ops 0) := hg
    by_cases hlt : j < ops.length
    · obtain ⟨p0, p1, p2, p3, p4, p5⟩ := HO.out.fr hf hb (fun h => h) j hlt
      have hds := HD.out j hlt
      unfold maxLen at hds
      have hw : weigh k ops[j] = k + (1 + min ops[j].data.size 1048576) := rfl
      have HY : Hid (16384 < weigh k ops[j] → greatL ops 0 = true) := fun h => by rw [← HG.out]; exact great_yes hlt h
      have HN : Hid (¬ 16384 < weigh k ops[j] → greatL (ops.drop (j + 1)) (weigh k ops[j]) = greatL ops 0) := fun h => by rw [← HG.out]; exact (great_no hlt h).symm
      have HWt : Hid (weigh k ops[j] = k + (1 + min ops[j].data.size 1048576)) := hw
      clear hf hg hw HG
      generalize weigh k ops[j] = wt at *
      generalize ops[j].data = dt at *
      go_wp2
      · have hy : greatL ops 0 = true := HY.out (by have := HWt.out; omega)
        go_ret
        exact ⟨by rw [hy]; rfl, HF.out.alloc _⟩
      · have hy : greatL ops 0 = true := HY.out (by have := HWt.out; omega)
        go_ret
        exact ⟨by rw [hy]; rfl, HF.out.alloc _⟩
      · have hle : (k : Int) + (1 + if (1048576 : Int) < (dt.size : Int) then (1048576 : Int) else (dt.size : Int)) ≤ 16384 := by assumption
        have he : (k : Int) + (1 + if (1048576 : Int) < (dt.size : Int) then (1048576 : Int) else (dt.size : Int)) = (wt : Int) := by rw [min_int, HWt.out]; omega
        rw [he] at hle
        go_roundw
        case rel => exact ⟨j + 1, wt, by omega, by go_num, by rw [he], by omega, HN.out (by omega), HF.out.alloc _⟩
        case measure => simp [intOf]; omega
    · obtain rfl : j = ops.length := by omega
      have HGG : Hid (greatL ops 0 = false) := by
        show greatL ops 0 = false
        rw [← hg, List.drop_length]; rfl
      clear hf hg HG
      go_wp2
      go_ret
      exact ⟨by rw [HGG.out, Bool.false_or]; exact congrArg (fun x => Ending.returned (Value.bool x)) (decide_eq_decide.2 (by omega)), HF.out⟩

theorem great_none {w : World} (ad : Option Addr) (cap : Nat) :
    Calls Try.prog 12 #[.slice ad 0 cap] w fun e w' => e = .returned (.bool false) ∧ w' = w := by
  go_enter Try.func12, Try.ntmps12
  go_wp2
  refine wp_loop_rounds 1 ?_
  rw [rounds_succ]
  go_wp2
  go_ret
  exact ⟨rfl, rfl⟩
end Go.Proofs.Ytlikfcdlgkbnoaa
