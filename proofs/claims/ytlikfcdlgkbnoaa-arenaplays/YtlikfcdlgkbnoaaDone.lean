/-
  One call of both arenas (the law's 'done'): they answer alike, and are alike behind it.
-/
import Derived.Test.YtlikfcdlgkbnoaaUni
import Derived.Deep.RegionHeld
namespace Go.Proofs.Ytlikfcdlgkbnoaa
open Go.RowKit

/-- Both arenas are alike behind a call, of the same size, with at most two spans more. -/
def Alike2 (W w' : World) (B1 a1 b1 B2 a2 b2 N K : Nat) : Prop := ∃ bs' ss', bs'.length = N ∧ ss'.length ≤ K ∧ Pair W w' B1 a1 b1 bs' ss' B2 a2 b2 bs' ss'

theorem box_cells {w : World} {bx : Nat} {c0 c1 c2 c3 c4 c5 : Value} {T : TypeId} (h : w.heap[bx]? = some (.cells #[c0, c1, c2, c3, c4, c5] T (0, 0))) :
    w.cell? ⟨bx, 0, none⟩ = some c0 ∧ w.cell? ⟨bx, 1, none⟩ = some c1 ∧ w.cell? ⟨bx, 2, none⟩ = some c2 ∧ w.cell? ⟨bx, 3, none⟩ = some c3 ∧ w.cell? ⟨bx, 4, none⟩ = some c4 ∧ w.cell? ⟨bx, 5, none⟩ = some c5 := by
  simp [World.cell?, h]

set_option maxHeartbeats 2000000 in
theorem done_load {W w : World} {B1 a1 b1 B2 a2 b2 : Nat} {bs : List UInt8} {ss : List Sp} (h : Pair W w B1 a1 b1 bs ss B2 a2 b2 bs ss) (x y n u : Int) (d : ByteArray) (hx : x ≤ 9223372036854775807) (hk : ss.length < 1000000) :
    Calls Try.prog 13 #[.pointer (some ⟨a1, 0, none⟩), .pointer (some ⟨a2, 0, none⟩), .agg #[.int .i64 1, .int .i64 x, .int .i64 y, .int .i64 n, .int .u64 u, .string d]] w fun e w' => e = .returned (.bool true) ∧ Alike2 W w' B1 a1 b1 B2 a2 b2 bs.length (ss.length + 2) := by
  have h2 := h.box (.cells #[.int .i64 1, .int .i64 x, .int .i64 y, .int .i64 n, .int .u64 u, .string d] 34)
  obtain ⟨p0, p1, p2, p3, p4, p5⟩ := box_cells h2.cell
  have HC : Hid (Calls Try.prog 18 #[.pointer (some ⟨a1, 0, none⟩), .int .i64 x] (w.alloc (.cells #[.int .i64 1, .int .i64 x, .int .i64 y, .int .i64 n, .int .u64 u, .string d] 34)) fun e w' => e = .returned (.tuple #[.int .u64 (ldV (inB x 8 bs.length) bs x), .int .i64 (errE (inB x 8 bs.length))]) ∧ Two W w' B1 a1 b1 bs (notS (inB x 8 bs.length) ss x 8 false) B2 a2 b2 bs ss w.heap.size (.cells #[.int .i64 1, .int .i64 x, .int .i64 y, .int .i64 n, .int .u64 u, .string d] 34 (0, 0))) := t_load h2 x hx (by omega)
  have HLe : Hid ((notS (inB x 8 bs.length) ss x 8 false).length ≤ ss.length + 2) := by
    have := notS_le (inB x 8 bs.length) ss x 8 false
    show (notS (inB x 8 bs.length) ss x 8 false).length ≤ ss.length + 2
    omega
  clear h2 h
  go_enter Try.func13, Try.ntmps13
  go_wp2_with fail
  refine HC.out.mono ?_
  rintro e w2 ⟨rfl, h2⟩
  have HC2 : Hid (Calls Try.prog 24 #[.pointer (some ⟨a2, 0, none⟩), .int .i64 x] w2 fun e w' => e = .returned (.tuple #[.int .u64 (ldV (inB x 8 bs.length) bs x), .int .i64 (errE (inB x 8 bs.length))]) ∧ Two W w' B1 a1 b1 bs (notS (inB x 8 bs.length) ss x 8 false) B2 a2 b2 bs (notS (inB x 8 bs.length) ss x 8 false) w.heap.size (.cells #[.int .i64 1, .int .i64 x, .int .i64 y, .int .i64 n, .int .u64 u, .string d] 34 (0, 0))) := rt_load h2 x hx (by omega)
  obtain ⟨q0, q1, q2, q3, q4, q5⟩ := box_cells h2.cell
  clear h2 HC p0 p1 p2 p3 p4 p5
  go_wp2_with fail
  refine HC2.out.mono ?_
  rintro e w3 ⟨rfl, h3⟩
  have HP : Hid (Pair W w3 B1 a1 b1 bs (notS (inB x 8 bs.length) ss x 8 false) B2 a2 b2 bs (notS (inB x 8 bs.length) ss x 8 false)) := h3.pair
  clear h3 HC2 q0 q1 q2 q3 q4 q5
  generalize ldV (inB x 8 bs.length) bs x = lv at *
  generalize errE (inB x 8 bs.length) = ev at *
  go_wp2
  go_ret
  exact ⟨by simp, _, _, rfl, HLe.out, HP.out⟩

set_option maxHeartbeats 2000000 in
theorem done_read {W w : World} {B1 a1 b1 B2 a2 b2 : Nat} {bs : List UInt8} {ss : List Sp} (h : Pair W w B1 a1 b1 bs ss B2 a2 b2 bs ss) (x y n u : Int) (d : ByteArray) (hx : x ≤ 9223372036854775807) (hy6 : y ≤ 65536) (hk : ss.length < 1000000) :
    Calls Try.prog 13 #[.pointer (some ⟨a1, 0, none⟩), .pointer (some ⟨a2, 0, none⟩), .agg #[.int .i64 3, .int .i64 x, .int .i64 y, .int .i64 n, .int .u64 u, .string d]] w fun e w' => e = .returned (.bool true) ∧ Alike2 W w' B1 a1 b1 B2 a2 b2 bs.length (ss.length + 2) := by
  have h2 := h.box (.cells #[.int .i64 3, .int .i64 x, .int .i64 y, .int .i64 n, .int .u64 u, .string d] 34)
  obtain ⟨p0, p1, p2, p3, p4, p5⟩ := box_cells h2.cell
  have HC : Hid (Calls Try.prog 16 #[.pointer (some ⟨a1, 0, none⟩), .int .i64 x, .int .i64 y] (w.alloc (.cells #[.int .i64 3, .int .i64 x, .int .i64 y, .int .i64 n, .int .u64 u, .string d] 34)) fun e w' => e = .returned (.tuple #[.string (rdV (inB x y bs.length) bs x y), .int .i64 (errE (inB x y bs.length))]) ∧ Two W w' B1 a1 b1 bs (notS (inB x y bs.length) ss x y false) B2 a2 b2 bs ss w.heap.size (.cells #[.int .i64 3, .int .i64 x, .int .i64 y, .int .i64 n, .int .u64 u, .string d] 34 (0, 0))) := t_read h2 x y hx (by omega)
  have HLe : Hid ((notS (inB x y bs.length) ss x y false).length ≤ ss.length + 2) := by
    have := notS_le (inB x y bs.length) ss x y false
    show (notS (inB x y bs.length) ss x y false).length ≤ ss.length + 2
    omega
  clear h2 h
  go_enter Try.func13, Try.ntmps13
  go_wp2_with fail
  refine HC.out.mono ?_
  rintro e w2 ⟨rfl, h2⟩
  have HC2 : Hid (Calls Try.prog 26 #[.pointer (some ⟨a2, 0, none⟩), .int .i64 x, .int .i64 y] w2 fun e w' => e = .returned (.tuple #[.string (rdV (inB x y bs.length) bs x y), .int .i64 (errE (inB x y bs.length))]) ∧ Two W w' B1 a1 b1 bs (notS (inB x y bs.length) ss x y false) B2 a2 b2 bs (notS (inB x y bs.length) ss x y false) w.heap.size (.cells #[.int .i64 3, .int .i64 x, .int .i64 y, .int .i64 n, .int .u64 u, .string d] 34 (0, 0))) := rt_read h2 x y hx (by omega)
  obtain ⟨q0, q1, q2, q3, q4, q5⟩ := box_cells h2.cell
  clear h2 HC p0 p1 p2 p3 p4 p5
  go_wp2_with fail
  refine HC2.out.mono ?_
  rintro e w3 ⟨rfl, h3⟩
  have HP : Hid (Pair W w3 B1 a1 b1 bs (notS (inB x y bs.length) ss x y false) B2 a2 b2 bs (notS (inB x y bs.length) ss x y false)) := h3.pair
  clear h3 HC2 q0 q1 q2 q3 q4 q5
  generalize rdV (inB x y bs.length) bs x y = lv at *
  generalize errE (inB x y bs.length) = ev at *
  go_wp2
  go_ret
  exact ⟨by simp, _, _, rfl, HLe.out, HP.out⟩

set_option maxRecDepth 20000 in
set_option maxHeartbeats 1000000 in
theorem done_store {W w : World} {B1 a1 b1 B2 a2 b2 : Nat} {bs : List UInt8} {ss : List Sp} (h : Pair W w B1 a1 b1 bs ss B2 a2 b2 bs ss) (x y n u : Int) (d : ByteArray) (hx : x ≤ 9223372036854775807) (hu0 : 0 ≤ u) (hu1 : u ≤ 18446744073709551615) (hk : ss.length < 1000000) :
    Calls Try.prog 13 #[.pointer (some ⟨a1, 0, none⟩), .pointer (some ⟨a2, 0, none⟩), .agg #[.int .i64 2, .int .i64 x, .int .i64 y, .int .i64 n, .int .u64 u, .string d]] w fun e w' => e = .returned (.bool true) ∧ Alike2 W w' B1 a1 b1 B2 a2 b2 bs.length (ss.length + 2) := by
  have h2 := h.box (.cells #[.int .i64 2, .int .i64 x, .int .i64 y, .int .i64 n, .int .u64 u, .string d] 34)
  obtain ⟨p0, p1, p2, p3, p4, p5⟩ := box_cells h2.cell
  have HB : Hid (Two W (w.alloc (.cells #[.int .i64 2, .int .i64 x, .int .i64 y, .int .i64 n, .int .u64 u, .string d] 34)).drew B1 a1 b1 bs ss B2 a2 b2 bs ss w.heap.size (.cells #[.int .i64 2, .int .i64 x, .int .i64 y, .int .i64 n, .int .u64 u, .string d] 34 (0, 0))) := h2.drew
  have HC : Hid (∀ w2, Two W w2 B1 a1 b1 bs ss B2 a2 b2 bs ss w.heap.size (.cells #[.int .i64 2, .int .i64 x, .int .i64 y, .int .i64 n, .int .u64 u, .string d] 34 (0, 0)) → Calls Try.prog 17 #[.pointer (some ⟨a1, 0, none⟩), .int .i64 x, .int .u64 u] w2 fun e w' => e = .returned (.int .i64 (errE (inB x 8 bs.length))) ∧ Two W w' B1 a1 b1 (layB (inB x 8 bs.length) bs x (leb u.toNat 8)) (notS (inB x 8 bs.length) ss x 8 true) B2 a2 b2 bs ss w.heap.size (.cells #[.int .i64 2, .int .i64 x, .int .i64 y, .int .i64 n, .int .u64 u, .string d] 34 (0, 0))) := fun w2 h2 => t_store h2 x u hx hu0 hu1 (by omega)
  have HC2 : Hid (∀ w2, Two W w2 B1 a1 b1 (layB (inB x 8 bs.length) bs x (leb u.toNat 8)) (notS (inB x 8 bs.length) ss x 8 true) B2 a2 b2 bs ss w.heap.size (.cells #[.int .i64 2, .int .i64 x, .int .i64 y, .int .i64 n, .int .u64 u, .string d] 34 (0, 0)) → Calls Try.prog 25 #[.pointer (some ⟨a2, 0, none⟩), .int .i64 x, .int .u64 u] w2 fun e w' => e = .returned (.int .i64 (errE (inB x 8 bs.length))) ∧ Two W w' B1 a1 b1 (layB (inB x 8 bs.length) bs x (leb u.toNat 8)) (notS (inB x 8 bs.length) ss x 8 true) B2 a2 b2 (layB (inB x 8 bs.length) bs x (leb u.toNat 8)) (notS (inB x 8 bs.length) ss x 8 true) w.heap.size (.cells #[.int .i64 2, .int .i64 x, .int .i64 y, .int .i64 n, .int .u64 u, .string d] 34 (0, 0))) := fun w2 h2 => rt_store h2 x u hx hu0 hu1 (by omega)
  have HLe : Hid ((notS (inB x 8 bs.length) ss x 8 true).length ≤ ss.length + 2) := by
    show (notS (inB x 8 bs.length) ss x 8 true).length ≤ ss.length + 2
    have := notS_le (inB x 8 bs.length) ss x 8 true
    omega
  have HLn : Hid ((layB (inB x 8 bs.length) bs x (leb u.toNat 8)).length = bs.length) := by
    show (layB (inB x 8 bs.length) bs x (leb u.toNat 8)).length = bs.length
    exact layB_length _ _ _ _ (fun h => by rw [inB_true] at h; rw [leb_length]; omega)
  clear h2 h
  generalize errE (inB x 8 bs.length) = ev at *
  generalize (notS (inB x 8 bs.length) ss x 8 true) = ns at *
  generalize (layB (inB x 8 bs.length) bs x (leb u.toNat 8)) = nb at *
  clear hx hk hu0 hu1
  go_enter Try.func13, Try.ntmps13
  go_wp2_with fail
  go_region_held (fun w' => w'.cell? ⟨w.heap.size, 1, none⟩ = some (.int .i64 x) ∧ w'.cell? ⟨w.heap.size, 2, none⟩ = some (.int .i64 y) ∧ w'.cell? ⟨w.heap.size, 3, none⟩ = some (.int .i64 n) ∧ w'.cell? ⟨w.heap.size, 4, none⟩ = some (.int .u64 u) ∧ w'.cell? ⟨w.heap.size, 5, none⟩ = some (.string d)) (go_keep) (first | (go_at_call 17; refine (HC.out _ ?_).mono ?_; exact HB.out; rintro e w2 ⟨rfl, h2⟩; have H2 : Hid (Two W w2 B1 a1 b1 nb ns B2 a2 b2 bs ss w.heap.size (.cells #[.int .i64 2, .int .i64 x, .int .i64 y, .int .i64 n, .int .u64 u, .string d] 34 (0, 0))) := h2; obtain ⟨q0, q1, q2, q3, q4, q5⟩ := box_cells h2.cell; clear h2) | (go_at_call 25; refine (HC2.out _ ?_).mono ?_; exact H2.out; rintro e w3 ⟨rfl, h3⟩; have HP : Hid (Pair W w3 B1 a1 b1 nb ns B2 a2 b2 nb ns) := h3.pair; obtain ⟨r0, r1, r2, r3, r4, r5⟩ := box_cells h3.cell; clear h3))
  clear p0 p1 p2 p3 p4 p5 HC HC2 HB
  go_wp2
  go_ret
  exact ⟨rfl, nb, ns, HLn.out, HLe.out, HP.out⟩

set_option maxRecDepth 20000 in
set_option maxHeartbeats 1000000 in
theorem done_write {W w : World} {B1 a1 b1 B2 a2 b2 : Nat} {bs : List UInt8} {ss : List Sp} (h : Pair W w B1 a1 b1 bs ss B2 a2 b2 bs ss) (x y n u : Int) (d : ByteArray) (hx : x ≤ 9223372036854775807) (hk : ss.length < 1000000) :
    Calls Try.prog 13 #[.pointer (some ⟨a1, 0, none⟩), .pointer (some ⟨a2, 0, none⟩), .agg #[.int .i64 4, .int .i64 x, .int .i64 y, .int .i64 n, .int .u64 u, .string d]] w fun e w' => e = .returned (.bool true) ∧ Alike2 W w' B1 a1 b1 B2 a2 b2 bs.length (ss.length + 2) := by
  have h2 := h.box (.cells #[.int .i64 4, .int .i64 x, .int .i64 y, .int .i64 n, .int .u64 u, .string d] 34)
  obtain ⟨p0, p1, p2, p3, p4, p5⟩ := box_cells h2.cell
  have HB : Hid (Two W (w.alloc (.cells #[.int .i64 4, .int .i64 x, .int .i64 y, .int .i64 n, .int .u64 u, .string d] 34)).drew B1 a1 b1 bs ss B2 a2 b2 bs ss w.heap.size (.cells #[.int .i64 4, .int .i64 x, .int .i64 y, .int .i64 n, .int .u64 u, .string d] 34 (0, 0))) := h2.drew
  have HC : Hid (∀ w2, Two W w2 B1 a1 b1 bs ss B2 a2 b2 bs ss w.heap.size (.cells #[.int .i64 4, .int .i64 x, .int .i64 y, .int .i64 n, .int .u64 u, .string d] 34 (0, 0)) → Calls Try.prog 19 #[.pointer (some ⟨a1, 0, none⟩), .int .i64 x, .string d] w2 fun e w' => e = .returned (.int .i64 (errE (inB x d.size bs.length))) ∧ Two W w' B1 a1 b1 (layB (inB x d.size bs.length) bs x d.data.toList) (notS (inB x d.size bs.length) ss x d.size true) B2 a2 b2 bs ss w.heap.size (.cells #[.int .i64 4, .int .i64 x, .int .i64 y, .int .i64 n, .int .u64 u, .string d] 34 (0, 0))) := fun w2 h2 => t_write h2 x d hx (by omega)
  have HC2 : Hid (∀ w2, Two W w2 B1 a1 b1 (layB (inB x d.size bs.length) bs x d.data.toList) (notS (inB x d.size bs.length) ss x d.size true) B2 a2 b2 bs ss w.heap.size (.cells #[.int .i64 4, .int .i64 x, .int .i64 y, .int .i64 n, .int .u64 u, .string d] 34 (0, 0)) → Calls Try.prog 27 #[.pointer (some ⟨a2, 0, none⟩), .int .i64 x, .string d] w2 fun e w' => e = .returned (.int .i64 (errE (inB x d.size bs.length))) ∧ Two W w' B1 a1 b1 (layB (inB x d.size bs.length) bs x d.data.toList) (notS (inB x d.size bs.length) ss x d.size true) B2 a2 b2 (layB (inB x d.size bs.length) bs x d.data.toList) (notS (inB x d.size bs.length) ss x d.size true) w.heap.size (.cells #[.int .i64 4, .int .i64 x, .int .i64 y, .int .i64 n, .int .u64 u, .string d] 34 (0, 0))) := fun w2 h2 => rt_write h2 x d hx (by omega)
  have HLe : Hid ((notS (inB x d.size bs.length) ss x d.size true).length ≤ ss.length + 2) := by
    show (notS (inB x d.size bs.length) ss x d.size true).length ≤ ss.length + 2
    have := notS_le (inB x d.size bs.length) ss x d.size true
    omega
  have HLn : Hid ((layB (inB x d.size bs.length) bs x d.data.toList).length = bs.length) := by
    show (layB (inB x d.size bs.length) bs x d.data.toList).length = bs.length
    exact layB_length _ _ _ _ (fun h => by rw [inB_true] at h; rw [len_list]; omega)
  clear h2 h
  generalize errE (inB x d.size bs.length) = ev at *
  generalize (notS (inB x d.size bs.length) ss x d.size true) = ns at *
  generalize (layB (inB x d.size bs.length) bs x d.data.toList) = nb at *
  clear hx hk
  go_enter Try.func13, Try.ntmps13
  go_wp2_with fail
  go_region_held (fun w' => w'.cell? ⟨w.heap.size, 1, none⟩ = some (.int .i64 x) ∧ w'.cell? ⟨w.heap.size, 2, none⟩ = some (.int .i64 y) ∧ w'.cell? ⟨w.heap.size, 3, none⟩ = some (.int .i64 n) ∧ w'.cell? ⟨w.heap.size, 4, none⟩ = some (.int .u64 u) ∧ w'.cell? ⟨w.heap.size, 5, none⟩ = some (.string d)) (go_keep) (first | (go_at_call 19; refine (HC.out _ ?_).mono ?_; exact HB.out; rintro e w2 ⟨rfl, h2⟩; have H2 : Hid (Two W w2 B1 a1 b1 nb ns B2 a2 b2 bs ss w.heap.size (.cells #[.int .i64 4, .int .i64 x, .int .i64 y, .int .i64 n, .int .u64 u, .string d] 34 (0, 0))) := h2; obtain ⟨q0, q1, q2, q3, q4, q5⟩ := box_cells h2.cell; clear h2) | (go_at_call 27; refine (HC2.out _ ?_).mono ?_; exact H2.out; rintro e w3 ⟨rfl, h3⟩; have HP : Hid (Pair W w3 B1 a1 b1 nb ns B2 a2 b2 nb ns) := h3.pair; obtain ⟨r0, r1, r2, r3, r4, r5⟩ := box_cells h3.cell; clear h3))
  clear p0 p1 p2 p3 p4 p5 HC HC2 HB
  go_wp2
  go_ret
  exact ⟨rfl, nb, ns, HLn.out, HLe.out, HP.out⟩

set_option maxRecDepth 20000 in
set_option maxHeartbeats 1000000 in
theorem done_zero {W w : World} {B1 a1 b1 B2 a2 b2 : Nat} {bs : List UInt8} {ss : List Sp} (h : Pair W w B1 a1 b1 bs ss B2 a2 b2 bs ss) (x y n u : Int) (d : ByteArray) (hx : x ≤ 9223372036854775807) (hk : ss.length < 1000000) :
    Calls Try.prog 13 #[.pointer (some ⟨a1, 0, none⟩), .pointer (some ⟨a2, 0, none⟩), .agg #[.int .i64 5, .int .i64 x, .int .i64 y, .int .i64 n, .int .u64 u, .string d]] w fun e w' => e = .returned (.bool true) ∧ Alike2 W w' B1 a1 b1 B2 a2 b2 bs.length (ss.length + 2) := by
  have h2 := h.box (.cells #[.int .i64 5, .int .i64 x, .int .i64 y, .int .i64 n, .int .u64 u, .string d] 34)
  obtain ⟨p0, p1, p2, p3, p4, p5⟩ := box_cells h2.cell
  have HB : Hid (Two W (w.alloc (.cells #[.int .i64 5, .int .i64 x, .int .i64 y, .int .i64 n, .int .u64 u, .string d] 34)).drew B1 a1 b1 bs ss B2 a2 b2 bs ss w.heap.size (.cells #[.int .i64 5, .int .i64 x, .int .i64 y, .int .i64 n, .int .u64 u, .string d] 34 (0, 0))) := h2.drew
  have HC : Hid (∀ w2, Two W w2 B1 a1 b1 bs ss B2 a2 b2 bs ss w.heap.size (.cells #[.int .i64 5, .int .i64 x, .int .i64 y, .int .i64 n, .int .u64 u, .string d] 34 (0, 0)) → Calls Try.prog 22 #[.pointer (some ⟨a1, 0, none⟩), .int .i64 x, .int .i64 y] w2 fun e w' => e = .returned (.int .i64 (errE (inB x y bs.length))) ∧ Two W w' B1 a1 b1 (layB (inB x y bs.length) bs x (List.replicate y.toNat 0)) (notS (inB x y bs.length) ss x y true) B2 a2 b2 bs ss w.heap.size (.cells #[.int .i64 5, .int .i64 x, .int .i64 y, .int .i64 n, .int .u64 u, .string d] 34 (0, 0))) := fun w2 h2 => t_zero h2 x y hx (by omega)
  have HC2 : Hid (∀ w2, Two W w2 B1 a1 b1 (layB (inB x y bs.length) bs x (List.replicate y.toNat 0)) (notS (inB x y bs.length) ss x y true) B2 a2 b2 bs ss w.heap.size (.cells #[.int .i64 5, .int .i64 x, .int .i64 y, .int .i64 n, .int .u64 u, .string d] 34 (0, 0)) → Calls Try.prog 28 #[.pointer (some ⟨a2, 0, none⟩), .int .i64 x, .int .i64 y] w2 fun e w' => e = .returned (.int .i64 (errE (inB x y bs.length))) ∧ Two W w' B1 a1 b1 (layB (inB x y bs.length) bs x (List.replicate y.toNat 0)) (notS (inB x y bs.length) ss x y true) B2 a2 b2 (layB (inB x y bs.length) bs x (List.replicate y.toNat 0)) (notS (inB x y bs.length) ss x y true) w.heap.size (.cells #[.int .i64 5, .int .i64 x, .int .i64 y, .int .i64 n, .int .u64 u, .string d] 34 (0, 0))) := fun w2 h2 => rt_zero h2 x y hx (by omega)
  have HLe : Hid ((notS (inB x y bs.length) ss x y true).length ≤ ss.length + 2) := by
    show (notS (inB x y bs.length) ss x y true).length ≤ ss.length + 2
    have := notS_le (inB x y bs.length) ss x y true
    omega
  have HLn : Hid ((layB (inB x y bs.length) bs x (List.replicate y.toNat 0)).length = bs.length) := by
    show (layB (inB x y bs.length) bs x (List.replicate y.toNat 0)).length = bs.length
    exact layB_length _ _ _ _ (fun h => by rw [inB_true] at h; rw [List.length_replicate]; omega)
  clear h2 h
  generalize errE (inB x y bs.length) = ev at *
  generalize (notS (inB x y bs.length) ss x y true) = ns at *
  generalize (layB (inB x y bs.length) bs x (List.replicate y.toNat 0)) = nb at *
  clear hx hk
  go_enter Try.func13, Try.ntmps13
  go_wp2_with fail
  go_region_held (fun w' => w'.cell? ⟨w.heap.size, 1, none⟩ = some (.int .i64 x) ∧ w'.cell? ⟨w.heap.size, 2, none⟩ = some (.int .i64 y) ∧ w'.cell? ⟨w.heap.size, 3, none⟩ = some (.int .i64 n) ∧ w'.cell? ⟨w.heap.size, 4, none⟩ = some (.int .u64 u) ∧ w'.cell? ⟨w.heap.size, 5, none⟩ = some (.string d)) (go_keep) (first | (go_at_call 22; refine (HC.out _ ?_).mono ?_; exact HB.out; rintro e w2 ⟨rfl, h2⟩; have H2 : Hid (Two W w2 B1 a1 b1 nb ns B2 a2 b2 bs ss w.heap.size (.cells #[.int .i64 5, .int .i64 x, .int .i64 y, .int .i64 n, .int .u64 u, .string d] 34 (0, 0))) := h2; obtain ⟨q0, q1, q2, q3, q4, q5⟩ := box_cells h2.cell; clear h2) | (go_at_call 28; refine (HC2.out _ ?_).mono ?_; exact H2.out; rintro e w3 ⟨rfl, h3⟩; have HP : Hid (Pair W w3 B1 a1 b1 nb ns B2 a2 b2 nb ns) := h3.pair; obtain ⟨r0, r1, r2, r3, r4, r5⟩ := box_cells h3.cell; clear h3))
  clear p0 p1 p2 p3 p4 p5 HC HC2 HB
  go_wp2
  go_ret
  exact ⟨rfl, nb, ns, HLn.out, HLe.out, HP.out⟩

set_option maxRecDepth 20000 in
set_option maxHeartbeats 1000000 in
theorem done_copy {W w : World} {B1 a1 b1 B2 a2 b2 : Nat} {bs : List UInt8} {ss : List Sp} (h : Pair W w B1 a1 b1 bs ss B2 a2 b2 bs ss) (x y n u : Int) (d : ByteArray) (hx : x ≤ 9223372036854775807) (hy : y ≤ 9223372036854775807) (hk : ss.length < 1000000) :
    Calls Try.prog 13 #[.pointer (some ⟨a1, 0, none⟩), .pointer (some ⟨a2, 0, none⟩), .agg #[.int .i64 6, .int .i64 x, .int .i64 y, .int .i64 n, .int .u64 u, .string d]] w fun e w' => e = .returned (.bool true) ∧ Alike2 W w' B1 a1 b1 B2 a2 b2 bs.length (ss.length + 2) := by
  have h2 := h.box (.cells #[.int .i64 6, .int .i64 x, .int .i64 y, .int .i64 n, .int .u64 u, .string d] 34)
  obtain ⟨p0, p1, p2, p3, p4, p5⟩ := box_cells h2.cell
  have HB : Hid (Two W (w.alloc (.cells #[.int .i64 6, .int .i64 x, .int .i64 y, .int .i64 n, .int .u64 u, .string d] 34)).drew B1 a1 b1 bs ss B2 a2 b2 bs ss w.heap.size (.cells #[.int .i64 6, .int .i64 x, .int .i64 y, .int .i64 n, .int .u64 u, .string d] 34 (0, 0))) := h2.drew
  have HC : Hid (∀ w2, Two W w2 B1 a1 b1 bs ss B2 a2 b2 bs ss w.heap.size (.cells #[.int .i64 6, .int .i64 x, .int .i64 y, .int .i64 n, .int .u64 u, .string d] 34 (0, 0)) → Calls Try.prog 20 #[.pointer (some ⟨a1, 0, none⟩), .int .i64 x, .int .i64 y, .int .i64 n] w2 fun e w' => e = .returned (.int .i64 (errE (inB x n bs.length && inB y n bs.length))) ∧ Two W w' B1 a1 b1 (layB (inB x n bs.length && inB y n bs.length) bs x ((bs.drop y.toNat).take n.toNat)) (notC (inB x n bs.length && inB y n bs.length) ss x y n) B2 a2 b2 bs ss w.heap.size (.cells #[.int .i64 6, .int .i64 x, .int .i64 y, .int .i64 n, .int .u64 u, .string d] 34 (0, 0))) := fun w2 h2 => t_copy h2 x y n hx hy (by omega)
  have HC2 : Hid (∀ w2, Two W w2 B1 a1 b1 (layB (inB x n bs.length && inB y n bs.length) bs x ((bs.drop y.toNat).take n.toNat)) (notC (inB x n bs.length && inB y n bs.length) ss x y n) B2 a2 b2 bs ss w.heap.size (.cells #[.int .i64 6, .int .i64 x, .int .i64 y, .int .i64 n, .int .u64 u, .string d] 34 (0, 0)) → Calls Try.prog 29 #[.pointer (some ⟨a2, 0, none⟩), .int .i64 x, .int .i64 y, .int .i64 n] w2 fun e w' => e = .returned (.int .i64 (errE (inB x n bs.length && inB y n bs.length))) ∧ Two W w' B1 a1 b1 (layB (inB x n bs.length && inB y n bs.length) bs x ((bs.drop y.toNat).take n.toNat)) (notC (inB x n bs.length && inB y n bs.length) ss x y n) B2 a2 b2 (layB (inB x n bs.length && inB y n bs.length) bs x ((bs.drop y.toNat).take n.toNat)) (notC (inB x n bs.length && inB y n bs.length) ss x y n) w.heap.size (.cells #[.int .i64 6, .int .i64 x, .int .i64 y, .int .i64 n, .int .u64 u, .string d] 34 (0, 0))) := fun w2 h2 => rt_copy h2 x y n hx hy (by omega)
  have HLe : Hid ((notC (inB x n bs.length && inB y n bs.length) ss x y n).length ≤ ss.length + 2) := by
    show (notC (inB x n bs.length && inB y n bs.length) ss x y n).length ≤ ss.length + 2
    exact notC_le _ _ _ _ _
  have HLn : Hid ((layB (inB x n bs.length && inB y n bs.length) bs x ((bs.drop y.toNat).take n.toNat)).length = bs.length) := by
    show (layB (inB x n bs.length && inB y n bs.length) bs x ((bs.drop y.toNat).take n.toNat)).length = bs.length
    exact layB_length _ _ _ _ (fun h => by rw [Bool.and_eq_true, inB_true, inB_true] at h; rw [List.length_take, List.length_drop]; omega)
  clear h2 h
  generalize errE (inB x n bs.length && inB y n bs.length) = ev at *
  generalize (notC (inB x n bs.length && inB y n bs.length) ss x y n) = ns at *
  generalize (layB (inB x n bs.length && inB y n bs.length) bs x ((bs.drop y.toNat).take n.toNat)) = nb at *
  clear hx hy hk
  go_enter Try.func13, Try.ntmps13
  go_wp2_with fail
  go_region_held (fun w' => w'.cell? ⟨w.heap.size, 1, none⟩ = some (.int .i64 x) ∧ w'.cell? ⟨w.heap.size, 2, none⟩ = some (.int .i64 y) ∧ w'.cell? ⟨w.heap.size, 3, none⟩ = some (.int .i64 n) ∧ w'.cell? ⟨w.heap.size, 4, none⟩ = some (.int .u64 u) ∧ w'.cell? ⟨w.heap.size, 5, none⟩ = some (.string d)) (go_keep) (first | (go_at_call 20; refine (HC.out _ ?_).mono ?_; exact HB.out; rintro e w2 ⟨rfl, h2⟩; have H2 : Hid (Two W w2 B1 a1 b1 nb ns B2 a2 b2 bs ss w.heap.size (.cells #[.int .i64 6, .int .i64 x, .int .i64 y, .int .i64 n, .int .u64 u, .string d] 34 (0, 0))) := h2; obtain ⟨q0, q1, q2, q3, q4, q5⟩ := box_cells h2.cell; clear h2) | (go_at_call 29; refine (HC2.out _ ?_).mono ?_; exact H2.out; rintro e w3 ⟨rfl, h3⟩; have HP : Hid (Pair W w3 B1 a1 b1 nb ns B2 a2 b2 nb ns) := h3.pair; obtain ⟨r0, r1, r2, r3, r4, r5⟩ := box_cells h3.cell; clear h3))
  clear p0 p1 p2 p3 p4 p5 HC HC2 HB
  go_wp2
  go_ret
  exact ⟨rfl, nb, ns, HLn.out, HLe.out, HP.out⟩
end Go.Proofs.Ytlikfcdlgkbnoaa
