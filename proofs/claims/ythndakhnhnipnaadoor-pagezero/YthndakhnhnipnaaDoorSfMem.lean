/-
  What the calls of package shelf do, each for every state of a shelf and every argument: contracts, as words of bits have it.
-/
import Derived.Test.YthndakhnhnipnaaDoorRows
import Derived.Test.YthndakhnhnipnaaDoorBase
import Derived.Test.YthndakhnhnipnaaDoorSfBits
import Derived.Laws.Bits64b
import Derived.Laws.OwnMore
import Derived.Laws.Bits128
namespace Go.Proofs.YthndakhnhnipnaaDoor.Sf
open Go.RowKit

/-- Where no call looks into the table of math/bits: some table lies in block 0. -/
def Tab (w : World) : Prop := 0 < w.heap.size
theorem Tab.pos {w : World} (h : Tab w) : 0 < w.heap.size := h
theorem Tab.carry {S : Nat → Prop} {w w' : World} (h : Tab w) (hf : Fr S w w') (_h0 : ¬ S 0) : Tab w' := Nat.lt_of_lt_of_le h hf.size
/-- Words as cells. -/
def wc (l : List Nat) : List Value := l.map fun x : Nat => Value.int .u64 (x : Int)
theorem wc_length (l : List Nat) : (wc l).length = l.length := by simp [wc]
theorem wc_one (l : List Nat) : ∀ u ∈ wc l, u.oneCell' = true := by
  intro v hv; simp only [wc, List.mem_map] at hv; obtain ⟨x, _, rfl⟩ := hv; rfl
theorem wc_set (l : List Nat) (j x : Nat) : wc (l.set j x) = (wc l).set j (.int .u64 (x : Int)) := by simp [wc, List.map_set]

/-- A number's bit in its word. -/
def bt (k : Nat) : Nat := 2 ^ (k % 64)
theorem bt_lt (k : Nat) : bt k < 18446744073709551616 := by
  have h : 2 ^ (k % 64) < 2 ^ 64 := Nat.pow_lt_pow_right (by decide) (by omega)
  exact h
/-- In w there lies a shelf at block a: its words ws lie in block b. -/
structure Sw (w : World) (a b : Nat) (ws : List Nat) (c : Nat) (has : List Bool) : Prop where
  bits : Bits ws has
  st : w.heap[a]? = some (.cells #[.int .i64 (has.length : Int), .slice (some ⟨b, 0, none⟩) ws.length c] 99 (0, 0))
  row : w.ownsRow 0 105 1 (.slice (some ⟨b, 0, none⟩) ws.length c) ws.length (wc ws)
  ne : a ≠ b
  a0 : 0 < a
  b0 : 0 < b
  le : has.length ≤ 65536
  tab : Tab w
section
variable {w : World} {a b c : Nat} {ws : List Nat} {has : List Bool}
theorem Sw.c0 (h : Sw w a b ws c has) : w.cell? ⟨a, 0, none⟩ = some (.int .i64 (has.length : Int)) := by simp [World.cell?, h.st]
theorem Sw.c1 (h : Sw w a b ws c has) : w.cell? ⟨a, 1, none⟩ = some (.slice (some ⟨b, 0, none⟩) ws.length c) := by simp [World.cell?, h.st]
theorem Sw.cw (h : Sw w a b ws c has) (j : Nat) (hj : j < ws.length) : w.cell? ⟨b, j, none⟩ = some (.int .u64 (ws[j] : Int)) := by
  rw [h.row.cellAt j (by omega)]; simp [wc, hj]
theorem Sw.fw (h : Sw w a b ws c has) (j : Nat) : w.frozen? ⟨b, j, none⟩ = false := h.row.frozenAt j
theorem Sw.wl (h : Sw w a b ws c has) : ws.length ≤ 1024 := by have := h.bits.len; have := h.le; omega
theorem Sw.lta (h : Sw w a b ws c has) : a < w.heap.size := (Array.getElem?_eq_some_iff.1 h.st).1
theorem Sw.ltb (h : Sw w a b ws c has) : b < w.heap.size := (h.row.lt b rfl).2
theorem ownsRow_carry {S : Nat → Prop} {w w' : World} {e : TypeId} {size n c g : Nat} {xs : List Value} (h : w.ownsRow 0 e size (.slice (some ⟨g, 0, none⟩) n c) n xs) (hf : Fr S w w') (h1 : ¬ S g) : w'.ownsRow 0 e size (.slice (some ⟨g, 0, none⟩) n c) n xs := by
  refine ⟨h.1, ?_⟩
  rcases h.2 with ⟨h', _⟩ | ⟨g', cap, cur, h', hb, hgg, rest⟩
  · simp at h'
  · refine .inr ⟨g', cap, cur, h', hb, ?_, rest⟩
    simp only [Value.slice.injEq, Option.some.injEq, Addr.mk.injEq] at h'
    obtain rfl := h'.1.1
    rw [hf.block g (Array.getElem?_eq_some_iff.1 hgg).1 h1]
    exact hgg
theorem Sw.carry {S : Nat → Prop} {w' : World} (h : Sw w a b ws c has) (hf : Fr S w w') (h1 : ¬ S a) (h2 : ¬ S b) (h0 : ¬ S 0) : Sw w' a b ws c has :=
  ⟨h.bits, by rw [hf.block a h.lta h1]; exact h.st, ownsRow_carry h.row hf h2, h.ne, h.a0, h.b0, h.le, h.tab.carry hf h0⟩
theorem Sw.drew (h : Sw w a b ws c has) : Sw w.drew a b ws c has := ⟨h.bits, h.st, h.row, h.ne, h.a0, h.b0, h.le, h.tab⟩
/-- A bit turned in memory. -/
theorem Sw.turned (h : Sw w a b ws c has) (k : Nat) (hk : k < has.length) (hj : k / 64 < ws.length) :
    Sw (w.setCell ⟨b, k / 64, none⟩ (.int .u64 ((ws[k / 64] ^^^ bt k : Nat) : Int))) a b (ws.set (k / 64) (ws[k / 64] ^^^ bt k)) c (has.set k (!has[k])) := by
  obtain ⟨r1, r2⟩ := h.row.stored (k / 64) (.int .u64 ((ws[k / 64] ^^^ bt k : Nat) : Int))
  refine ⟨h.bits.turn k hk hj, ?_, ?_, h.ne, h.a0, h.b0, by simpa using h.le, ?_⟩
  · rw [Below.heap_setCell w _ _ a h.ne]; simpa using h.st
  · rw [wc_set]; simpa using r1
  · exact h.tab.carry (S := fun k => k = b) (Fr.setCell (S := fun k => k = b) (p := ⟨b, k / 64, none⟩) (Fr.refl _ _) rfl _) (by have := h.b0; omega)
end

theorem bt_wrap (k : Nat) : IntKind.u64.wrap (2 ^ (k % 64)) = (bt k : Int) := by
  have h := bt_lt k
  have e : (2 ^ (k % 64) : Int) = (bt k : Int) := by simp [bt]
  rw [e, IntKind.wrap_u64]
  omega
set_option maxRecDepth 20000 in
theorem bit_any (k : Nat) (w : World) (hk : k < 65536) : Calls Tryd.prog 74 #[.int .i64 k] w fun e w' => e = .returned (.int .u64 (bt k : Int)) ∧ w' = w := by
  go_enter Tryd.func74, Tryd.ntmps74
  go_wp2
  go_ret
  exact ⟨by simp [bt_wrap], rfl⟩

set_option maxRecDepth 20000 in
set_option maxHeartbeats 1000000 in
theorem oc_core (x a b c d e f r : Nat) (w : World)
    (k1 : IntKind.u64.wrap (Go.bits BinOp.and IntKind.u64 ((x : Int) / 2) 6148914691236517205 + Go.bits BinOp.and IntKind.u64 (x : Int) 6148914691236517205) = (a : Int))
    (k2 : IntKind.u64.wrap (Go.bits BinOp.and IntKind.u64 ((a : Int) / 4) 3689348814741910323 + Go.bits BinOp.and IntKind.u64 (a : Int) 3689348814741910323) = (b : Int))
    (k3 : Go.bits BinOp.and IntKind.u64 (IntKind.u64.wrap ((b : Int) / 16 + (b : Int))) 1085102592571150095 = (c : Int))
    (k4 : IntKind.u64.wrap ((c : Int) + (c : Int) / 256) = (d : Int)) (k5 : IntKind.u64.wrap ((d : Int) + (d : Int) / 65536) = (e : Int)) (k6 : IntKind.u64.wrap ((e : Int) + (e : Int) / 4294967296) = (f : Int))
    (k7 : Go.bits BinOp.and IntKind.i64 (wrap64 (f : Int)) 127 = (r : Int)) :
    Calls Tryd.prog 80 #[.int .u64 x] w fun e w' => e = .returned (.int .i64 r) ∧ w' = w := by
  go_enter Tryd.func80, Tryd.ntmps80
  go_wp2
  go_ret
  exact ⟨by simp, rfl⟩
theorem and_i64_127 (f : Nat) : Go.bits BinOp.and IntKind.i64 (wrap64 (f : Int)) 127 = ((f % 128 : Nat) : Int) := by
  rw [i64_and127]
  unfold wrap64
  omega
theorem and_lit (a m : Nat) (M : Int) (hM : M = (m : Int)) (ha : a < 18446744073709551616) (hm : m < 18446744073709551616) : Go.bits BinOp.and IntKind.u64 (a : Int) M = ((a &&& m : Nat) : Int) := by
  subst hM; exact bits_and_u64_nat a m ha hm
theorem oc_any (x : Nat) (w : World) (hx : x < 18446744073709551616) :
    Calls Tryd.prog 80 #[.int .u64 x] w fun e w' => e = .returned (.int .i64 (pc 64 x : Nat)) ∧ w' = w := by
  obtain ⟨h1, h2, h3, h4, h5⟩ := swar x hx
  have hc : st3 1085102592571150095 (st2 3689348814741910323 (st1 6148914691236517205 x)) ≤ 1085102592571150095 := Nat.and_le_right
  rw [← h5]
  generalize hA : st1 6148914691236517205 x = a at *
  generalize hB : st2 3689348814741910323 a = b at *
  generalize hC : st3 1085102592571150095 b = c at *
  clear h5
  refine oc_core x a b c (c + c / 256) (c + c / 256 + (c + c / 256) / 65536) _ _ w ?_ ?_ ?_ ?_ ?_ ?_ (and_i64_127 _)
  · rw [show ((x : Int) / 2) = ((x / 2 : Nat) : Int) by omega, and_lit _ 6148914691236517205 6148914691236517205 rfl (by omega) (by omega), and_lit _ 6148914691236517205 6148914691236517205 rfl (by omega) (by omega), IntKind.wrap_u64]
    unfold st1 at hA
    omega
  · rw [show ((a : Int) / 4) = ((a / 4 : Nat) : Int) by omega, and_lit _ 3689348814741910323 3689348814741910323 rfl (by omega) (by omega), and_lit _ 3689348814741910323 3689348814741910323 rfl (by omega) (by omega), IntKind.wrap_u64]
    unfold st2 at hB
    omega
  · rw [IntKind.wrap_u64, show (((b : Int) / 16 + (b : Int)) % 18446744073709551616) = ((b / 16 + b : Nat) : Int) by omega, and_lit _ 1085102592571150095 1085102592571150095 rfl h3 (by omega)]
    unfold st3 at hC
    omega
  · rw [IntKind.wrap_u64]; omega
  · rw [IntKind.wrap_u64]; omega
  · rw [IntKind.wrap_u64]; omega
end Go.Proofs.YthndakhnhnipnaaDoor.Sf
