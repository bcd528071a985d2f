/-
  What the calls of package shelf do, each for every state of a shelf and every argument: contracts.
-/
import Derived.Test.YthndakhnhnipnaaDoorSfMem
import Derived.Deep.RegionWith
import Derived.Deep.QuietTactic
import Derived.BigQuiet
import Derived.IntWalk
namespace Go.Proofs.YthndakhnhnipnaaDoor.Sf
open Go.RowKit

theorem i64_small (q : Nat) (h : q ≤ 1048576) : IntKind.i64.wrap (q : Int) = (q : Int) := by rw [IntKind.wrap_i64]; omega
theorem tdiv64 (k q : Nat) (h : k / 64 = q) : Int.tdiv (k : Int) 64 = (q : Int) := by rw [Int.tdiv_eq_ediv_of_nonneg (by omega)]; omega

theorem Sw.drewN {w : World} {a b c : Nat} {ws : List Nat} {has : List Bool} (h : Sw w a b ws c has) (n : Nat) : Sw (w.drewN n) a b ws c has := ⟨h.bits, h.st, h.row, h.ne, h.a0, h.b0, h.le, h.tab⟩
set_option maxRecDepth 20000 in
set_option maxHeartbeats 400000 in
theorem turn_any {w : World} {a b c : Nat} {ws : List Nat} {has : List Bool} (h : Sw w a b ws c has) (k : Nat) (hk : k < has.length) (hj : k / 64 < ws.length) :
    Calls Tryd.prog 65 #[.pointer (some ⟨a, 0, none⟩), .int .i64 k] w fun e w' => e = .returned (.tuple #[]) ∧ Sw w' a b (ws.set (k / 64) (ws[k / 64] ^^^ bt k)) c (has.set k (!has[k])) ∧ Fr (fun i => i = b) w w' ∧ w'.heap.size = w.heap.size := by
  have c1 := h.c1
  have cw := h.cw (k / 64) hj
  have fw := h.fw (k / 64)
  have hx : Go.bits .xor .u64 (ws[k / 64] : Int) (bt k : Int) = ((ws[k / 64] ^^^ bt k : Nat) : Int) := bits_xor_u64_nat _ _ (h.bits.lt _ hj) (bt_lt k)
  have hle := h.le
  have hwl := h.wl
  have H : Hid (Sw (w.setCell ⟨b, k / 64, none⟩ (.int .u64 ((ws[k / 64] ^^^ bt k : Nat) : Int))) a b (ws.set (k / 64) (ws[k / 64] ^^^ bt k)) c (has.set k (!has[k]))) := h.turned k hk hj
  clear h
  generalize hx' : ws[k / 64] = x at *
  generalize hq' : k / 64 = q at *
  have hq : (k : Int) / 64 = (q : Int) := by omega
  have hq2 := tdiv64 k q hq'
  have hq5 := i64_small q (by omega)
  clear hx' hq'
  generalize ws.set q (x ^^^ bt k) = ws' at *
  generalize ws.length = n at *
  go_enter Tryd.func65, Tryd.ntmps65
  go_wp2_with fail
  go_region_with (go_at_call 74; refine (bit_any k _ (by omega)).mono ?_; rintro e w2 ⟨rfl, hw⟩; obtain rfl := hw.symm)
  all_goals
    go_wp2
    go_end0
    exact ⟨rfl, H.out.drew, (Fr.setCell (S := fun i => i = b) (p := ⟨b, q, none⟩) (Fr.refl _ _) rfl _).drew, by simp [World.setCell]⟩

set_option maxRecDepth 20000 in
theorem there_any {w : World} {a b c : Nat} {ws : List Nat} {has : List Bool} (h : Sw w a b ws c has) (k : Int) :
    Calls Tryd.prog 73 #[.pointer (some ⟨a, 0, none⟩), .int .i64 k] w fun e w' => e = .returned (.bool (hasN has k)) ∧ w' = w := by
  have c0 := h.c0
  clear h
  by_cases h1 : 0 ≤ k
  · go_enter Tryd.func73, Tryd.ntmps73
    go_wp2
    go_ret
    exact ⟨by simp [hasN, h1], rfl⟩
  · go_enter Tryd.func73, Tryd.ntmps73
    go_wp2
    go_ret
    exact ⟨by simp [hasN]; omega, rfl⟩

set_option maxRecDepth 20000 in
theorem size_any {w : World} {a b c : Nat} {ws : List Nat} {has : List Bool} (h : Sw w a b ws c has) :
    Calls Tryd.prog 49 #[.pointer (some ⟨a, 0, none⟩)] w fun e w' => e = .returned (.int .i64 (has.length : Int)) ∧ w' = w := by
  have c0 := h.c0
  clear h
  go_enter Tryd.func49, Tryd.ntmps49
  go_wp2
  go_ret
  exact ⟨rfl, rfl⟩

set_option maxRecDepth 20000 in
set_option maxHeartbeats 1000000 in
theorem taken_in {w : World} {a b c : Nat} {ws : List Nat} {has : List Bool} (h : Sw w a b ws c has) (k : Nat) (hk : k < has.length) :
    Calls Tryd.prog 50 #[.pointer (some ⟨a, 0, none⟩), .int .i64 k] w fun e w' => e = .returned (.bool has[k]) ∧ ∃ n, w' = w.drewN n := by
  have hj : k / 64 < ws.length := by have := h.bits.len; omega
  have c1 := h.c1
  have cw := h.cw (k / 64) hj
  have hx : Go.bits .and .u64 (ws[k / 64] : Int) (bt k : Int) = ((ws[k / 64] &&& bt k : Nat) : Int) := bits_and_u64_nat _ _ (h.bits.lt _ hj) (bt_lt k)
  have hle := h.le
  have hwl := h.wl
  have ha : (((ws[k / 64] &&& bt k : Nat) : Int) == 0) = has[k] := by
    rw [← h.bits.asked k hk hj]
    show _ = decide (ws[k / 64] &&& bt k = 0)
    cases hd : decide (ws[k / 64] &&& bt k = 0)
    · simp at hd ⊢; omega
    · simp at hd ⊢; omega
  have HT : Hid (∀ w2, Sw w2 a b ws c has → Calls Tryd.prog 73 #[.pointer (some ⟨a, 0, none⟩), .int .i64 k] w2 fun e w' => e = .returned (.bool true) ∧ w' = w2) := fun w2 h2 => by
    have := there_any h2 (k : Int)
    rw [hasN_iff.2 ⟨by omega, by omega⟩] at this
    exact this
  have HD : Hid (∀ n, Sw (w.drewN n) a b ws c has) := fun n => h.drewN n
  clear h
  generalize hx' : ws[k / 64] = x at *
  generalize hq' : k / 64 = q at *
  have hq : (k : Int) / 64 = (q : Int) := by omega
  have hq2 := tdiv64 k q hq'
  have hq5 := i64_small q (by omega)
  clear hx' hq'
  generalize x &&& bt k = y at *
  generalize hn : ws.length = n at *
  clear hn
  generalize has[k] = r at *
  go_enter Tryd.func50, Tryd.ntmps50
  go_wp2_with fail
  go_quiet (first | (go_at_call 74; refine Calls.quiet_of_same (bit_any k _ (by omega))) | (go_at_call 73; refine Calls.quiet_of_same (HT.out _ ?_); exact HD.out _))
  go_wp2
  go_ret
  exact ⟨by simp, nq, rfl⟩
set_option maxRecDepth 20000 in
set_option maxHeartbeats 1000000 in
theorem taken_out {w : World} {a b c : Nat} {ws : List Nat} {has : List Bool} (h : Sw w a b ws c has) (k : Int) (hk : hasN has k = false) :
    Calls Tryd.prog 50 #[.pointer (some ⟨a, 0, none⟩), .int .i64 k] w fun e w' => e = .returned (.bool false) ∧ ∃ n, w' = w.drewN n := by
  have HT : Hid (∀ w2, Sw w2 a b ws c has → Calls Tryd.prog 73 #[.pointer (some ⟨a, 0, none⟩), .int .i64 k] w2 fun e w' => e = .returned (.bool false) ∧ w' = w2) := fun w2 h2 => by
    have := there_any h2 k
    rw [hk] at this
    exact this
  have HD : Hid (∀ n, Sw (w.drewN n) a b ws c has) := fun n => h.drewN n
  clear h hk
  go_enter Tryd.func50, Tryd.ntmps50
  go_wp2_with fail
  go_quiet (first | (go_at_call 73; refine Calls.quiet_of_same (HT.out _ ?_); exact HD.out _))
  go_wp2
  go_ret
  exact ⟨by simp, nq, rfl⟩
theorem taken_any {w : World} {a b c : Nat} {ws : List Nat} {has : List Bool} (h : Sw w a b ws c has) (k : Int) :
    Calls Tryd.prog 50 #[.pointer (some ⟨a, 0, none⟩), .int .i64 k] w fun e w' => e = .returned (.bool (isT has k)) ∧ ∃ n, w' = w.drewN n := by
  cases hk : hasN has k with
  | false =>
    have e : isT has k = false := by simp [isT, hk]
    rw [e]; exact taken_out h k hk
  | true =>
    obtain ⟨h1, h2⟩ := hasN_iff.1 hk
    obtain ⟨n, rfl⟩ : ∃ n : Nat, k = (n : Int) := ⟨k.toNat, by omega⟩
    have hn : n < has.length := by omega
    have e : isT has (n : Int) = has[n] := by simp [isT, hk, hn]
    rw [e]; exact taken_in h n hn

end Go.Proofs.YthndakhnhnipnaaDoor.Sf
