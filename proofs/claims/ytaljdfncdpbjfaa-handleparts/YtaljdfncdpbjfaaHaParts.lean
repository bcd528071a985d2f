/-
  Each part of a key stands in bits of its own: the walk of the law HandleParts.
-/
import Derived.Test.YtaljdfncdpbjfaaHaState
import Derived.Laws.Bits64
namespace Go.Proofs.Ytaljdfncdpbjfaa
open Go.RowKit

/-- New blocks may turn. -/
def Nw (w0 w : World) : Prop := Fr (fun k => w0.heap.size ≤ k) w0 w
theorem Nw.on {S : Nat → Prop} {w0 w w' : World} (h : Nw w0 w) (f : Fr S w w') (hs : ∀ i, S i → w0.heap.size ≤ i) : Nw w0 w' := Fr.trans' h f fun i _ e => hs i e
theorem Nw.kept {w0 w w' : World} (h : Nw w0 w) (f : Fr (fun _ => False) w w') : Nw w0 w' := h.on f fun _ e => e.elim
theorem Nw.alloc {w0 w : World} (h : Nw w0 w) (o : Obj) : Nw w0 (w.alloc o) := Fr.alloc h o
theorem Nw.fr {w0 w : World} (h : Nw w0 w) : Fr (fun _ => False) w0 w := Fr.new h
theorem Nw.le {w0 w : World} (h : Nw w0 w) : w0.heap.size ≤ w.heap.size := h.size
theorem xorZ {a b : Int} (a0 : 0 ≤ a) (a1 : a ≤ 18446744073709551615) (b0 : 0 ≤ b) (b1 : b ≤ 18446744073709551615) : ∃ x : Nat, Go.bits BinOp.xor IntKind.u64 a b = (x : Int) ∧ x = a.toNat ^^^ b.toNat ∧ x < 18446744073709551616 := by
  obtain ⟨m, rfl⟩ : ∃ m : Nat, a = (m : Int) := ⟨a.toNat, by omega⟩
  obtain ⟨k, rfl⟩ : ∃ m : Nat, b = (m : Int) := ⟨b.toNat, by omega⟩
  refine ⟨m ^^^ k, bits_xor_u64_nat m k (by omega) (by omega), by simp, ?_⟩
  exact Nat.xor_lt_two_pow (n := 64) (by omega) (by omega)
theorem emod_of_tmod {x m : Int} (h : Int.tmod x m = 0) : x % m = 0 := Int.emod_eq_zero_of_dvd (Int.dvd_of_tmod_eq_zero h)
theorem xor_rem {a b : Int} (a0 : 0 ≤ a) (a1 : a ≤ 18446744073709551615) (b0 : 0 ≤ b) (b1 : b ≤ 18446744073709551615) (k : Nat) (h : a % (2 ^ k : Nat) = b % (2 ^ k : Nat)) : Int.tmod (Go.bits BinOp.xor IntKind.u64 a b) (2 ^ k : Nat) = 0 := by
  obtain ⟨x, e1, e2, _⟩ := xorZ a0 a1 b0 b1
  rw [e1, Int.tmod_eq_emod_of_nonneg (by omega)]
  have h2 : a.toNat % 2 ^ k = b.toNat % 2 ^ k := by
    have ha : a = (a.toNat : Int) := by omega
    have hb : b = (b.toNat : Int) := by omega
    rw [ha, hb] at h
    exact_mod_cast h
  have := xor_low k h2
  rw [← e2] at this
  exact_mod_cast this
theorem xor_quo {a b : Int} (a0 : 0 ≤ a) (a1 : a ≤ 18446744073709551615) (b0 : 0 ≤ b) (b1 : b ≤ 18446744073709551615) (k : Nat) (h : a / (2 ^ k : Nat) = b / (2 ^ k : Nat)) : Go.bits BinOp.xor IntKind.u64 a b / (2 ^ k : Nat) = 0 := by
  obtain ⟨x, e1, e2, _⟩ := xorZ a0 a1 b0 b1
  rw [e1]
  have h2 : a.toNat / 2 ^ k = b.toNat / 2 ^ k := by
    have ha : a = (a.toNat : Int) := by omega
    have hb : b = (b.toNat : Int) := by omega
    rw [ha, hb] at h
    exact_mod_cast h
  have := xor_high k h2
  rw [← e2] at this
  exact_mod_cast this
section
variable {t s r n t' s' r' n' : Int}
theorem part_serial (h : KR t s r n) (k : KR t s r n') : Int.tmod (Go.bits BinOp.xor IntKind.u64 (pkB t s r n) (pkB t s r n')) 1048576 = 0 :=
  xor_rem (pkB_range ..).1 (pkB_range ..).2 (pkB_range ..).1 (pkB_range ..).2 20 (by
    show pkB t s r n % 1048576 = pkB t s r n' % 1048576
    rw [pkB_yes h, pkB_yes k]; omega)
theorem part_slot (h : KR t s r n) (k : KR t s' r n) : Go.bits BinOp.xor IntKind.u64 (pkB t s r n) (pkB t s' r n) / 1048576 = 0 ∧ Int.tmod (Go.bits BinOp.xor IntKind.u64 (pkB t s r n) (pkB t s' r n)) 128 = 0 :=
  ⟨xor_quo (pkB_range ..).1 (pkB_range ..).2 (pkB_range ..).1 (pkB_range ..).2 20 (by
    show pkB t s r n / 1048576 = pkB t s' r n / 1048576
    rw [(back h).2.2.2.2, (back k).2.2.2.2]), xor_rem (pkB_range ..).1 (pkB_range ..).2 (pkB_range ..).1 (pkB_range ..).2 7 (by
    show pkB t s r n % 128 = pkB t s' r n % 128
    rw [pkB_yes h, pkB_yes k]; omega)⟩
theorem part_rights (h : KR t s r n) (k : KR t s r' n) : Go.bits BinOp.xor IntKind.u64 (pkB t s r n) (pkB t s r' n) / 128 = 0 ∧ Int.tmod (Go.bits BinOp.xor IntKind.u64 (pkB t s r n) (pkB t s r' n)) 16 = 0 :=
  ⟨xor_quo (pkB_range ..).1 (pkB_range ..).2 (pkB_range ..).1 (pkB_range ..).2 7 (by
    show pkB t s r n / 128 = pkB t s r' n / 128
    rw [pkB_yes h, pkB_yes k]; unfold KR at h k; omega), xor_rem (pkB_range ..).1 (pkB_range ..).2 (pkB_range ..).1 (pkB_range ..).2 4 (by
    show pkB t s r n % 16 = pkB t s r' n % 16
    rw [pkB_yes h, pkB_yes k]; omega)⟩
end
set_option maxRecDepth 20000 in
set_option maxHeartbeats 2000000 in
theorem parts_walk (t s r n t' s' r' n' : Int) (w : World) : Calls Try.prog 7 #[.agg #[.int .i64 t, .int .i64 s, .int .i64 r, .int .i64 n], .agg #[.int .i64 t', .int .i64 s', .int .i64 r', .int .i64 n']] w fun e w' => e = .returned (.bool true) ∧ Fr (fun _ => False) w w' := by
  have HP0 := hid fun w => h_pack t s r n w
  have HP1 := hid fun w => h_pack t s r n' w
  have HP2 := hid fun w => h_pack t s' r n w
  have HP3 := hid fun w => h_pack t s r' n w
  have HQ1 : Hid (KR t s r n → KR t s r n' → _) := fun h k => part_serial h k
  have HQ2 : Hid (KR t s r n → KR t s' r n → _) := fun h k => part_slot h k
  have HQ3 : Hid (KR t s r n → KR t s r' n → _) := fun h k => part_rights h k
  have HK0 : Hid (Kb ((w.alloc (.cells #[.int .i64 t, .int .i64 s, .int .i64 r, .int .i64 n] 23)).alloc (.cells #[.int .i64 t', .int .i64 s', .int .i64 r', .int .i64 n'] 23)) w.heap.size t s r n) := (Kb.new w t s r n).alloc _
  have HO0 : Hid (Kb ((w.alloc (.cells #[.int .i64 t, .int .i64 s, .int .i64 r, .int .i64 n] 23)).alloc (.cells #[.int .i64 t', .int .i64 s', .int .i64 r', .int .i64 n'] 23)) (w.heap.size + 1) t' s' r' n') := by
    show Kb _ _ _ _ _ _
    have := Kb.new (w.alloc (.cells #[.int .i64 t, .int .i64 s, .int .i64 r, .int .i64 n] 23)) t' s' r' n'
    simpa using this
  have HF0 : Hid (Nw w ((w.alloc (.cells #[.int .i64 t, .int .i64 s, .int .i64 r, .int .i64 n] 23)).alloc (.cells #[.int .i64 t', .int .i64 s', .int .i64 r', .int .i64 n'] 23))) := ((Fr.refl _ _).alloc _).alloc _
  have HLT : Hid (w.heap.size < ((w.alloc (.cells #[.int .i64 t, .int .i64 s, .int .i64 r, .int .i64 n] 23)).alloc (.cells #[.int .i64 t', .int .i64 s', .int .i64 r', .int .i64 n'] 23)).heap.size ∧ w.heap.size + 1 < ((w.alloc (.cells #[.int .i64 t, .int .i64 s, .int .i64 r, .int .i64 n] 23)).alloc (.cells #[.int .i64 t', .int .i64 s', .int .i64 r', .int .i64 n'] 23)).heap.size) := ⟨HK0.out.lt, HO0.out.lt⟩
  have a0 := HK0.out.c0
  have a1 := HK0.out.c1
  have a2 := HK0.out.c2
  have a3 := HK0.out.c3
  go_enter Try.func7, Try.ntmps7
  go_wp2_with fail
  refine (HP0.out _).mono ?_
  rintro e w1 ⟨rfl, f1⟩
  have HK1 := hid (HK0.out.kept f1)
  have HO1 := hid (HO0.out.kept f1)
  have HF1 : Hid (Nw w w1) := HF0.out.kept f1
  clear f1 HK0 HO0 HF0 a0 a1 a2 a3
  have a0 := HK1.out.c0
  have a1 := HK1.out.c1
  have a2 := HK1.out.c2
  have a3 := HK1.out.c3
  have b1 := HO1.out.c1
  have b2 := HO1.out.c2
  have b3 := HO1.out.c3
  have X1 := Kb.new w1 t s r n'
  have x0 := X1.c0
  have x1 := X1.c1
  have x2 := X1.c2
  have x3 := X1.c3
  have HKx := hid (HK1.out.alloc (.cells #[.int .i64 t, .int .i64 s, .int .i64 r, .int .i64 n'] 23))
  have HOx := hid (HO1.out.alloc (.cells #[.int .i64 t, .int .i64 s, .int .i64 r, .int .i64 n'] 23))
  have HFx : Hid (Nw w (w1.alloc (.cells #[.int .i64 t, .int .i64 s, .int .i64 r, .int .i64 n'] 23))) := HF1.out.alloc _
  have y1 := (HO1.out.alloc (.cells #[.int .i64 t, .int .i64 s, .int .i64 r, .int .i64 n] 23)).c1
  have y2 := (HO1.out.alloc (.cells #[.int .i64 t, .int .i64 s, .int .i64 r, .int .i64 n] 23)).c2
  have y3 := (HO1.out.alloc (.cells #[.int .i64 t, .int .i64 s, .int .i64 r, .int .i64 n] 23)).c3
  clear X1
  go_wp2_with fail
  refine (HP1.out _).mono ?_
  rintro e w2 ⟨rfl, f2⟩
  have HK2 := hid (HKx.out.kept f2)
  have HO2 := hid (HOx.out.kept f2)
  have HF2 : Hid (Nw w w2) := HFx.out.kept f2
  clear f2 HKx HOx HFx HK1 HO1 HF1 a0 a1 a2 a3 b1 b2 b3 x0 x1 x2 x3 y1 y2 y3
  have a0 := HK2.out.c0
  have a1 := HK2.out.c1
  have a2 := HK2.out.c2
  have a3 := HK2.out.c3
  have b1 := HO2.out.c1
  have b2 := HO2.out.c2
  have b3 := HO2.out.c3
  have X2 := Kb.new w2 t s' r n
  have x0 := X2.c0
  have x1 := X2.c1
  have x2 := X2.c2
  have x3 := X2.c3
  have HKx := hid (HK2.out.alloc (.cells #[.int .i64 t, .int .i64 s', .int .i64 r, .int .i64 n] 23))
  have HOx := hid (HO2.out.alloc (.cells #[.int .i64 t, .int .i64 s', .int .i64 r, .int .i64 n] 23))
  have HFx : Hid (Nw w (w2.alloc (.cells #[.int .i64 t, .int .i64 s', .int .i64 r, .int .i64 n] 23))) := HF2.out.alloc _
  have y1 := (HO2.out.alloc (.cells #[.int .i64 t, .int .i64 s, .int .i64 r, .int .i64 n] 23)).c1
  have y2 := (HO2.out.alloc (.cells #[.int .i64 t, .int .i64 s, .int .i64 r, .int .i64 n] 23)).c2
  have y3 := (HO2.out.alloc (.cells #[.int .i64 t, .int .i64 s, .int .i64 r, .int .i64 n] 23)).c3
  clear X2
  go_wp2_with fail
  refine (HP2.out _).mono ?_
  rintro e w3 ⟨rfl, f3⟩
  have HK3 := hid (HKx.out.kept f3)
  have HO3 := hid (HOx.out.kept f3)
  have HF3 : Hid (Nw w w3) := HFx.out.kept f3
  clear f3 HKx HOx HFx HK2 HO2 HF2 a0 a1 a2 a3 b1 b2 b3 x0 x1 x2 x3 y1 y2 y3
  have a0 := HK3.out.c0
  have a1 := HK3.out.c1
  have a2 := HK3.out.c2
  have a3 := HK3.out.c3
  have b1 := HO3.out.c1
  have b2 := HO3.out.c2
  have b3 := HO3.out.c3
  have X3 := Kb.new w3 t s r' n
  have x0 := X3.c0
  have x1 := X3.c1
  have x2 := X3.c2
  have x3 := X3.c3
  have HKx := hid (HK3.out.alloc (.cells #[.int .i64 t, .int .i64 s, .int .i64 r', .int .i64 n] 23))
  have HOx := hid (HO3.out.alloc (.cells #[.int .i64 t, .int .i64 s, .int .i64 r', .int .i64 n] 23))
  have HFx : Hid (Nw w (w3.alloc (.cells #[.int .i64 t, .int .i64 s, .int .i64 r', .int .i64 n] 23))) := HF3.out.alloc _
  have y1 := (HO3.out.alloc (.cells #[.int .i64 t, .int .i64 s, .int .i64 r, .int .i64 n] 23)).c1
  have y2 := (HO3.out.alloc (.cells #[.int .i64 t, .int .i64 s, .int .i64 r, .int .i64 n] 23)).c2
  have y3 := (HO3.out.alloc (.cells #[.int .i64 t, .int .i64 s, .int .i64 r, .int .i64 n] 23)).c3
  clear X3
  go_wp2_with fail
  refine (HP3.out _).mono ?_
  rintro e w4 ⟨rfl, f4⟩
  have HK4 := hid (HKx.out.kept f4)
  have HO4 := hid (HOx.out.kept f4)
  have HF4 : Hid (Nw w w4) := HFx.out.kept f4
  clear f4 HKx HOx HFx HK3 HO3 HF3 a0 a1 a2 a3 b1 b2 b3 x0 x1 x2 x3 y1 y2 y3
  go_wp2_with fail
  refine (awake_f _).mono ?_
  rintro e w5 ⟨rfl, f5⟩
  have HK5 := hid (HK4.out.kept f5)
  have HO5 := hid (HO4.out.kept f5)
  have HF5 : Hid (Nw w w5) := HF4.out.kept f5
  clear f5 HK4 HO4 HF4 HLT
  by_cases k0 : KR t s r n
  case neg =>
    have hx : ¬ pkE t s r n = 0 := fun e => k0 (pkE_iff.1 e)
    clear HQ1 HQ2 HQ3 k0
    go_wp2_with fail
    refine (awake_f _).mono ?_
    rintro e w6 ⟨rfl, f6⟩
    have HF6 : Hid (Nw w w6) := HF5.out.kept f6
    clear f6
    go_wp2
    go_ret
    exact ⟨by simp, HF6.out.fr⟩
  have hx : pkE t s r n = 0 := pkE_yes k0
  by_cases k1 : KR t s r n'
  case pos =>
    by_cases k2 : KR t s' r n
    case pos =>
      by_cases k3 : KR t s r' n
      case pos =>
        have e1 : pkE t s r n' = 0 := pkE_yes k1
        have q1 := HQ1.out k0 k1
        have e2 : pkE t s' r n = 0 := pkE_yes k2
        obtain ⟨q2, q2b⟩ := HQ2.out k0 k2
        have e3 : pkE t s r' n = 0 := pkE_yes k3
        obtain ⟨q3, q3b⟩ := HQ3.out k0 k3
        clear HQ1 HQ2 HQ3 HP0 HP1 HP2 HP3 k0 k1 k2 k3
        generalize pkB t s r n = pa at *
        generalize pkB t s r n' = pb at *
        generalize pkB t s' r n = pc at *
        generalize pkB t s r' n = pd at *
        generalize pkE t s r n = ea at *
        generalize pkE t s r n' = eb at *
        generalize pkE t s' r n = ec at *
        generalize pkE t s r' n = ed at *
        have m1 := emod_of_tmod q1
        have m2 := emod_of_tmod q2b
        have m3 := emod_of_tmod q3b
        go_wp2
        go_ret
        exact ⟨by simp, HF5.out.fr⟩
      case neg =>
        have e1 : pkE t s r n' = 0 := pkE_yes k1
        have q1 := HQ1.out k0 k1
        have e2 : pkE t s' r n = 0 := pkE_yes k2
        obtain ⟨q2, q2b⟩ := HQ2.out k0 k2
        have e3 : ¬ pkE t s r' n = 0 := fun e => k3 (pkE_iff.1 e)
        clear HQ1 HQ2 HQ3 HP0 HP1 HP2 HP3 k0 k1 k2 k3
        generalize pkB t s r n = pa at *
        generalize pkB t s r n' = pb at *
        generalize pkB t s' r n = pc at *
        generalize pkB t s r' n = pd at *
        generalize pkE t s r n = ea at *
        generalize pkE t s r n' = eb at *
        generalize pkE t s' r n = ec at *
        generalize pkE t s r' n = ed at *
        have m1 := emod_of_tmod q1
        have m2 := emod_of_tmod q2b
        go_wp2
        go_ret
        exact ⟨by simp, HF5.out.fr⟩
    case neg =>
      by_cases k3 : KR t s r' n
      case pos =>
        have e1 : pkE t s r n' = 0 := pkE_yes k1
        have q1 := HQ1.out k0 k1
        have e2 : ¬ pkE t s' r n = 0 := fun e => k2 (pkE_iff.1 e)
        have e3 : pkE t s r' n = 0 := pkE_yes k3
        obtain ⟨q3, q3b⟩ := HQ3.out k0 k3
        clear HQ1 HQ2 HQ3 HP0 HP1 HP2 HP3 k0 k1 k2 k3
        generalize pkB t s r n = pa at *
        generalize pkB t s r n' = pb at *
        generalize pkB t s' r n = pc at *
        generalize pkB t s r' n = pd at *
        generalize pkE t s r n = ea at *
        generalize pkE t s r n' = eb at *
        generalize pkE t s' r n = ec at *
        generalize pkE t s r' n = ed at *
        have m1 := emod_of_tmod q1
        have m3 := emod_of_tmod q3b
        go_wp2
        go_ret
        exact ⟨by simp, HF5.out.fr⟩
      case neg =>
        have e1 : pkE t s r n' = 0 := pkE_yes k1
        have q1 := HQ1.out k0 k1
        have e2 : ¬ pkE t s' r n = 0 := fun e => k2 (pkE_iff.1 e)
        have e3 : ¬ pkE t s r' n = 0 := fun e => k3 (pkE_iff.1 e)
        clear HQ1 HQ2 HQ3 HP0 HP1 HP2 HP3 k0 k1 k2 k3
        generalize pkB t s r n = pa at *
        generalize pkB t s r n' = pb at *
        generalize pkB t s' r n = pc at *
        generalize pkB t s r' n = pd at *
        generalize pkE t s r n = ea at *
        generalize pkE t s r n' = eb at *
        generalize pkE t s' r n = ec at *
        generalize pkE t s r' n = ed at *
        have m1 := emod_of_tmod q1
        go_wp2
        go_ret
        exact ⟨by simp, HF5.out.fr⟩
  case neg =>
    by_cases k2 : KR t s' r n
    case pos =>
      by_cases k3 : KR t s r' n
      case pos =>
        have e1 : ¬ pkE t s r n' = 0 := fun e => k1 (pkE_iff.1 e)
        have e2 : pkE t s' r n = 0 := pkE_yes k2
        obtain ⟨q2, q2b⟩ := HQ2.out k0 k2
        have e3 : pkE t s r' n = 0 := pkE_yes k3
        obtain ⟨q3, q3b⟩ := HQ3.out k0 k3
        clear HQ1 HQ2 HQ3 HP0 HP1 HP2 HP3 k0 k1 k2 k3
        generalize pkB t s r n = pa at *
        generalize pkB t s r n' = pb at *
        generalize pkB t s' r n = pc at *
        generalize pkB t s r' n = pd at *
        generalize pkE t s r n = ea at *
        generalize pkE t s r n' = eb at *
        generalize pkE t s' r n = ec at *
        generalize pkE t s r' n = ed at *
        have m2 := emod_of_tmod q2b
        have m3 := emod_of_tmod q3b
        go_wp2
        go_ret
        exact ⟨by simp, HF5.out.fr⟩
      case neg =>
        have e1 : ¬ pkE t s r n' = 0 := fun e => k1 (pkE_iff.1 e)
        have e2 : pkE t s' r n = 0 := pkE_yes k2
        obtain ⟨q2, q2b⟩ := HQ2.out k0 k2
        have e3 : ¬ pkE t s r' n = 0 := fun e => k3 (pkE_iff.1 e)
        clear HQ1 HQ2 HQ3 HP0 HP1 HP2 HP3 k0 k1 k2 k3
        generalize pkB t s r n = pa at *
        generalize pkB t s r n' = pb at *
        generalize pkB t s' r n = pc at *
        generalize pkB t s r' n = pd at *
        generalize pkE t s r n = ea at *
        generalize pkE t s r n' = eb at *
        generalize pkE t s' r n = ec at *
        generalize pkE t s r' n = ed at *
        have m2 := emod_of_tmod q2b
        go_wp2
        go_ret
        exact ⟨by simp, HF5.out.fr⟩
    case neg =>
      by_cases k3 : KR t s r' n
      case pos =>
        have e1 : ¬ pkE t s r n' = 0 := fun e => k1 (pkE_iff.1 e)
        have e2 : ¬ pkE t s' r n = 0 := fun e => k2 (pkE_iff.1 e)
        have e3 : pkE t s r' n = 0 := pkE_yes k3
        obtain ⟨q3, q3b⟩ := HQ3.out k0 k3
        clear HQ1 HQ2 HQ3 HP0 HP1 HP2 HP3 k0 k1 k2 k3
        generalize pkB t s r n = pa at *
        generalize pkB t s r n' = pb at *
        generalize pkB t s' r n = pc at *
        generalize pkB t s r' n = pd at *
        generalize pkE t s r n = ea at *
        generalize pkE t s r n' = eb at *
        generalize pkE t s' r n = ec at *
        generalize pkE t s r' n = ed at *
        have m3 := emod_of_tmod q3b
        go_wp2
        go_ret
        exact ⟨by simp, HF5.out.fr⟩
      case neg =>
        have e1 : ¬ pkE t s r n' = 0 := fun e => k1 (pkE_iff.1 e)
        have e2 : ¬ pkE t s' r n = 0 := fun e => k2 (pkE_iff.1 e)
        have e3 : ¬ pkE t s r' n = 0 := fun e => k3 (pkE_iff.1 e)
        clear HQ1 HQ2 HQ3 HP0 HP1 HP2 HP3 k0 k1 k2 k3
        generalize pkB t s r n = pa at *
        generalize pkB t s r n' = pb at *
        generalize pkB t s' r n = pc at *
        generalize pkB t s r' n = pd at *
        generalize pkE t s r n = ea at *
        generalize pkE t s r n' = eb at *
        generalize pkE t s' r n = ec at *
        generalize pkE t s r' n = ed at *
        go_wp2
        go_ret
        exact ⟨by simp, HF5.out.fr⟩
end Go.Proofs.Ytaljdfncdpbjfaa
