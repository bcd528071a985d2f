/-
  What the calls of package shelf do, each for every state of a shelf and every argument: contracts.
-/
import Derived.Test.YtcleheapfgapaaaDoorSfMem
import Derived.Deep.RegionWith
import Derived.Deep.QuietTactic
import Derived.BigQuiet
import Derived.IntWalk
namespace Go.Proofs.YtcleheapfgapaaaDoor.Sf
open Go.RowKit

theorem i64_small (q : Nat) (h : q ≤ 1048576) : IntKind.i64.wrap (q : Int) = (q : Int) := by rw [IntKind.wrap_i64]; omega
theorem tdiv64 (k q : Nat) (h : k / 64 = q) : Int.tdiv (k : Int) 64 = (q : Int) := by rw [Int.tdiv_eq_ediv_of_nonneg (by omega)]; omega

theorem Sw.drewN {w : World} {a b c : Nat} {ws : List Nat} {has : List Bool} (h : Sw w a b ws c has) (n : Nat) : Sw (w.drewN n) a b ws c has := ⟨h.bits, h.st, h.row, h.ne, h.a0, h.b0, h.le, h.tab⟩
set_option maxRecDepth 20000 in
set_option maxHeartbeats 400000 in
theorem turn_any {w : World} {a b c : Nat} {ws : List Nat} {has : List Bool} (h : Sw w a b ws c has) (k : Nat) (hk : k < has.length) (hj : k / 64 < ws.length) :
    Calls Tryd.prog 37 #[.pointer (some ⟨a, 0, none⟩), .int .i64 k] w fun e w' => e = .returned (.tuple #[]) ∧ Sw w' a b (ws.set (k / 64) (ws[k / 64] ^^^ bt k)) c (has.set k (!has[k])) ∧ Fr (fun i => i = b) w w' ∧ w'.heap.size = w.heap.size := by
  have c1 := h.c1
  have cw := h.cw (k / 64) hj
  have fw := h.fw (k / 64)
  have hx : Go.bits .xor .u64 (ws[k / 64] : Int) (bt k : Int) = ((ws[k / 64] ^^^ bt k : Nat) : Int) := bits_xor_u64_nat _ _ (h.bits.lt _ hj) (bt_lt k)
  have hle := h.le
  have hwl := h.wl
  have H : Hid (Sw (w.setCell ⟨b, k / 64, none⟩ (.int .u64 ((ws[k / 64] ^^^ bt k : Nat) : Int))) a b (ws.set (k / 64) (ws[k / 64] ^^^ bt k)) c (has.set k (!has[k]))) := h.turned k hk hj
  clear h
  generalize hx' : ws[k / 64] = x at *
  generalize hq' : k / 64 = q at *
  have hq : (k : Int) / 64 = (q : Int) := by omega
  have hq2 := tdiv64 k q hq'
  have hq5 := i64_small q (by omega)
  clear hx' hq'
  generalize ws.set q (x ^^^ bt k) = ws' at *
  generalize ws.length = n at *
  go_enter Tryd.func37, Tryd.ntmps37
  go_wp2_with fail
  go_region_with (go_at_call 48; refine (bit_any k _ (by omega)).mono ?_; rintro e w2 ⟨rfl, hw⟩; obtain rfl := hw.symm)
  all_goals
    go_wp2
    go_end0
    exact ⟨rfl, H.out.drew, (Fr.setCell (S := fun i => i = b) (p := ⟨b, q, none⟩) (Fr.refl _ _) rfl _).drew, by simp [World.setCell]⟩

set_option maxRecDepth 20000 in
theorem there_any {w : World} {a b c : Nat} {ws : List Nat} {has : List Bool} (h : Sw w a b ws c has) (k : Int) :
    Calls Tryd.prog 56 #[.pointer (some ⟨a, 0, none⟩), .int .i64 k] w fun e w' => e = .returned (.bool (hasN has k)) ∧ w' = w := by
  have c0 := h.c0
  clear h
  by_cases h1 : 0 ≤ k
  · go_enter Tryd.func56, Tryd.ntmps56
    go_wp2
    go_ret
    exact ⟨by simp [hasN, h1], rfl⟩
  · go_enter Tryd.func56, Tryd.ntmps56
    go_wp2
    go_ret
    exact ⟨by simp [hasN]; omega, rfl⟩

set_option maxRecDepth 20000 in
theorem size_any {w : World} {a b c : Nat} {ws : List Nat} {has : List Bool} (h : Sw w a b ws c has) :
    Calls Tryd.prog 46 #[.pointer (some ⟨a, 0, none⟩)] w fun e w' => e = .returned (.int .i64 (has.length : Int)) ∧ w' = w := by
  have c0 := h.c0
  clear h
  go_enter Tryd.func46, Tryd.ntmps46
  go_wp2
  go_ret
  exact ⟨rfl, rfl⟩

set_option maxRecDepth 20000 in
set_option maxHeartbeats 1000000 in
theorem taken_in {w : World} {a b c : Nat} {ws : List Nat} {has : List Bool} (h : Sw w a b ws c has) (k : Nat) (hk : k < has.length) :
    Calls Tryd.prog 57 #[.pointer (some ⟨a, 0, none⟩), .int .i64 k] w fun e w' => e = .returned (.bool has[k]) ∧ ∃ n, w' = w.drewN n := by
  have hj : k / 64 < ws.length := by have := h.bits.len; omega
  have c1 := h.c1
  have cw := h.cw (k / 64) hj
  have hx : Go.bits .and .u64 (ws[k / 64] : Int) (bt k : Int) = ((ws[k / 64] &&& bt k : Nat) : Int) := bits_and_u64_nat _ _ (h.bits.lt _ hj) (bt_lt k)
  have hle := h.le
  have hwl := h.wl
  have ha : (((ws[k / 64] &&& bt k : Nat) : Int) == 0) = has[k] := by
    rw [← h.bits.asked k hk hj]
    show _ = decide (ws[k / 64] &&& bt k = 0)
    cases hd : decide (ws[k / 64] &&& bt k = 0)
    · simp at hd ⊢; omega
    · simp at hd ⊢; omega
  have HT : Hid (∀ w2, Sw w2 a b ws c has → Calls Tryd.prog 56 #[.pointer (some ⟨a, 0, none⟩), .int .i64 k] w2 fun e w' => e = .returned (.bool true) ∧ w' = w2) := fun w2 h2 => by
    have := there_any h2 (k : Int)
    rw [hasN_iff.2 ⟨by omega, by omega⟩] at this
    exact this
  have HD : Hid (∀ n, Sw (w.drewN n) a b ws c has) := fun n => h.drewN n
  clear h
  generalize hx' : ws[k / 64] = x at *
  generalize hq' : k / 64 = q at *
  have hq : (k : Int) / 64 = (q : Int) := by omega
  have hq2 := tdiv64 k q hq'
  have hq5 := i64_small q (by omega)
  clear hx' hq'
  generalize x &&& bt k = y at *
  generalize hn : ws.length = n at *
  clear hn
  generalize has[k] = r at *
  go_enter Tryd.func57, Tryd.ntmps57
  go_wp2_with fail
  go_quiet (first | (go_at_call 48; refine Calls.quiet_of_same (bit_any k _ (by omega))) | (go_at_call 56; refine Calls.quiet_of_same (HT.out _ ?_); exact HD.out _))
  go_wp2
  go_ret
  exact ⟨by simp, nq, rfl⟩
set_option maxRecDepth 20000 in
set_option maxHeartbeats 1000000 in
theorem taken_out {w : World} {a b c : Nat} {ws : List Nat} {has : List Bool} (h : Sw w a b ws c has) (k : Int) (hk : hasN has k = false) :
    Calls Tryd.prog 57 #[.pointer (some ⟨a, 0, none⟩), .int .i64 k] w fun e w' => e = .returned (.bool false) ∧ ∃ n, w' = w.drewN n := by
  have HT : Hid (∀ w2, Sw w2 a b ws c has → Calls Tryd.prog 56 #[.pointer (some ⟨a, 0, none⟩), .int .i64 k] w2 fun e w' => e = .returned (.bool false) ∧ w' = w2) := fun w2 h2 => by
    have := there_any h2 k
    rw [hk] at this
    exact this
  have HD : Hid (∀ n, Sw (w.drewN n) a b ws c has) := fun n => h.drewN n
  clear h hk
  go_enter Tryd.func57, Tryd.ntmps57
  go_wp2_with fail
  go_quiet (first | (go_at_call 56; refine Calls.quiet_of_same (HT.out _ ?_); exact HD.out _))
  go_wp2
  go_ret
  exact ⟨by simp, nq, rfl⟩
theorem taken_any {w : World} {a b c : Nat} {ws : List Nat} {has : List Bool} (h : Sw w a b ws c has) (k : Int) :
    Calls Tryd.prog 57 #[.pointer (some ⟨a, 0, none⟩), .int .i64 k] w fun e w' => e = .returned (.bool (isT has k)) ∧ ∃ n, w' = w.drewN n := by
  cases hk : hasN has k with
  | false =>
    have e : isT has k = false := by simp [isT, hk]
    rw [e]; exact taken_out h k hk
  | true =>
    obtain ⟨h1, h2⟩ := hasN_iff.1 hk
    obtain ⟨n, rfl⟩ : ∃ n : Nat, k = (n : Int) := ⟨k.toNat, by omega⟩
    have hn : n < has.length := by omega
    have e : isT has (n : Int) = has[n] := by simp [isT, hk, hn]
    rw [e]; exact taken_in h n hn

set_option maxRecDepth 20000 in
set_option maxHeartbeats 2000000 in
theorem lowest_any {w : World} {a b c : Nat} {ws : List Nat} {has : List Bool} (h : Sw w a b ws c has) :
    Calls Tryd.prog 49 #[.pointer (some ⟨a, 0, none⟩)] w fun e w' => e = .returned (.int .i64 (lowI has)) ∧ w' = w := by
  have c1 := h.c1
  have hwl := h.wl
  have HS : Hid (Sw w a b ws c has) := h
  clear h
  go_enter Tryd.func49, Tryd.ntmps49
  go_wp2
  refine wp_scope_jumps 0 (fun a' w' => w' = w ∧ ∃ (j : Nat) (u4 u5 u6 u7 u8 u9 u10 u11 u12 u13 u14 u15 u16 u17 u18 u19 u20 u21 u22 u23 u24 u25 u26 u27 u28 u29 u30 u31 u32 u33 : Value), a' = { tmps := #[.pointer (some ⟨a, 0, none⟩), undef, .int .i64 0, .int .i64 j, u4, u5, u6, u7, u8, u9, u10, u11, u12, u13, u14, u15, u16, u17, u18, u19, u20, u21, u22, u23, u24, u25, u26, u27, u28, u29, u30, u31, u32, u33], defers := [] } ∧ j ≤ ws.length ∧ Hid (∀ i (_ : i < 64 * j) (hl : i < has.length), has[i] = true)) (fun a' _ => ws.length - (intOf (a'.tmps.getD 3 undef)).toNat) rfl ?first ?pass
  case first =>
    have hb : Hid (∀ i (_ : i < 64 * 0) (hl : i < has.length), has[i] = true) := fun i hi _ => by omega
    by_cases hlt : 0 < ws.length
    · have cw := HS.out.cw 0 hlt
      have hxl := HS.out.bits.lt 0 hlt
      by_cases hz : ws[0]'hlt = 0
      · rw [hz] at cw
        have hb' : Hid (∀ i (_ : i < 64 * (0 + 1)) (hl : i < has.length), has[i] = true) := fun i hi hl => by
          rcases Nat.lt_or_ge i (64 * 0) with h1 | h1
          · exact hb.out i h1 hl
          · have := HS.out.bits.zero 0 hlt hz (i - 64 * 0) (by omega) (by omega)
            simpa [show 64 * 0 + (i - 64 * 0) = i by omega] using this
        clear hxl hz
        go_wp2
        go_step3
        go_wp2
        go_step3
        exact ⟨rfl, rfl, 0 + 1, _, _, _, _, _, _, _, _, _, _, _, _, _, _, _, _, _, _, _, _, _, _, _, _, _, _, _, _, _, _, by go_num, by omega, hb'⟩
      · have hv := HS.out.bits.lowest 0 hlt hz hb.out
        have he : lowI has = ((64 * 0 + Lib.ctz 64 (ws[0]'hlt) : Nat) : Int) := by unfold lowI; rw [if_pos hv.2, hv.1]
        have hc := (ctz_bits _ hz hxl).1
        have HZ : Hid (Calls Tryd.prog 59 #[.int .u64 (ws[0]'hlt : Nat)] w fun e w' => e = .returned (.int .i64 (Lib.ctz 64 (ws[0]'hlt) : Nat)) ∧ w' = w) := tz_any _ w HS.out.tab hz hxl
        clear hv
        generalize (ws[0]'hlt) = x at *
        generalize Lib.ctz 64 x = z at *
        have hx0 : ((x : Int) == 0) = false := by simp; omega
        have HE := hid he
        clear hz he
        go_wp2
        go_step3
        go_wp2_with fail
        refine HZ.out.mono ?_
        rintro e w2 ⟨rfl, hw⟩
        obtain rfl := hw.symm
        go_wp2
        rw [jump_ret]
        go_ret
        exact ⟨by rw [HE.out]; simp; try omega, rfl⟩
    · have hje : ws.length = 0 := by omega
      have he : Hid (lowI has = -1) := by
        have := HS.out.bits.full (by rw [hje]; exact hb.out)
        show lowI has = -1
        unfold lowI; rw [if_neg (by omega)]
      rw [hje] at c1
      clear hlt hje
      go_wp2
      go_step3
      go_wp2
      rw [jump_ret]
      go_ret
      exact ⟨by rw [he.out]; simp, rfl⟩
  case pass =>
    rintro a' w' ⟨hw', j, u4, u5, u6, u7, u8, u9, u10, u11, u12, u13, u14, u15, u16, u17, u18, u19, u20, u21, u22, u23, u24, u25, u26, u27, u28, u29, u30, u31, u32, u33, rfl, hjl, hb⟩
    obtain rfl := hw'.symm
    clear hw'
    by_cases hlt : j < ws.length
    · have cw := HS.out.cw j hlt
      have hxl := HS.out.bits.lt j hlt
      by_cases hz : ws[j]'hlt = 0
      · rw [hz] at cw
        have hb' : Hid (∀ i (_ : i < 64 * (j + 1)) (hl : i < has.length), has[i] = true) := fun i hi hl => by
          rcases Nat.lt_or_ge i (64 * j) with h1 | h1
          · exact hb.out i h1 hl
          · have := HS.out.bits.zero j hlt hz (i - 64 * j) (by omega) (by omega)
            simpa [show 64 * j + (i - 64 * j) = i by omega] using this
        clear hxl hz
        go_wp2
        go_step3
        exact ⟨rfl, ⟨rfl, j + 1, _, _, _, _, _, _, _, _, _, _, _, _, _, _, _, _, _, _, _, _, _, _, _, _, _, _, _, _, _, _, by go_num, by omega, hb'⟩, by simp [intOf]; omega⟩
      · have hv := HS.out.bits.lowest j hlt hz hb.out
        have he : lowI has = ((64 * j + Lib.ctz 64 (ws[j]'hlt) : Nat) : Int) := by unfold lowI; rw [if_pos hv.2, hv.1]
        have hc := (ctz_bits _ hz hxl).1
        have HZ : Hid (Calls Tryd.prog 59 #[.int .u64 (ws[j]'hlt : Nat)] w fun e w' => e = .returned (.int .i64 (Lib.ctz 64 (ws[j]'hlt) : Nat)) ∧ w' = w) := tz_any _ w HS.out.tab hz hxl
        clear hv
        generalize (ws[j]'hlt) = x at *
        generalize Lib.ctz 64 x = z at *
        have hx0 : ((x : Int) == 0) = false := by simp; omega
        have HE := hid he
        clear hz he
        go_wp2_with fail
        refine HZ.out.mono ?_
        rintro e w2 ⟨rfl, hw⟩
        obtain rfl := hw.symm
        go_wp2
        rw [jump_ret]
        go_ret
        exact ⟨by rw [HE.out]; simp; try omega, rfl⟩
    · obtain rfl : j = ws.length := by omega
      have he : Hid (lowI has = -1) := by
        have := HS.out.bits.full (by exact hb.out)
        show lowI has = -1
        unfold lowI; rw [if_neg (by omega)]

      clear hlt
      go_wp2
      rw [jump_ret]
      go_ret
      exact ⟨by rw [he.out]; simp, rfl⟩
end Go.Proofs.YtcleheapfgapaaaDoor.Sf
