/-
  What the calls of package shelf do, each for every state of a shelf and every argument: contracts, without words of bits.
-/
import Derived.Test.YthndakhnhnipnaaDoorSfCalls
import Derived.OwnWalk
import Derived.Lib.LazyBuf
import Derived.LoopTactic
namespace Go.Proofs.YthndakhnhnipnaaDoor.Sf
open Go.RowKit

/-- In w there lies a shelf at block a (and b): 'has' says which of its numbers are taken. -/
def Sh (w : World) (a b : Nat) (has : List Bool) : Prop := ∃ ws c, Sw w a b ws c has
section
variable {w : World} {a b : Nat} {has : List Bool}
theorem Sh.le (h : Sh w a b has) : has.length ≤ 65536 := by obtain ⟨ws, c, h⟩ := h; exact h.le
theorem Sh.lta (h : Sh w a b has) : a < w.heap.size := by obtain ⟨ws, c, h⟩ := h; exact h.lta
theorem Sh.ltb (h : Sh w a b has) : b < w.heap.size := by obtain ⟨ws, c, h⟩ := h; exact h.ltb
theorem Sh.tab (h : Sh w a b has) : Tab w := by obtain ⟨ws, c, h⟩ := h; exact h.tab
theorem Sh.b0 (h : Sh w a b has) : 0 < b := by obtain ⟨ws, c, h⟩ := h; exact h.b0
theorem Sh.a0 (h : Sh w a b has) : 0 < a := by obtain ⟨ws, c, h⟩ := h; exact h.a0
theorem Sh.carry {S : Nat → Prop} {w' : World} (h : Sh w a b has) (hf : Fr S w w') (h1 : ¬ S a) (h2 : ¬ S b) (h0 : ¬ S 0) : Sh w' a b has := by
  obtain ⟨ws, c, h⟩ := h; exact ⟨ws, c, h.carry hf h1 h2 h0⟩
theorem Sh.drew (h : Sh w a b has) : Sh w.drew a b has := by obtain ⟨ws, c, h⟩ := h; exact ⟨ws, c, h.drew⟩
theorem Sh.drewN (h : Sh w a b has) (n : Nat) : Sh (w.drewN n) a b has := by obtain ⟨ws, c, h⟩ := h; exact ⟨ws, c, h.drewN n⟩

theorem s_turn (h : Sh w a b has) (k : Nat) (hk : k < has.length) :
    Calls Tryd.prog 65 #[.pointer (some ⟨a, 0, none⟩), .int .i64 k] w fun e w' => e = .returned (.tuple #[]) ∧ Sh w' a b (has.set k (!has[k])) ∧ Fr (fun i => i = b) w w' := by
  obtain ⟨ws, c, h⟩ := h
  exact (turn_any h k hk (by have := h.bits.len; omega)).mono fun e w' ⟨h1, h2, h3, _⟩ => ⟨h1, ⟨_, _, h2⟩, h3⟩
theorem s_there (h : Sh w a b has) (k : Int) :
    Calls Tryd.prog 73 #[.pointer (some ⟨a, 0, none⟩), .int .i64 k] w fun e w' => e = .returned (.bool (hasN has k)) ∧ w' = w := by
  obtain ⟨ws, c, h⟩ := h; exact there_any h k
theorem s_size (h : Sh w a b has) :
    Calls Tryd.prog 49 #[.pointer (some ⟨a, 0, none⟩)] w fun e w' => e = .returned (.int .i64 (has.length : Int)) ∧ w' = w := by
  obtain ⟨ws, c, h⟩ := h; exact size_any h
theorem s_taken (h : Sh w a b has) (k : Int) :
    Calls Tryd.prog 50 #[.pointer (some ⟨a, 0, none⟩), .int .i64 k] w fun e w' => e = .returned (.bool (isT has k)) ∧ ∃ n, w' = w.drewN n := by
  obtain ⟨ws, c, h⟩ := h; exact taken_any h k
end

set_option maxRecDepth 20000 in
set_option maxHeartbeats 1000000 in
theorem free_any {w : World} {a b c : Nat} {ws : List Nat} {has : List Bool} (h : Sw w a b ws c has) :
    Calls Tryd.prog 56 #[.pointer (some ⟨a, 0, none⟩)] w fun e w' => e = .returned (.int .i64 (frees has : Int)) ∧ w' = w := by
  have c1 := h.c1
  have hwl := h.wl
  have hle := h.le
  have HS : Hid (Sw w a b ws c has) := h
  clear h
  go_enter Tryd.func56, Tryd.ntmps56
  go_wp2
  go_loopw [3, 5, 13] (fun n _ i wr => ∃ j : Nat, j ≤ ws.length ∧ i = .int .i64 j ∧ n = .int .i64 (frees (has.take (64 * j)) : Nat) ∧ wr = w) (fun _ _ i _ => ws.length - (intOf i).toNat)
  case atStart => exact ⟨0, by omega, rfl, by simp [frees], rfl⟩
  case round =>
    obtain ⟨j, hj, rfl, rfl, hwr⟩ := hrel
    obtain rfl := hwr.symm
    clear hwr
    by_cases hlt : j < ws.length
    · have cw := HS.out.cw j hlt
      have HC : Hid (Calls Tryd.prog 80 #[.int .u64 (ws[j]'hlt : Nat)] w fun e w' => e = .returned (.int .i64 (pc 64 (ws[j]'hlt) : Nat)) ∧ w' = w) := oc_any _ w (HS.out.bits.lt j hlt)
      have hcnt := hid (HS.out.bits.count j hlt)
      have hb1 : frees (has.take (64 * (j + 1))) ≤ 65536 := by have := frees_le (has.take (64 * (j + 1))); simp at this; omega
      rw [hcnt.out] at hb1
      generalize (ws[j]'hlt) = x at *
      generalize frees (has.take (64 * j)) = f at *
      generalize pc 64 x = p at *
      go_wp2_with fail
      refine HC.out.mono ?_
      rintro e w2 ⟨rfl, hw⟩
      obtain rfl := hw.symm
      go_wp2
      go_roundw
      case rel => exact ⟨j + 1, by omega, by go_num, by rw [hcnt.out]; go_num, trivial⟩
      case measure => simp [intOf]; omega
    · obtain rfl : j = ws.length := by omega
      have hall := hid (HS.out.bits.all)
      go_wp2
      go_ret
      exact ⟨by rw [hall.out]; simp, rfl⟩
theorem s_free {w : World} {a b : Nat} {has : List Bool} (h : Sh w a b has) :
    Calls Tryd.prog 56 #[.pointer (some ⟨a, 0, none⟩)] w fun e w' => e = .returned (.int .i64 (frees has : Int)) ∧ w' = w := by
  obtain ⟨ws, c, h⟩ := h; exact free_any h

theorem set_same (has : List Bool) (k : Nat) (hk : k < has.length) : has.set k has[k] = has := by
  apply List.ext_getElem (by simp)
  intro i h1 h2
  rw [List.getElem_set]
  split
  · rename_i e; subst e; rfl
  · rfl
theorem isT_nat (has : List Bool) (k : Nat) (hk : k < has.length) : isT has (k : Int) = has[k] := by
  simp [isT, hasN, hk]
set_option maxRecDepth 20000 in
theorem s_takeAt {w : World} {a b : Nat} {has : List Bool} (h : Sh w a b has) (k : Int) :
    Calls Tryd.prog 70 #[.pointer (some ⟨a, 0, none⟩), .int .i64 k] w fun e w' => e = .returned (.int .i64 (taE has k)) ∧ Sh w' a b (taS has k) ∧ Fr (fun i => i = b) w w' := by
  have HR := hid (s_there h k)
  have HK := hid (s_taken h k)
  have HH := hid h
  have HL := hid h.le
  cases hn : hasN has k with
  | false =>
    have e1 : taE has k = 12 := by simp [taE, hn]
    have e2 : taS has k = has := by simp [taS, hn]
    rw [hn] at HR
    rw [e1, e2]
    clear h e1 e2 hn HK
    go_enter Tryd.func70, Tryd.ntmps70
    go_wp2_with fail
    refine HR.out.mono ?_
    rintro e w' ⟨rfl, hw⟩
    obtain rfl := hw.symm
    go_wp2
    go_ret
    exact ⟨by simp, HH.out, Fr.refl _ _⟩
  | true =>
    obtain ⟨g1, g2⟩ := hasN_iff.1 hn
    obtain ⟨n, rfl⟩ : ∃ n : Nat, k = (n : Int) := ⟨k.toNat, by omega⟩
    have hlt : n < has.length := by omega
    rw [hn] at HR
    cases ht : isT has (n : Int) with
    | true =>
      have e1 : taE has (n : Int) = 7 := by simp [taE, hn, ht]
      have e2 : taS has (n : Int) = has := taS_taken _ _ ht
      rw [ht] at HK
      rw [e1, e2]
      clear h e1 e2 hn ht g1 g2
      go_enter Tryd.func70, Tryd.ntmps70
      go_wp2_with fail
      refine HR.out.mono ?_
      rintro e w' ⟨rfl, hw⟩
      obtain rfl := hw.symm
      go_wp2_with fail
      refine HK.out.mono ?_
      rintro e w' ⟨rfl, m, rfl⟩
      go_wp2
      go_ret
      exact ⟨by simp, HH.out.drewN m, (Fr.refl _ _).drewN m⟩
    | false =>
      have e1 : taE has (n : Int) = 0 := by simp [taE, hn, ht]
      have e2 : taS has (n : Int) = has.set n (!has[n]) := by
        rw [isT_nat has n hlt] at ht
        simp [taS, hn, ht]
      have HT := hid (fun m => s_turn (h.drewN m) n hlt)
      rw [ht] at HK
      rw [e1, e2]
      clear h e1 e2 hn ht g1 g2
      generalize has.set n (!has[n]) = has' at *
      go_enter Tryd.func70, Tryd.ntmps70
      go_wp2_with fail
      refine HR.out.mono ?_
      rintro e w' ⟨rfl, hw⟩
      obtain rfl := hw.symm
      go_wp2_with fail
      refine HK.out.mono ?_
      rintro e w' ⟨rfl, m, rfl⟩
      go_wp2_with fail
      refine (HT.out m).mono ?_
      rintro e w1 ⟨rfl, h1, f1⟩
      have H1 := hid (And.intro h1 (Fr.trans (Fr.drewN (Fr.refl (fun i => i = b) w) m) f1))
      clear h1 f1
      go_wp2
      go_ret
      exact ⟨by simp, H1.out⟩
set_option maxRecDepth 20000 in
theorem s_give {w : World} {a b : Nat} {has : List Bool} (h : Sh w a b has) (k : Int) :
    Calls Tryd.prog 53 #[.pointer (some ⟨a, 0, none⟩), .int .i64 k] w fun e w' => e = .returned (.int .i64 (giE has k)) ∧ Sh w' a b (giS has k) ∧ Fr (fun i => i = b) w w' := by
  have HR := hid (s_there h k)
  have HK := hid (s_taken h k)
  have HH := hid h
  have HL := hid h.le
  cases hn : hasN has k with
  | false =>
    have e1 : giE has k = 12 := by simp [giE, hn]
    have e2 : giS has k = has := by simp [giS, hn]
    rw [hn] at HR
    rw [e1, e2]
    clear h e1 e2 hn HK
    go_enter Tryd.func53, Tryd.ntmps53
    go_wp2_with fail
    refine HR.out.mono ?_
    rintro e w' ⟨rfl, hw⟩
    obtain rfl := hw.symm
    go_wp2
    go_ret
    exact ⟨by simp, HH.out, Fr.refl _ _⟩
  | true =>
    obtain ⟨g1, g2⟩ := hasN_iff.1 hn
    obtain ⟨n, rfl⟩ : ∃ n : Nat, k = (n : Int) := ⟨k.toNat, by omega⟩
    have hlt : n < has.length := by omega
    rw [hn] at HR
    cases ht : isT has (n : Int) with
    | false =>
      have e1 : giE has (n : Int) = 13 := by simp [giE, hn, ht]
      have e2 : giS has (n : Int) = has := giS_free _ _ ht
      rw [ht] at HK
      rw [e1, e2]
      clear h e1 e2 hn ht g1 g2
      go_enter Tryd.func53, Tryd.ntmps53
      go_wp2_with fail
      refine HR.out.mono ?_
      rintro e w' ⟨rfl, hw⟩
      obtain rfl := hw.symm
      go_wp2_with fail
      refine HK.out.mono ?_
      rintro e w' ⟨rfl, m, rfl⟩
      go_wp2
      go_ret
      exact ⟨by simp, HH.out.drewN m, (Fr.refl _ _).drewN m⟩
    | true =>
      have e1 : giE has (n : Int) = 0 := by simp [giE, hn, ht]
      have e2 : giS has (n : Int) = has.set n (!has[n]) := by
        rw [isT_nat has n hlt] at ht
        simp [giS, hn, ht]
      have HT := hid (fun m => s_turn (h.drewN m) n hlt)
      rw [ht] at HK
      rw [e1, e2]
      clear h e1 e2 hn ht g1 g2
      generalize has.set n (!has[n]) = has' at *
      go_enter Tryd.func53, Tryd.ntmps53
      go_wp2_with fail
      refine HR.out.mono ?_
      rintro e w' ⟨rfl, hw⟩
      obtain rfl := hw.symm
      go_wp2_with fail
      refine HK.out.mono ?_
      rintro e w' ⟨rfl, m, rfl⟩
      go_wp2_with fail
      refine (HT.out m).mono ?_
      rintro e w1 ⟨rfl, h1, f1⟩
      have H1 := hid (And.intro h1 (Fr.trans (Fr.drewN (Fr.refl (fun i => i = b) w) m) f1))
      clear h1 f1
      go_wp2
      go_ret
      exact ⟨by simp, H1.out⟩
end Go.Proofs.YthndakhnhnipnaaDoor.Sf
