/-
  ShelfOrder's walk.
-/
import Derived.Test.YtifoeakgefgddaaDoorShMine
namespace Go.Proofs.YtifoeakgefgddaaDoor
open Go.RowKit

/-- 'int(uint(n) % m)' is a number below m. -/
theorem modu (x : Int) (m : Nat) (M : Int) (hM : M = (m : Int)) (h0 : 0 < m) (h1 : m ≤ 65536) : ∃ n : Nat, wrap64 ((IntKind.u64.wrap x).tmod M) = (n : Int) ∧ n < m := by
  subst hM
  have hx : 0 ≤ IntKind.u64.wrap x := by rw [IntKind.wrap_u64]; omega
  generalize IntKind.u64.wrap x = y at *
  rw [Int.tmod_eq_emod_of_nonneg hx]
  have h2 := Int.emod_nonneg y (b := (m : Int)) (by omega)
  have h3 := Int.emod_lt_of_pos y (b := (m : Int)) (by omega)
  generalize y % (m : Int) = z at *
  refine ⟨z.toNat, ?_, by omega⟩
  unfold wrap64
  omega
theorem fresh_zero (n : Nat) : fresh 0 n = List.replicate n false := by simp [fresh]

set_option maxRecDepth 20000 in
set_option maxHeartbeats 1000000 in
theorem order_walk (x : Int) (w : World) (hT : Tab w) :
    Calls Tryd.prog 4 #[.int .i64 x] w fun e w' => e = .returned (.bool true) ∧ Fr (fun _ => False) w w' := by
  obtain ⟨n, hn, hnl⟩ := modu x 3000 3000 rfl (by decide) (by decide)
  have HN := hid (m_new (W := w) n (Fr.refl _ w) (by omega) hT)
  have HT := hid hT
  clear hT
  go_enter Tryd.func4, Tryd.ntmps4
  go_wp2_with fail
  refine HN.out.mono ?_
  rintro e w1 ⟨a, b, rfl, h1⟩
  have HA := hid (awake_any w1 h1.sh.tab)
  have H1 := hid h1
  clear h1 HN
  go_wp2_with fail
  refine HA.out.mono ?_
  rintro e w2 ⟨rfl, f2⟩
  have H2 : Hid (Mine w w2 a b (fresh 0 n)) := by
    rw [fresh_zero]
    exact H1.out.kept f2 (fun i h => h.elim)
  clear H1 f2 HA
  go_wp2
  go_loopw [5, 6, 7, 24] (fun _ _ _ i wr => ∃ j : Nat, j ≤ n ∧ i = .int .i64 j ∧ Mine w wr a b (fresh j (n - j))) (fun _ _ _ i _ => n - (intOf i).toNat)
  case atStart => exact ⟨0, by omega, rfl, H2.out⟩
  case round =>
    obtain ⟨j, hj, rfl, hm⟩ := hrel
    by_cases hlt : j < n
    · have HC : Hid (Calls Tryd.prog 13 #[.pointer (some ⟨a, 0, none⟩)] wr fun e w' => e = .returned (.tuple #[.int .i64 j, .int .i64 0]) ∧ Mine w w' a b (fresh (j + 1) (n - (j + 1)))) := by
        have := m_take hm
        rw [show n - j = (n - (j + 1)) + 1 by omega] at this
        obtain ⟨e1, e2, e3⟩ := fresh_take j (n - (j + 1))
        rw [e1, e2, e3] at this
        exact this
      clear hm H2
      go_wp2_with fail
      refine HC.out.mono ?_
      rintro e w3 ⟨rfl, h3⟩
      have H3 := hid h3
      clear h3 HC
      go_wp2
      go_roundw
      case rel => exact ⟨j + 1, by omega, by go_num, H3.out⟩
      case measure => simp [intOf]; omega
    · obtain rfl : j = n := by omega
      obtain ⟨e1, e2, e3⟩ := fresh_end j
      have HC : Hid (Calls Tryd.prog 13 #[.pointer (some ⟨a, 0, none⟩)] wr fun e w' => e = .returned (.tuple #[.int .i64 (takV (fresh j 0)), .int .i64 13]) ∧ Mine w w' a b (fresh j 0)) := by
        have := m_take hm
        rw [Nat.sub_self, e1, e3] at this
        exact this
      have HE := hid e2
      clear hm H2 e1 e2 e3
      go_wp2_with fail
      refine HC.out.mono ?_
      rintro e w3 ⟨rfl, h3⟩
      have HF : Hid (Calls Tryd.prog 15 #[.pointer (some ⟨a, 0, none⟩)] w3 fun e w' => e = .returned (.int .i64 0) ∧ Mine w w' a b (fresh j 0)) := by
        have := m_free h3
        rw [HE.out] at this
        exact this
      clear h3 HC
      go_wp2_with fail
      refine HF.out.mono ?_
      rintro e w4 ⟨rfl, h4⟩
      have H4 := hid h4.fr
      clear h4 HF
      go_wp2
      go_ret
      exact ⟨by simp, H4.out⟩
end Go.Proofs.YtifoeakgefgddaaDoor
