/-
  The law's own example of sixteen bytes: it answers true.
-/
import Derived.Test.YtlikfcdlgkbnoaaMine
namespace Go.Proofs.Ytlikfcdlgkbnoaa
open Go.RowKit

theorem awake_bytes : (((over (List.replicate 16 0) 8 (leb 258 8)).drop 8).take 2).toArray = #[2, 1] := by decide

set_option maxHeartbeats 1000000 in
theorem awake_any (w : World) : Calls Try.prog 9 #[] w fun e w' => e = .returned (.bool true) ∧ Fr (fun _ => False) w w' := by
  have HNew : Hid (Calls Try.prog 10 #[.int .i64 16] w fun e w' => ∃ a b B, e = .returned (.tuple #[.pointer (some ⟨a, 0, none⟩), .int .i64 0]) ∧ Mine w w' 61 B a b (List.replicate 16 0) []) := m_new 16 w w (Fr.refl _ _) (by omega)
  go_enter Try.func9, Try.ntmps9
  go_wp2_with fail
  refine HNew.out.mono ?_
  rintro e w1 ⟨a, b, B, rfl, hm⟩
  have HS : Hid (Calls Try.prog 17 #[.pointer (some ⟨a, 0, none⟩), .int .i64 8, .int .u64 258] w1 fun e w' => e = .returned (.int .i64 0) ∧
      Mine w w' 61 B a b (over (List.replicate 16 0) 8 (leb 258 8)) [(8, 8, true)]) := m_store hm 8 258 (by omega) (by simp) (by simp)
  clear hm HNew
  go_wp2_with fail
  refine HS.out.mono ?_
  rintro e w2 ⟨rfl, hm⟩
  have HR : Hid (Calls Try.prog 16 #[.pointer (some ⟨a, 0, none⟩), .int .i64 8, .int .i64 2] w2 fun e w' => e = .returned (.tuple #[.string ⟨#[2, 1]⟩, .int .i64 0]) ∧
      Mine w w' 61 B a b (over (List.replicate 16 0) 8 (leb 258 8)) [(8, 8, true), (8, 2, false)]) := by
    have := m_read hm 8 2 (by decide) (by simp)
    rw [awake_bytes] at this
    exact this
  clear hm HS
  generalize hbs : over (List.replicate 16 0) 8 (leb 258 8) = bs at HR
  have hlen : Hid (bs.length = 16) := by subst hbs; exact (by decide : (over (List.replicate 16 0) 8 (leb 258 8)).length = 16)
  clear hbs
  go_wp2_with fail
  refine HR.out.mono ?_
  rintro e w3 ⟨rfl, hm⟩
  have HL : Hid (Calls Try.prog 18 #[.pointer (some ⟨a, 0, none⟩), .int .i64 9] w3 fun e w' => e = .returned (.tuple #[.int .u64 0, .int .i64 4]) ∧ w' = w3) :=
    m_load_no hm 9 (by omega) (by rw [hlen.out]; decide)
  have HR2 : Hid (Calls Try.prog 16 #[.pointer (some ⟨a, 0, none⟩), .int .i64 16, .int .i64 0] w3 fun e w' => e = .returned (.tuple #[.string ⟨#[]⟩, .int .i64 0]) ∧
      Mine w w' 61 B a b bs [(8, 8, true), (8, 2, false)]) := by
    have := m_read hm 16 0 (by rw [hlen.out]; decide) (by simp)
    simp [noted] at this
    exact this
  clear hm HR
  go_wp2_with fail
  refine HL.out.mono ?_
  rintro e w' ⟨rfl, hw⟩
  obtain rfl := hw.symm
  go_wp2_with fail
  refine HR2.out.mono ?_
  rintro e w4 ⟨rfl, hm⟩
  have HT : Hid (Calls Try.prog 15 #[.pointer (some ⟨a, 0, none⟩)] w4 fun e w' => ∃ ad cap, e = .returned (.slice ad 2 cap) ∧ w'.ownsRow w4.heap.size 58 3 (.slice ad 2 cap) 2 (spcs [(8, 8, true), (8, 2, false)]) ∧
      Mine w w' 61 B a b bs [(8, 8, true), (8, 2, false)]) := m_touched hm (by simp)
  clear hm HR2 HL
  go_wp2_with fail
  refine HT.out.mono ?_
  rintro e w5 ⟨ad, cap, rfl, _, hm⟩
  have HZ : Hid (Calls Try.prog 23 #[.pointer (some ⟨a, 0, none⟩)] w5 fun e w' => e = .returned (.int .i64 16) ∧ w' = w5) := by
    have := m_size hm
    rw [hlen.out] at this
    exact this
  have HF : Hid (Fr (fun _ => False) w w5) := hm.frame
  clear hm HT hlen
  go_wp2_with fail
  refine HZ.out.mono ?_
  rintro e w' ⟨rfl, hw⟩
  obtain rfl := hw.symm
  go_wp2
  go_ret
  exact ⟨rfl, HF.out⟩
end Go.Proofs.Ytlikfcdlgkbnoaa
