/-
  The law's own 'had': some block's number, or -1.
-/
import Derived.Test.YthndakhnhnipnaaDoorPaAwake
import Derived.Test.YthndakhnhnipnaaDoorLists2
namespace Go.Proofs.YthndakhnhnipnaaDoor
open Go.RowKit
open An

theorem modu (x : Int) (m : Nat) (M : Int) (hM : M = (m : Int)) (h0 : 0 < m) (h1 : m ≤ 65536) : ∃ n : Nat, wrap64 ((IntKind.u64.wrap x).tmod M) = (n : Int) ∧ n < m := by
  subst hM
  have hu : 0 ≤ IntKind.u64.wrap x := by rw [IntKind.wrap_u64]; omega
  have he : (IntKind.u64.wrap x).tmod (m : Int) = (IntKind.u64.wrap x) % (m : Int) := Int.tmod_eq_emod_of_nonneg hu
  have h2 := Int.emod_nonneg (IntKind.u64.wrap x) (b := (m : Int)) (by omega)
  have h3 := Int.emod_lt_of_pos (IntKind.u64.wrap x) (b := (m : Int)) (by omega)
  refine ⟨((IntKind.u64.wrap x) % (m : Int)).toNat, ?_, by omega⟩
  rw [he]
  generalize (IntKind.u64.wrap x) % (m : Int) = z at *
  unfold wrap64
  omega
set_option maxRecDepth 20000 in
set_option maxHeartbeats 2000000 in
theorem had_any {w : World} {p : Nat} {hd : Nat → Bool} (hlt : p < w.heap.size) (hc : ∀ i, i < 32 → w.cell? ⟨p, 4 + i, none⟩ = some (.bool (hd i))) (k : Int) : Calls Tryd.prog 12 #[.pointer (some ⟨p, 0, none⟩), .int .i64 k] w fun e w' => (∃ v : Int, e = .returned (.int .i64 v) ∧ -1 ≤ v ∧ v ≤ 31) ∧ Fr (fun _ => False) w w' := by
  have HC := hid hc
  have HL := hid hlt
  clear hc hlt
  go_enter Tryd.func12, Tryd.ntmps12
  go_wp2
  go_loopw [5, 6, 7] (fun y _ n wr => ∃ (j : Nat) (l : List Int), j ≤ 32 ∧ n = .int .i64 j ∧ l.length ≤ j ∧ wr.ownsRow w.heap.size 3 1 y l.length (ic l) ∧ (∀ x ∈ l, 0 ≤ x ∧ x ≤ 31) ∧ Fr (fun _ => False) w wr) (fun _ _ n _ => 32 - (intOf n).toNat)
  case atStart => exact ⟨0, [], by omega, rfl, by simp, ⟨rfl, .inl ⟨rfl, rfl⟩⟩, fun x hx => by simp at hx, Fr.refl _ _⟩
  case round =>
    obtain ⟨j, l, hj, rfl, hll, hrow, hall, hf⟩ := hrel
    by_cases hlt : j < 32
    · have hcell := (World.cell?_of_block (hf.block p HL.out id)).trans (HC.out j hlt)
      have HA := hid hall
      have HF := hid hf
      have HR := hid hrow
      have hbs : w.heap.size ≤ wr.heap.size := hf.size
      clear hrow hall hf
      cases hb : hd j with
      | false =>
        rw [hb] at hcell
        go_wp2
        go_roundw
        case rel => exact ⟨j + 1, l, by omega, by go_num, by omega, HR.out, HA.out, HF.out⟩
        case measure => simp [intOf]; omega
      | true =>
        rw [hb] at hcell
        go_wp2_with (at_builtin; refine push1s rfl (.tmp 16) (.tmp 18) rfl w.heap.size _ _ (j : Int) rfl (HR.out.alloc _) wr.heap.size rfl (by simp) (by omega) (by simp; omega) ?_)
        intro g cap6 w6 hown hg hw6
        have HO := hid hown
        have HF6 : Hid (Fr (fun _ => False) w w6) := (HF.out.alloc _).grown hg fun k e => .inr (HR.out.lt k e).1
        have HA6 : Hid (∀ x ∈ l ++ [(j : Int)], 0 ≤ x ∧ x ≤ 31) := fun x hx => by
          rw [List.mem_append, List.mem_singleton] at hx
          rcases hx with hx | rfl
          · exact HA.out x hx
          · omega
        clear hown hg hw6 HR HA HF
        go_wp2
        go_roundw
        case rel => exact ⟨j + 1, l ++ [(j : Int)], by omega, by go_num, by simp; omega, by simpa using HO.out, HA6.out, HF6.out⟩
        case measure => simp [intOf]; omega
    · have HF := hid hf
      obtain ⟨yad, ycap, rfl, hnum, _⟩ := row_list hrow
      clear hrow hf
      by_cases h0 : l.length = 0
      · rw [h0]
        clear h0 hnum hall hll
        go_wp2
        go_ret
        exact ⟨⟨-1, by simp, by omega, by omega⟩, HF.out⟩
      · obtain ⟨n, hn, hnl⟩ := modu k l.length l.length rfl (by omega) (by omega)
        obtain ⟨bb, off, rfl, hbb, hcx⟩ := hnum n hnl
        have hx := hid (hall _ (List.getElem_mem hnl))
        clear hall hnum
        generalize l[n] = x at *
        generalize l.length = m at *
        have hb : ((m : Int) == 0) = false := by simp; omega
        have hw0 : IntKind.u64.wrap (m : Int) = (m : Int) := by rw [IntKind.wrap_u64]; omega
        go_wp2_with fail
        go_ret
        exact ⟨⟨x, by simp, by have := hx.out; omega, by have := hx.out; omega⟩, HF.out⟩
end Go.Proofs.YthndakhnhnipnaaDoor
