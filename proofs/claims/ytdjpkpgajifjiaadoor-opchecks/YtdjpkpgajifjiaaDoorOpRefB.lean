/-
  What the document says of operations: words.
-/
import Derived.Test.YtdjpkpgajifjiaaDoorOpRef
import Derived.LoopTactic
namespace Go.Proofs.YtdjpkpgajifjiaaDoor
open Go.RowKit

theorem text_eq (a b : ByteArray) : (a.toList == b.toList) = decide (a = b) := by
  rw [ByteArray.toList_eq, ByteArray.toList_eq]
  by_cases h : a = b
  · subst h; simp
  · rw [decide_eq_false h]
    have : a.data.toList ≠ b.data.toList := fun e => h (by
      cases a; cases b
      simp only at e
      rw [Array.toList_inj] at e
      rw [e])
    simpa using this
/-- The words lie in a block of their own. -/
def Wds (w : World) (B : Nat) : Prop := ∀ j : Nat, j < 12 → w.cell? ⟨B, j, none⟩ = some (.string (wdS j))
theorem Wds.kept {w w' : World} {B : Nat} (h : Wds w B) (hl : B < w.heap.size) (f : Fr (fun _ => False) w w') : Wds w' B := fun j hj => (World.cell?_of_block (f.block B hl id)).trans (h j hj)
set_option maxRecDepth 20000 in
set_option maxHeartbeats 1000000 in
theorem q_words (w : World) : Calls Tryd.prog 23 #[] w fun e w' => ∃ B, e = .returned (.slice (some ⟨B, 0, none⟩) 12 12) ∧ Wds w' B ∧ Fr (fun _ => False) w w' := by
  go_enter Tryd.func23, Tryd.ntmps23
  go_wp2
  go_ret
  have key : ∀ (cs : Array Value) (T : TypeId) (j : Nat), (w.alloc (.cells cs T)).cell? ⟨w.heap.size, j, none⟩ = cs[j]? := fun cs T j => by
    have := heap_alloc_new w (.cells cs T)
    simp only [World.cell?, this]
    rfl
  refine ⟨w.heap.size, by simp, fun j hj => ?_, (Fr.refl _ _).alloc _⟩
  rw [key]
  rcases (by omega : j = 0 ∨ j = 1 ∨ j = 2 ∨ j = 3 ∨ j = 4 ∨ j = 5 ∨ j = 6 ∨ j = 7 ∨ j = 8 ∨ j = 9 ∨ j = 10 ∨ j = 11) with rfl | rfl | rfl | rfl | rfl | rfl | rfl | rfl | rfl | rfl | rfl | rfl <;> rfl
set_option maxRecDepth 20000 in
set_option maxHeartbeats 1000000 in
theorem q_word (k : Int) (w : World) : Calls Tryd.prog 13 #[.int .i64 k] w fun e w' => e = .returned (.string (opW k)) ∧ Fr (fun _ => False) w w' := by
  have HW := hid q_words
  by_cases h1 : 1 ≤ k
  case neg =>
    have e : opW k = ⟨#[]⟩ := if_neg fun m => h1 m.1
    rw [e]
    clear e
    go_enter Tryd.func13, Tryd.ntmps13
    go_wp2
    go_ret
    exact ⟨by simp, Fr.refl _ _⟩
  by_cases h2 : k ≤ 11
  case neg =>
    have e : opW k = ⟨#[]⟩ := if_neg fun m => h2 m.2
    rw [e]
    clear e
    go_enter Tryd.func13, Tryd.ntmps13
    go_wp2
    go_ret
    exact ⟨by simp, Fr.refl _ _⟩
  obtain ⟨n, rfl⟩ := Int.eq_ofNat_of_zero_le (show 0 ≤ k by omega)
  have e : opW n = wdS n := by unfold opW; rw [if_pos ⟨h1, h2⟩]; rfl
  rw [e]
  clear e
  go_enter Tryd.func13, Tryd.ntmps13
  go_wp2_with fail
  refine (HW.out _).mono ?_
  rintro e w1 ⟨B, rfl, h1, f1⟩
  have hc := h1 n (by omega)
  have F1 := hid f1
  clear h1 f1 HW
  go_wp2
  go_ret
  exact ⟨by simp, F1.out⟩
set_option maxRecDepth 20000 in
set_option maxHeartbeats 1000000 in
theorem q_kind (s : ByteArray) (w : World) : Calls Tryd.prog 15 #[.string s] w fun e w' => e = .returned (.int .i64 (opK s)) ∧ Fr (fun _ => False) w w' := by
  have HW := hid q_words
  go_enter Tryd.func15, Tryd.ntmps15
  go_wp2
  go_loopw [3] (fun i wr => ∃ j : Nat, j ≤ 11 ∧ i = .int .i64 ((j + 1 : Nat) : Int) ∧ Hid (opK s = wdF s (j + 1) (11 - j)) ∧ Hid (Fr (fun _ => False) w wr)) (fun i _ => 12 - (intOf i).toNat)
  case atStart => exact ⟨0, by omega, rfl, rfl, Fr.refl _ _⟩
  case round =>
    obtain ⟨j, hj, rfl, HE, HF⟩ := hrel
    by_cases hlt : j < 11
    · go_wp2_with fail
      refine (HW.out _).mono ?_
      rintro e w1 ⟨B, rfl, h1, f1⟩
      have hc := h1 (j + 1) (by omega)
      have F1 := hid (HF.out.trans f1)
      clear h1 f1 HF
      have hun : wdF s (j + 1) (11 - j) = if wdS (j + 1) = s then ((j + 1 : Nat) : Int) else wdF s (j + 2) (10 - j) := by
        rw [show 11 - j = (10 - j) + 1 by omega]
        rfl
      have HUN := hid (HE.out.trans hun)
      have hte := text_eq (wdS (j + 1)) s
      clear HE hun
      by_cases he : wdS (j + 1) = s
      · rw [decide_eq_true he] at hte
        have e0 : Hid (opK s = ((j + 1 : Nat) : Int)) := by show _ = _; rw [HUN.out, if_pos he]
        clear HUN he HW
        go_wp2
        go_ret
        exact ⟨by rw [e0.out]; simp, F1.out⟩
      · rw [decide_eq_false he] at hte
        have e0 : Hid (opK s = wdF s (j + 1 + 1) (11 - (j + 1))) := by show _ = _; rw [HUN.out, if_neg he, show 11 - (j + 1) = 10 - j by omega]
        clear HUN he
        go_wp2
        go_roundw
        case rel => exact ⟨j + 1, by omega, by go_num, e0, F1⟩
        case measure => simp [intOf]; omega
    · obtain rfl : j = 11 := by omega
      have e0 : Hid (opK s = 0) := HE.out
      go_wp2
      go_ret
      exact ⟨by rw [e0.out]; simp, HF.out⟩
end Go.Proofs.YtdjpkpgajifjiaaDoor
