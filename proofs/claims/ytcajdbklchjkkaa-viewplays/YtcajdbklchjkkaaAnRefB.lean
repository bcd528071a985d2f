/-
  The document's own arena, the calls with loops.
-/
import Derived.Test.YtcajdbklchjkkaaAnRefA
namespace Go.Proofs.Ytcajdbklchjkkaa.An
open Go.RowKit



set_option maxRecDepth 20000 in
set_option maxHeartbeats 1000000 in
theorem rzero_ok {w : World} {B a b : Nat} {bs : List UInt8} {v : Value} {ss : List Sp} (h : Ar w 51 B a b bs v ss) (p m : Nat) (hin : p + m ≤ bs.length) (hk : ss.length ≤ 1000000) :
    Calls Try.prog 52 #[.pointer (some ⟨a, 0, none⟩), .int .i64 p, .int .i64 m] w fun e w' => e = .returned (.int .i64 0) ∧ Noted w w' 51 B a b (over bs p (List.replicate m (0 : UInt8))) v (noted ss p m true) := by
  have hle := h.le
  have Ht : Hid (Calls Try.prog 61 #[.pointer (some ⟨a, 0, none⟩), .int .i64 p, .int .i64 m] w fun e w' => e = .returned (.bool true) ∧ w' = w) := by
    have ht := rthere_any h p m (by omega)
    rw [inB_true.2 ⟨by omega, by omega, by omega⟩] at ht
    exact ht
  have HN : Hid (Calls Try.prog 62 #[.pointer (some ⟨a, 0, none⟩), .int .i64 p, .int .i64 m, .bool true] w fun e w' => e = .returned (.tuple #[]) ∧ Noted w w' 51 B a b bs v (noted ss p m true)) := rnote_any h p m true hk
  have HDL : Hid (((List.replicate m (0 : UInt8))).length = m) := (List.length_replicate : (List.replicate m (0 : UInt8)).length = m)
  clear h
  go_enter Try.func52, Try.ntmps52
  go_wp2_with fail
  refine Ht.out.mono ?_
  rintro e w' ⟨rfl, hw⟩
  obtain rfl := hw.symm
  go_wp2_with fail
  refine HN.out.mono ?_
  rintro e w1 ⟨rfl, v', har1, hfr1, hfresh⟩
  have H1 : Hid (Ar w1 51 B a b bs v' (noted ss p m true) ∧ Fr (fun y => y = a ∨ y = b ∨ v.ownBlock = some y) w w1 ∧ ∀ y, v'.ownBlock = some y → v.ownBlock = some y ∨ w.heap.size ≤ y) := ⟨har1, hfr1, hfresh⟩
  clear Ht HN har1 hfr1 hfresh
  go_wp2
  go_loopw [7] (fun i wr => ∃ j : Nat, j ≤ m ∧ i = .int .i64 j ∧ Ar wr 51 B a b (over bs p (((List.replicate m (0 : UInt8))).take j)) v' (noted ss p m true) ∧ Fr (fun y => y = b) w1 wr) (fun i _ => m - (intOf i).toNat)
  case atStart => exact ⟨0, by omega, rfl, by simpa [over_nil] using H1.out.1, Fr.refl _ _⟩
  case round =>
    obtain ⟨j, hj, rfl, har, hfr⟩ := hrel
    by_cases hlt : j < m
    · have hl : (over bs p (((List.replicate m (0 : UInt8))).take j)).length = bs.length := over_length _ _ _ (by have := HDL.out; rw [List.length_take]; omega)
      have c0 := har.c0
      rw [hl] at c0
      have hc := row_cell har.by' (p + j) (by rw [hl]; omega)
      have hz := row_frozen har.by' (p + j)
      generalize (over bs p (((List.replicate m (0 : UInt8))).take j))[p + j].toNat = old at hc
      have HA : Hid (Ar (wr.setCell ⟨b, p + j, none⟩ (.int .u8 ((((List.replicate m (0 : UInt8)))[j]'(by rw [HDL.out]; exact hlt)).toNat : Int))) 51 B a b (over bs p (((List.replicate m (0 : UInt8))).take (j + 1))) v' (noted ss p m true)) := lay_step har (by rw [HDL.out]; exact hlt) (by rw [HDL.out]; exact hin)
      have HF : Hid (Fr (fun y => y = b) w1 wr) := hfr
      have HAz : Hid (Ar (wr.setCell ⟨b, p + j, none⟩ (.int .u8 0)) 51 B a b (over bs p ((List.replicate m (0 : UInt8)).take (j + 1))) v' (noted ss p m true)) := by
        have h2 := HA.out
        rw [List.getElem_replicate] at h2
        exact h2
      clear har hfr hl
      go_wp2
      go_roundw
      case rel => exact ⟨j + 1, by omega, by go_num, HAz.out, HF.out.setCell rfl _⟩
      case measure => simp [intOf]; omega
    · have HA : Hid (Ar wr 51 B a b (over bs p (List.replicate m (0 : UInt8))) v' (noted ss p m true)) := by
        rw [List.take_of_length_le (by rw [HDL.out]; omega)] at har
        exact har
      have HF : Hid (Fr (fun y => y = b) w1 wr) := hfr
      clear har hfr
      go_wp2
      go_ret
      exact ⟨rfl, Noted.laid H1.out.2.1 H1.out.2.2 HA.out HF.out⟩

set_option maxRecDepth 20000 in
set_option maxHeartbeats 1000000 in
theorem rwrite_ok {w : World} {B a b : Nat} {bs : List UInt8} {v : Value} {ss : List Sp} (h : Ar w 51 B a b bs v ss) (p : Nat) (s : ByteArray) (hin : p + s.size ≤ bs.length) (hk : ss.length ≤ 1000000) :
    Calls Try.prog 51 #[.pointer (some ⟨a, 0, none⟩), .int .i64 p, .string s] w fun e w' => e = .returned (.int .i64 0) ∧ Noted w w' 51 B a b (over bs p s.data.toList) v (noted ss p s.size true) := by
  have hle := h.le
  have Ht : Hid (Calls Try.prog 61 #[.pointer (some ⟨a, 0, none⟩), .int .i64 p, .int .i64 s.size] w fun e w' => e = .returned (.bool true) ∧ w' = w) := by
    have ht := rthere_any h p s.size (by omega)
    rw [inB_true.2 ⟨by omega, by omega, by omega⟩] at ht
    exact ht
  have HN : Hid (Calls Try.prog 62 #[.pointer (some ⟨a, 0, none⟩), .int .i64 p, .int .i64 s.size, .bool true] w fun e w' => e = .returned (.tuple #[]) ∧ Noted w w' 51 B a b bs v (noted ss p s.size true)) := rnote_any h p s.size true hk
  have HDL : Hid ((s.data.toList).length = s.size) := (len_list s : s.data.toList.length = s.size)
  clear h
  go_enter Try.func51, Try.ntmps51
  go_wp2_with fail
  refine Ht.out.mono ?_
  rintro e w' ⟨rfl, hw⟩
  obtain rfl := hw.symm
  go_wp2_with fail
  refine HN.out.mono ?_
  rintro e w1 ⟨rfl, v', har1, hfr1, hfresh⟩
  have H1 : Hid (Ar w1 51 B a b bs v' (noted ss p s.size true) ∧ Fr (fun y => y = a ∨ y = b ∨ v.ownBlock = some y) w w1 ∧ ∀ y, v'.ownBlock = some y → v.ownBlock = some y ∨ w.heap.size ≤ y) := ⟨har1, hfr1, hfresh⟩
  clear Ht HN har1 hfr1 hfresh
  go_wp2
  go_loopw [7] (fun i wr => ∃ j : Nat, j ≤ s.size ∧ i = .int .i64 j ∧ Ar wr 51 B a b (over bs p ((s.data.toList).take j)) v' (noted ss p s.size true) ∧ Fr (fun y => y = b) w1 wr) (fun i _ => s.size - (intOf i).toNat)
  case atStart => exact ⟨0, by omega, rfl, by simpa [over_nil] using H1.out.1, Fr.refl _ _⟩
  case round =>
    obtain ⟨j, hj, rfl, har, hfr⟩ := hrel
    by_cases hlt : j < s.size
    · have hl : (over bs p ((s.data.toList).take j)).length = bs.length := over_length _ _ _ (by have := HDL.out; rw [List.length_take]; omega)
      have c0 := har.c0
      rw [hl] at c0
      have hc := row_cell har.by' (p + j) (by rw [hl]; omega)
      have hz := row_frozen har.by' (p + j)
      generalize (over bs p ((s.data.toList).take j))[p + j].toNat = old at hc
      have HA : Hid (Ar (wr.setCell ⟨b, p + j, none⟩ (.int .u8 (((s.data.toList)[j]'(by rw [HDL.out]; exact hlt)).toNat : Int))) 51 B a b (over bs p ((s.data.toList).take (j + 1))) v' (noted ss p s.size true)) := lay_step har (by rw [HDL.out]; exact hlt) (by rw [HDL.out]; exact hin)
      have HF : Hid (Fr (fun y => y = b) w1 wr) := hfr
      
      clear har hfr hl
      go_wp2
      go_region
      go_wp2
      go_roundw
      case rel => exact ⟨j + 1, by omega, by go_num, HA.out.drew, (HF.out.setCell rfl _).drew⟩
      case measure => simp [intOf]; omega
    · have HA : Hid (Ar wr 51 B a b (over bs p s.data.toList) v' (noted ss p s.size true)) := by
        rw [List.take_of_length_le (by rw [HDL.out]; omega)] at har
        exact har
      have HF : Hid (Fr (fun y => y = b) w1 wr) := hfr
      clear har hfr
      go_wp2
      go_ret
      exact ⟨rfl, Noted.laid H1.out.2.1 H1.out.2.2 HA.out HF.out⟩

theorem cut_get (l : List UInt8) (j : Nat) (hj : j < l.length) : ((ByteArray.mk l.toArray)[j]'hj).toNat = (l[j]).toNat := rfl

end Go.Proofs.Ytcajdbklchjkkaa.An
