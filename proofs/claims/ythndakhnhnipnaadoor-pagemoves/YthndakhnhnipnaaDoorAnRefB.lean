/-
  The document's own arena, the calls with loops.
-/
import Derived.Test.YthndakhnhnipnaaDoorAnRefA
namespace Go.Proofs.YthndakhnhnipnaaDoor.An
open Go.RowKit

set_option maxRecDepth 20000 in
set_option maxHeartbeats 1000000 in
theorem rload_ok {w : World} {B a b : Nat} {bs : List UInt8} {v : Value} {ss : List Sp} (h : Ar w 56 B a b bs v ss) (p : Nat) (hin : p + 8 ≤ bs.length) (hk : ss.length ≤ 1000000) :
    Calls Tryd.prog 71 #[.pointer (some ⟨a, 0, none⟩), .int .i64 p] w fun e w' => e = .returned (.tuple #[.int .u64 (word ((bs.drop p).take 8)), .int .i64 0]) ∧ Noted w w' 56 B a b bs v (ss ++ [((p : Int), (8 : Int), false)]) := by
  have hle := h.le
  have Ht : Hid (Calls Tryd.prog 78 #[.pointer (some ⟨a, 0, none⟩), .int .i64 p, .int .i64 8] w fun e w' => e = .returned (.bool true) ∧ w' = w) := by
    have ht := rthere_any h p 8 (by omega)
    rw [inB_true.2 ⟨by omega, by omega, by omega⟩] at ht
    exact ht
  have HN : Hid (Calls Tryd.prog 79 #[.pointer (some ⟨a, 0, none⟩), .int .i64 p, .int .i64 8, .bool false] w fun e w' => e = .returned (.tuple #[]) ∧ Noted w w' 56 B a b bs v (ss ++ [((p : Int), (8 : Int), false)])) := rnote_pos h p 8 false hk (by omega)
  clear h
  go_enter Tryd.func71, Tryd.ntmps71
  go_wp2_with fail
  refine Ht.out.mono ?_
  rintro e w' ⟨rfl, hw⟩
  obtain rfl := hw.symm
  go_wp2_with fail
  refine HN.out.mono ?_
  rintro e w1 ⟨rfl, v', har, hfr, hfresh⟩
  have c0 := har.c0
  have HC : Hid (∀ j (hj : p + j < bs.length), w1.cell? ⟨b, p + j, none⟩ = some (.int .u8 ((bs[p + j]'hj).toNat : Int))) := fun j hj => row_cell har.by' (p + j) hj
  have HNt : Hid (Noted w w1 56 B a b bs v (ss ++ [((p : Int), (8 : Int), false)])) := ⟨v', har, hfr, hfresh⟩
  clear Ht HN har hfr hfresh
  go_wp2
  go_loop [6, 7] (fun acc i => ∃ j : Nat, j ≤ 8 ∧ i = .int .i64 ((j : Int) - 1) ∧ acc = .int .u64 (word ((bs.drop (p + j)).take (8 - j)))) (fun _ i => (intOf i + 1).toNat)
  case atStart => exact ⟨8, by omega, rfl, by simp [word]⟩
  case round =>
    obtain ⟨j, hj, rfl, rfl⟩ := hrel
    by_cases hlt : 0 < j
    · obtain ⟨i, rfl⟩ : ∃ i, j = i + 1 := ⟨j - 1, by omega⟩
      have hc := HC.out i (by omega)
      have e1 : ((i + 1 : Nat) : Int) - 1 = (i : Int) := by omega
      have e2 : 8 - i = (8 - (i + 1)) + 1 := by omega
      have HST : Hid (IntKind.u64.wrap (IntKind.u64.wrap ((word ((bs.drop (p + (i + 1))).take (8 - (i + 1))) : Int) * 256) + IntKind.u64.wrap ((bs[p + i]'(by omega)).toNat : Int)) = (word ((bs.drop (p + i)).take (8 - i)) : Int)) := by
        rw [e2, word_take_cons bs (p + i) (by omega) (8 - (i + 1))]
        exact wrap_word _ _ (by simp; omega)
      rw [e1]
      clear e1 e2
      generalize word ((bs.drop (p + (i + 1))).take (8 - (i + 1))) = u at *
      generalize bs[p + i].toNat = by0 at *
      go_wp2
      go_round
      case rel => exact ⟨i, by omega, rfl, by rw [HST.out]⟩
      case measure => simp [intOf]
    · obtain rfl : j = 0 := by omega
      clear HC
      go_wp2
      go_ret2
      exact ⟨by simp, HNt.out⟩

set_option maxRecDepth 20000 in
set_option maxHeartbeats 1000000 in
theorem rstore_ok {w : World} {B a b : Nat} {bs : List UInt8} {v : Value} {ss : List Sp} (h : Ar w 56 B a b bs v ss) (p u : Nat) (_hu : u < 18446744073709551616) (hin : p + 8 ≤ bs.length) (hk : ss.length ≤ 1000000) :
    Calls Tryd.prog 72 #[.pointer (some ⟨a, 0, none⟩), .int .i64 p, .int .u64 u] w fun e w' => e = .returned (.int .i64 0) ∧ Noted w w' 56 B a b (over bs p (leb u 8)) v (ss ++ [((p : Int), (8 : Int), true)]) := by
  have hle := h.le
  have Ht : Hid (Calls Tryd.prog 78 #[.pointer (some ⟨a, 0, none⟩), .int .i64 p, .int .i64 8] w fun e w' => e = .returned (.bool true) ∧ w' = w) := by
    have ht := rthere_any h p 8 (by omega)
    rw [inB_true.2 ⟨by omega, by omega, by omega⟩] at ht
    exact ht
  have HN : Hid (Calls Tryd.prog 79 #[.pointer (some ⟨a, 0, none⟩), .int .i64 p, .int .i64 8, .bool true] w fun e w' => e = .returned (.tuple #[]) ∧ Noted w w' 56 B a b bs v (ss ++ [((p : Int), (8 : Int), true)])) := rnote_pos h p 8 true hk (by omega)
  clear h
  go_enter Tryd.func72, Tryd.ntmps72
  go_wp2_with fail
  refine Ht.out.mono ?_
  rintro e w' ⟨rfl, hw⟩
  obtain rfl := hw.symm
  go_wp2_with fail
  refine HN.out.mono ?_
  rintro e w1 ⟨rfl, v', har1, hfr1, hfresh⟩
  have H1 : Hid (Ar w1 56 B a b bs v' (ss ++ [((p : Int), (8 : Int), true)]) ∧ Fr (fun y => y = a ∨ y = b ∨ v.ownBlock = some y) w w1 ∧ ∀ y, v'.ownBlock = some y → v.ownBlock = some y ∨ w.heap.size ≤ y) := ⟨har1, hfr1, hfresh⟩
  clear Ht HN har1 hfr1 hfresh
  go_wp2
  go_loopw [2, 7] (fun q i wr => ∃ j : Nat, j ≤ 8 ∧ i = .int .i64 j ∧ q = .int .u64 ((u / 256 ^ j : Nat) : Int) ∧ Ar wr 56 B a b (over bs p (leb u j)) v' (ss ++ [((p : Int), (8 : Int), true)]) ∧ Fr (fun y => y = b) w1 wr) (fun _ i _ => 8 - (intOf i).toNat)
  case atStart => exact ⟨0, by omega, rfl, by simp, by simpa [leb, over_nil] using H1.out.1, Fr.refl _ _⟩
  case round =>
    obtain ⟨j, hj, rfl, rfl, har, hfr⟩ := hrel
    by_cases hlt : j < 8
    · have hl : (over bs p (leb u j)).length = bs.length := over_length _ _ _ (by rw [leb_length]; omega)
      have c0 := har.c0
      rw [hl] at c0
      have hc := row_cell har.by' (p + j) (by rw [hl]; omega)
      have hz := row_frozen har.by' (p + j)
      generalize (over bs p (leb u j))[p + j].toNat = old at hc
      have HA : Hid (Ar wr 56 B a b (over bs p (leb u j)) v' (ss ++ [((p : Int), (8 : Int), true)])) := har
      have HF : Hid (Fr (fun y => y = b) w1 wr) := hfr
      have HQ : Hid ((u / 256 ^ j) / 256 = u / 256 ^ (j + 1)) := by
        show (u / 256 ^ j) / 256 = u / 256 ^ (j + 1)
        rw [Nat.div_div_eq_div_mul, Nat.pow_succ]
      have HB : Hid ((u : Int) / 2 ^ (8 * j) % 256 = ((u / 256 ^ j : Nat) : Int) % 256) := by
        show (u : Int) / 2 ^ (8 * j) % 256 = ((u / 256 ^ j : Nat) : Int) % 256
        have e1 : (256 : Nat) ^ j = 2 ^ (8 * j) := by rw [Nat.pow_mul]
        rw [e1]; simp
      have hub : u / 256 ^ j < 18446744073709551616 := Nat.lt_of_le_of_lt (Nat.div_le_self _ _) _hu
      clear har hfr hl
      generalize u / 256 ^ j = uq at *
      go_wp2
      go_roundw
      case rel => exact ⟨j + 1, by omega, by go_num, by rw [← HQ.out]; simp, by rw [← HB.out]; exact store_round HA.out (by omega), HF.out.setCell rfl _⟩
      case measure => simp [intOf]; omega
    · obtain rfl : j = 8 := by omega
      have HA : Hid (Ar wr 56 B a b (over bs p (leb u 8)) v' (ss ++ [((p : Int), (8 : Int), true)])) := har
      have HF : Hid (Fr (fun y => y = b) w1 wr) := hfr
      clear har hfr
      go_wp2
      go_ret
      exact ⟨rfl, Noted.laid H1.out.2.1 H1.out.2.2 HA.out HF.out⟩

set_option maxRecDepth 20000 in
set_option maxHeartbeats 1000000 in
theorem rzero_ok {w : World} {B a b : Nat} {bs : List UInt8} {v : Value} {ss : List Sp} (h : Ar w 56 B a b bs v ss) (p m : Nat) (hin : p + m ≤ bs.length) (hk : ss.length ≤ 1000000) :
    Calls Tryd.prog 54 #[.pointer (some ⟨a, 0, none⟩), .int .i64 p, .int .i64 m] w fun e w' => e = .returned (.int .i64 0) ∧ Noted w w' 56 B a b (over bs p (List.replicate m (0 : UInt8))) v (noted ss p m true) := by
  have hle := h.le
  have Ht : Hid (Calls Tryd.prog 78 #[.pointer (some ⟨a, 0, none⟩), .int .i64 p, .int .i64 m] w fun e w' => e = .returned (.bool true) ∧ w' = w) := by
    have ht := rthere_any h p m (by omega)
    rw [inB_true.2 ⟨by omega, by omega, by omega⟩] at ht
    exact ht
  have HN : Hid (Calls Tryd.prog 79 #[.pointer (some ⟨a, 0, none⟩), .int .i64 p, .int .i64 m, .bool true] w fun e w' => e = .returned (.tuple #[]) ∧ Noted w w' 56 B a b bs v (noted ss p m true)) := rnote_any h p m true hk
  have HDL : Hid (((List.replicate m (0 : UInt8))).length = m) := (List.length_replicate : (List.replicate m (0 : UInt8)).length = m)
  clear h
  go_enter Tryd.func54, Tryd.ntmps54
  go_wp2_with fail
  refine Ht.out.mono ?_
  rintro e w' ⟨rfl, hw⟩
  obtain rfl := hw.symm
  go_wp2_with fail
  refine HN.out.mono ?_
  rintro e w1 ⟨rfl, v', har1, hfr1, hfresh⟩
  have H1 : Hid (Ar w1 56 B a b bs v' (noted ss p m true) ∧ Fr (fun y => y = a ∨ y = b ∨ v.ownBlock = some y) w w1 ∧ ∀ y, v'.ownBlock = some y → v.ownBlock = some y ∨ w.heap.size ≤ y) := ⟨har1, hfr1, hfresh⟩
  clear Ht HN har1 hfr1 hfresh
  go_wp2
  go_loopw [7] (fun i wr => ∃ j : Nat, j ≤ m ∧ i = .int .i64 j ∧ Ar wr 56 B a b (over bs p (((List.replicate m (0 : UInt8))).take j)) v' (noted ss p m true) ∧ Fr (fun y => y = b) w1 wr) (fun i _ => m - (intOf i).toNat)
  case atStart => exact ⟨0, by omega, rfl, by simpa [over_nil] using H1.out.1, Fr.refl _ _⟩
  case round =>
    obtain ⟨j, hj, rfl, har, hfr⟩ := hrel
    by_cases hlt : j < m
    · have hl : (over bs p (((List.replicate m (0 : UInt8))).take j)).length = bs.length := over_length _ _ _ (by have := HDL.out; rw [List.length_take]; omega)
      have c0 := har.c0
      rw [hl] at c0
      have hc := row_cell har.by' (p + j) (by rw [hl]; omega)
      have hz := row_frozen har.by' (p + j)
      generalize (over bs p (((List.replicate m (0 : UInt8))).take j))[p + j].toNat = old at hc
      have HA : Hid (Ar (wr.setCell ⟨b, p + j, none⟩ (.int .u8 ((((List.replicate m (0 : UInt8)))[j]'(by rw [HDL.out]; exact hlt)).toNat : Int))) 56 B a b (over bs p (((List.replicate m (0 : UInt8))).take (j + 1))) v' (noted ss p m true)) := lay_step har (by rw [HDL.out]; exact hlt) (by rw [HDL.out]; exact hin)
      have HF : Hid (Fr (fun y => y = b) w1 wr) := hfr
      have HAz : Hid (Ar (wr.setCell ⟨b, p + j, none⟩ (.int .u8 0)) 56 B a b (over bs p ((List.replicate m (0 : UInt8)).take (j + 1))) v' (noted ss p m true)) := by
        have h2 := HA.out
        rw [List.getElem_replicate] at h2
        exact h2
      clear har hfr hl
      go_wp2
      go_roundw
      case rel => exact ⟨j + 1, by omega, by go_num, HAz.out, HF.out.setCell rfl _⟩
      case measure => simp [intOf]; omega
    · have HA : Hid (Ar wr 56 B a b (over bs p (List.replicate m (0 : UInt8))) v' (noted ss p m true)) := by
        rw [List.take_of_length_le (by rw [HDL.out]; omega)] at har
        exact har
      have HF : Hid (Fr (fun y => y = b) w1 wr) := hfr
      clear har hfr
      go_wp2
      go_ret
      exact ⟨rfl, Noted.laid H1.out.2.1 H1.out.2.2 HA.out HF.out⟩


theorem cut_get (l : List UInt8) (j : Nat) (hj : j < l.length) : ((ByteArray.mk l.toArray)[j]'hj).toNat = (l[j]).toNat := rfl

end Go.Proofs.YthndakhnhnipnaaDoor.An
