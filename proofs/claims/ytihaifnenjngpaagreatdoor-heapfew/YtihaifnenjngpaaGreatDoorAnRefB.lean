/-
  What the calls of the document's own arena (package garthref01) do: the same contracts.
  The document's own arena, the calls with loops.
-/
import Derived.Test.YtihaifnenjngpaaGreatDoorChBase
namespace Go.Proofs.YtihaifnenjngpaaGreatDoor.An
open Go.RowKit

set_option maxRecDepth 20000 in
set_option maxHeartbeats 400000 in
theorem rthere_any {w : World} {B a b : Nat} {bs : List UInt8} {v : Value} {ss : List Sp} (h : Ar w 68 B a b bs v ss) (x n : Int) (hx : x ≤ 9223372036854775807) :
    Calls Tryz.prog 167 #[.pointer (some ⟨a, 0, none⟩), .int .i64 x, .int .i64 n] w fun e w' => e = .returned (.bool (inB x n bs.length)) ∧ w' = w := by
  have c0 := h.c0
  have hl := h.le
  clear h
  by_cases h1 : 0 ≤ x
  · by_cases h2 : 0 ≤ n
    · by_cases h3 : x ≤ (bs.length : Int)
      · go_enter Tryz.func167, Tryz.ntmps167
        go_wp2
        go_ret
        exact ⟨by simp [inB, h1, h2], rfl⟩
      · go_enter Tryz.func167, Tryz.ntmps167
        go_wp2
        go_ret
        exact ⟨by simp [inB]; omega, rfl⟩
    · go_enter Tryz.func167, Tryz.ntmps167
      go_wp2
      go_ret
      exact ⟨by simp [inB]; omega, rfl⟩
  · go_enter Tryz.func167, Tryz.ntmps167
    go_wp2
    go_ret
    exact ⟨by simp [inB]; omega, rfl⟩

set_option maxRecDepth 20000 in
set_option maxHeartbeats 400000 in
theorem rnote_pos {w : World} {B a b : Nat} {bs : List UInt8} {v : Value} {ss : List Sp} (h : Ar w 68 B a b bs v ss) (x n : Int) (wr : Bool) (hk : ss.length ≤ 1000000) (hn : 0 < n) :
    Calls Tryz.prog 168 #[.pointer (some ⟨a, 0, none⟩), .int .i64 x, .int .i64 n, .bool wr] w fun e w' => e = .returned (.tuple #[]) ∧
      Noted w w' 68 B a b bs v (ss ++ [(x, n, wr)]) := by
  have c1 := h.c1
  have f1 := h.f1
  obtain ⟨i0, hi, hz0, hz1, hz2⟩ := info_parts Tryz.info58
  have hlB := h.lB
  have hla := h.la
  go_enter Tryz.func168, Tryz.ntmps168
  go_wp2_with (at_builtin; refine wpList_append_sep rfl (.tmp 14) (.tmp 19) 66 rfl B 83 i0 (.agg #[.int .i64 0, .int .i64 0, .bool false]) 3 24 Tryz.underlying66 hi hz0 hz1 hz2 rfl (by decide) _ _ _ rfl (h.tr.alloc _) ⟨w.heap.size, 0, none⟩ 1 1 (by decide) [.int .i64 x, .int .i64 n, .bool wr] rfl rfl ?c1 ?c2 ?c3 ?c4 ?c5 ?_)
  case c1 =>
    intro j u hj
    match j, hj with
    | 0, hj => simp at hj; subst hj; simp [Addr.add]
    | 1, hj => simp at hj; subst hj; simp [Addr.add]
    | 2, hj => simp at hj; subst hj; simp [Addr.add]
  case c2 => intro u hu; simp at hu; rcases hu with rfl | rfl | rfl <;> rfl
  case c3 => unfold maxLen; omega
  case c4 => omega
  case c5 => simp; omega
  · intro g cap' w1 hown hgrow hsep
    have hfr : Fr (fun y => y = a ∨ y = b ∨ v.ownBlock = some y) w w1 := ((Fr.refl _ w).alloc _).grown hgrow (fun y hy => .inl (.inr (.inr hy)))
    have hva : v.ownBlock ≠ some a := fun e => by have := (h.own a e).1; omega
    have hvb : v.ownBlock ≠ some b := fun e => by have := (h.own b e).1; have := h.lb; omega
    have hst : w1.heap[a]? = some (.cells #[.slice (some ⟨b, 0, none⟩) bs.length bs.length, v] 68 (0, 0)) := by
      rw [hgrow.block a (by simp; omega) (fun e => hva e.symm), Below.heap_alloc _ _ _ (by omega)]; exact h.st
    have hby : w1.heap[b]? = some (.cells (bc bs).toArray 5 (0, 0)) := by
      rw [hgrow.block b (by have := h.lb; simp; omega) (fun e => hvb e.symm), Below.heap_alloc _ _ _ (by have := h.lb; omega)]; exact h.by'
    have k1 : w1.cell? ⟨a, 1, none⟩ = some v := by simp [World.cell?, hst]
    have e1 : w1.frozen? ⟨a, 1, none⟩ = false := by simp [World.frozen?, hst]
    have hsz : w.heap.size + 1 ≤ w1.heap.size := by have := hgrow.size; simpa using this
    have hfresh : ∀ y, some g = some y → v.ownBlock = some y ∨ w.heap.size ≤ y := by
      rintro y hy
      cases hy
      rcases hsep with h1 | h1
      · exact .inl h1
      · right; rw [h1]; simp
    clear c1 f1 hi hz0 hz1 hz2 hsep
    go_wp2
    go_end0
    refine ⟨rfl, _, ⟨heap_setCell_two hst, ?_, by rw [spcs_append, List.length_append]; exact ownsRow_setCell_below hown hla _, h.la, h.lb, h.ab, h.le, ?_, fun e => by simp at e⟩, hfr.setCell (.inl rfl) _, hfresh⟩
    · rw [Below.heap_setCell _ _ _ _ (fun e => h.ab e.symm)]; exact hby
    · simp [World.setCell]; omega

set_option maxRecDepth 20000 in
theorem rnote_none {w : World} (a : Nat) (x n : Int) (wr : Bool) (hn : ¬ 0 < n) :
    Calls Tryz.prog 168 #[.pointer (some ⟨a, 0, none⟩), .int .i64 x, .int .i64 n, .bool wr] w fun e w' => e = .returned (.tuple #[]) ∧ w' = w := by
  go_enter Tryz.func168, Tryz.ntmps168
  go_wp2
  go_end0
  exact ⟨rfl, rfl⟩

theorem rnote_any {w : World} {B a b : Nat} {bs : List UInt8} {v : Value} {ss : List Sp} (h : Ar w 68 B a b bs v ss) (x n : Int) (wr : Bool) (hk : ss.length ≤ 1000000) :
    Calls Tryz.prog 168 #[.pointer (some ⟨a, 0, none⟩), .int .i64 x, .int .i64 n, .bool wr] w fun e w' => e = .returned (.tuple #[]) ∧
      Noted w w' 68 B a b bs v (noted ss x n wr) := by
  by_cases hn : 0 < n
  · simp only [noted, if_pos hn]
    exact rnote_pos h x n wr hk hn
  · simp only [noted, if_neg hn]
    exact (rnote_none a x n wr hn).mono fun e w' ⟨he, hw⟩ => ⟨he, by subst hw; exact Noted.same h⟩

set_option maxRecDepth 20000 in
theorem rnew_bad (x : Int) (w : World) (h : x < 0 ∨ 2097152 < x) :
    Calls Tryz.prog 48 #[.int .i64 x] w fun e w' => e = .returned (.tuple #[.pointer none, .int .i64 12]) ∧ w' = w := by
  rcases h with h | h
  · go_enter Tryz.func48, Tryz.ntmps48
    go_wp2
    go_ret2
    exact ⟨rfl, rfl⟩
  · have h' : ¬ x < 0 := by omega
    go_enter Tryz.func48, Tryz.ntmps48
    go_wp2
    go_ret2
    exact ⟨rfl, rfl⟩

set_option maxRecDepth 20000 in
set_option maxHeartbeats 400000 in
theorem rnew_ok (n : Nat) (w : World) (h : n ≤ 2097152) :
    Calls Tryz.prog 48 #[.int .i64 n] w fun e w' => e = .returned (.tuple #[.pointer (some ⟨w.heap.size + 1, 0, none⟩), .int .i64 0]) ∧
      Ar w' 68 (w.heap.size + 2) (w.heap.size + 1) w.heap.size (List.replicate n 0) (.slice none 0 0) [] ∧ Fr (fun _ => False) w w' ∧ w'.heap.size = w.heap.size + 2 := by
  obtain ⟨i0, hi, hz0, hz1, hz2⟩ := info_parts Tryz.info5
  have hmk := run_make (P := Tryz.prog) w 65 5 i0 (.int .u8 0) Tryz.underlying65 hi hz0 .i64 .i64 (n : Int) (n : Int) (by omega) (by omega) (by rw [hz2]; omega) (by omega)
  rw [hz1] at hmk
  simp only [Int.toNat_natCast, Nat.mul_one, Value.cells, made_bytes] at hmk
  clear hi hz0 hz1 hz2
  go_enter Tryz.func48, Tryz.ntmps48
  go_wp2
  go_ret2
  refine ⟨by simp, ⟨?_, ?_, World.ownsRow_nil _ _ _ _, by omega, by omega, by omega, by simpa using h, by simp, fun _ => rfl⟩, ((Fr.refl _ _).alloc _).alloc _, by simp⟩
  · rw [heap_two]; simp
  · rw [heap_one]

/-- Behind a note: bytes are laid. -/
theorem Noted.laid {w w1 w2 : World} {T : TypeId} {B a b : Nat} {bs' : List UInt8} {v v1 : Value} {ss' : List Sp}
    (f1 : Fr (fun y => y = a ∨ y = b ∨ v.ownBlock = some y) w w1) (r1 : ∀ y, v1.ownBlock = some y → v.ownBlock = some y ∨ w.heap.size ≤ y) (h2 : Ar w2 T B a b bs' v1 ss') (f2 : Fr (fun y => y = b) w1 w2) : Noted w w2 T B a b bs' v ss' :=
  ⟨v1, h2, f1.trans' f2 (fun _ _ e => .inr (.inl e)), r1⟩
theorem over_nil (bs : List UInt8) (p : Nat) : over bs p [] = bs := by simp [over]
theorem lay_step {w : World} {T : TypeId} {B a b : Nat} {bs ds : List UInt8} {v : Value} {ss : List Sp} {p j : Nat} (h : Ar w T B a b (over bs p (ds.take j)) v ss) (hj : j < ds.length) (hp : p + ds.length ≤ bs.length) :
    Ar (w.setCell ⟨b, p + j, none⟩ (.int .u8 ((ds[j]).toNat : Int))) T B a b (over bs p (ds.take (j + 1))) v ss := by
  have h2 := h.setByte (p + j) ds[j]
  have hl : (ds.take j).length = j := by simp; omega
  have h3 := over_step bs p (ds.take j) ds[j] (by omega)
  rw [hl] at h3
  rw [h3] at h2
  have e : ds.take (j + 1) = ds.take j ++ [ds[j]] := by rw [List.take_add_one, List.getElem?_eq_getElem hj]; rfl
  rw [e]
  exact h2
theorem word_take_cons (l : List UInt8) (j : Nat) (hj : j < l.length) (n : Nat) : word ((l.drop j).take (n + 1)) = (l[j]).toNat + 256 * word ((l.drop (j + 1)).take n) := by
  rw [List.drop_eq_getElem_cons hj, List.take_succ_cons, word]
theorem wrap_word (x : UInt8) (r : List UInt8) (h : r.length ≤ 7) : IntKind.u64.wrap (IntKind.u64.wrap ((word r : Int) * 256) + IntKind.u64.wrap (x.toNat : Int)) = ((x.toNat + 256 * word r : Nat) : Int) := by
  have hx : x.toNat < 256 := x.toNat_lt
  have hw := word_lt r
  have hp : (256 : Nat) ^ r.length ≤ 256 ^ 7 := Nat.pow_le_pow_right (by omega) h
  have e7 : (256 : Nat) ^ 7 = 72057594037927936 := by decide
  have w1 : ∀ z : Int, IntKind.u64.wrap z = z % 18446744073709551616 := fun _ => rfl
  rw [w1, w1, w1]
  omega

set_option maxRecDepth 20000 in
set_option maxHeartbeats 400000 in
theorem rload_no {w : World} {B a b : Nat} {bs : List UInt8} {v : Value} {ss : List Sp} (h : Ar w 68 B a b bs v ss) (x : Int) (hx : x ≤ 9223372036854775807) (hin : inB x 8 bs.length = false) :
    Calls Tryz.prog 208 #[.pointer (some ⟨a, 0, none⟩), .int .i64 x] w fun e w' => e = .returned (.tuple #[.int .u64 0, .int .i64 4]) ∧ w' = w := by
  have Ht : Hid (Calls Tryz.prog 167 #[.pointer (some ⟨a, 0, none⟩), .int .i64 x, .int .i64 8] w fun e w' => e = .returned (.bool false) ∧ w' = w) := by
    have ht := rthere_any h x 8 hx
    rw [hin] at ht
    exact ht
  clear h hin
  go_enter Tryz.func208, Tryz.ntmps208
  go_wp2_with fail
  refine Ht.out.mono ?_
  rintro e w' ⟨rfl, hw⟩
  obtain rfl := hw.symm
  go_wp2
  go_ret2
  exact ⟨rfl, rfl⟩

set_option maxRecDepth 20000 in
set_option maxHeartbeats 400000 in
theorem rstore_no {w : World} {B a b : Nat} {bs : List UInt8} {v : Value} {ss : List Sp} (h : Ar w 68 B a b bs v ss) (x u : Int) (hx : x ≤ 9223372036854775807) (hin : inB x 8 bs.length = false) :
    Calls Tryz.prog 209 #[.pointer (some ⟨a, 0, none⟩), .int .i64 x, .int .u64 u] w fun e w' => e = .returned (.int .i64 4) ∧ w' = w := by
  have Ht : Hid (Calls Tryz.prog 167 #[.pointer (some ⟨a, 0, none⟩), .int .i64 x, .int .i64 8] w fun e w' => e = .returned (.bool false) ∧ w' = w) := by
    have ht := rthere_any h x 8 hx
    rw [hin] at ht
    exact ht
  clear h hin
  go_enter Tryz.func209, Tryz.ntmps209
  go_wp2_with fail
  refine Ht.out.mono ?_
  rintro e w' ⟨rfl, hw⟩
  obtain rfl := hw.symm
  go_wp2
  go_ret
  exact ⟨rfl, rfl⟩



set_option maxRecDepth 20000 in
set_option maxHeartbeats 400000 in
theorem rzero_no {w : World} {B a b : Nat} {bs : List UInt8} {v : Value} {ss : List Sp} (h : Ar w 68 B a b bs v ss) (x n : Int) (hx : x ≤ 9223372036854775807) (hin : inB x n bs.length = false) :
    Calls Tryz.prog 115 #[.pointer (some ⟨a, 0, none⟩), .int .i64 x, .int .i64 n] w fun e w' => e = .returned (.int .i64 4) ∧ w' = w := by
  have Ht : Hid (Calls Tryz.prog 167 #[.pointer (some ⟨a, 0, none⟩), .int .i64 x, .int .i64 n] w fun e w' => e = .returned (.bool false) ∧ w' = w) := by
    have ht := rthere_any h x n hx
    rw [hin] at ht
    exact ht
  clear h hin
  go_enter Tryz.func115, Tryz.ntmps115
  go_wp2_with fail
  refine Ht.out.mono ?_
  rintro e w' ⟨rfl, hw⟩
  obtain rfl := hw.symm
  go_wp2
  go_ret
  exact ⟨rfl, rfl⟩

set_option maxRecDepth 20000 in
set_option maxHeartbeats 400000 in
theorem rcopy_no1 {w : World} {B a b : Nat} {bs : List UInt8} {v : Value} {ss : List Sp} (h : Ar w 68 B a b bs v ss) (x y n : Int) (hx : x ≤ 9223372036854775807) (hin : inB x n bs.length = false) :
    Calls Tryz.prog 114 #[.pointer (some ⟨a, 0, none⟩), .int .i64 x, .int .i64 y, .int .i64 n] w fun e w' => e = .returned (.int .i64 4) ∧ w' = w := by
  have Ht : Hid (Calls Tryz.prog 167 #[.pointer (some ⟨a, 0, none⟩), .int .i64 x, .int .i64 n] w fun e w' => e = .returned (.bool false) ∧ w' = w) := by
    have ht := rthere_any h x n hx
    rw [hin] at ht
    exact ht
  clear h hin
  go_enter Tryz.func114, Tryz.ntmps114
  go_wp2_with fail
  refine Ht.out.mono ?_
  rintro e w' ⟨rfl, hw⟩
  obtain rfl := hw.symm
  go_wp2
  go_ret
  exact ⟨rfl, rfl⟩

set_option maxRecDepth 20000 in
set_option maxHeartbeats 400000 in
theorem rcopy_no2 {w : World} {B a b : Nat} {bs : List UInt8} {v : Value} {ss : List Sp} (h : Ar w 68 B a b bs v ss) (x y n : Int) (hx : x ≤ 9223372036854775807) (hy : y ≤ 9223372036854775807) (hin1 : inB x n bs.length = true) (hin : inB y n bs.length = false) :
    Calls Tryz.prog 114 #[.pointer (some ⟨a, 0, none⟩), .int .i64 x, .int .i64 y, .int .i64 n] w fun e w' => e = .returned (.int .i64 4) ∧ w' = w := by
  have Ht : Hid (Calls Tryz.prog 167 #[.pointer (some ⟨a, 0, none⟩), .int .i64 x, .int .i64 n] w fun e w' => e = .returned (.bool true) ∧ w' = w) := by
    have ht := rthere_any h x n hx
    rw [hin1] at ht
    exact ht
  have Ht2 : Hid (Calls Tryz.prog 167 #[.pointer (some ⟨a, 0, none⟩), .int .i64 y, .int .i64 n] w fun e w' => e = .returned (.bool false) ∧ w' = w) := by
    have ht := rthere_any h y n hy
    rw [hin] at ht
    exact ht
  clear h hin hin1
  go_enter Tryz.func114, Tryz.ntmps114
  go_wp2_with fail
  refine Ht.out.mono ?_
  rintro e w' ⟨rfl, hw⟩
  obtain rfl := hw.symm
  go_wp2_with fail
  refine Ht2.out.mono ?_
  rintro e w' ⟨rfl, hw⟩
  obtain rfl := hw.symm
  go_wp2
  go_ret
  exact ⟨rfl, rfl⟩

end Go.Proofs.YtihaifnenjngpaaGreatDoor.An

namespace Go.Proofs.YtihaifnenjngpaaGreatDoor.An
open Go.RowKit

set_option maxRecDepth 20000 in
set_option maxHeartbeats 1000000 in
theorem rload_ok {w : World} {B a b : Nat} {bs : List UInt8} {v : Value} {ss : List Sp} (h : Ar w 68 B a b bs v ss) (p : Nat) (hin : p + 8 ≤ bs.length) (hk : ss.length ≤ 1000000) :
    Calls Tryz.prog 208 #[.pointer (some ⟨a, 0, none⟩), .int .i64 p] w fun e w' => e = .returned (.tuple #[.int .u64 (word ((bs.drop p).take 8)), .int .i64 0]) ∧ Noted w w' 68 B a b bs v (ss ++ [((p : Int), (8 : Int), false)]) := by
  have hle := h.le
  have Ht : Hid (Calls Tryz.prog 167 #[.pointer (some ⟨a, 0, none⟩), .int .i64 p, .int .i64 8] w fun e w' => e = .returned (.bool true) ∧ w' = w) := by
    have ht := rthere_any h p 8 (by omega)
    rw [inB_true.2 ⟨by omega, by omega, by omega⟩] at ht
    exact ht
  have HN : Hid (Calls Tryz.prog 168 #[.pointer (some ⟨a, 0, none⟩), .int .i64 p, .int .i64 8, .bool false] w fun e w' => e = .returned (.tuple #[]) ∧ Noted w w' 68 B a b bs v (ss ++ [((p : Int), (8 : Int), false)])) := rnote_pos h p 8 false hk (by omega)
  clear h
  go_enter Tryz.func208, Tryz.ntmps208
  go_wp2_with fail
  refine Ht.out.mono ?_
  rintro e w' ⟨rfl, hw⟩
  obtain rfl := hw.symm
  go_wp2_with fail
  refine HN.out.mono ?_
  rintro e w1 ⟨rfl, v', har, hfr, hfresh⟩
  have c0 := har.c0
  have HC : Hid (∀ j (hj : p + j < bs.length), w1.cell? ⟨b, p + j, none⟩ = some (.int .u8 ((bs[p + j]'hj).toNat : Int))) := fun j hj => row_cell har.by' (p + j) hj
  have HNt : Hid (Noted w w1 68 B a b bs v (ss ++ [((p : Int), (8 : Int), false)])) := ⟨v', har, hfr, hfresh⟩
  clear Ht HN har hfr hfresh
  go_wp2
  go_loop [6, 7] (fun acc i => ∃ j : Nat, j ≤ 8 ∧ i = .int .i64 ((j : Int) - 1) ∧ acc = .int .u64 (word ((bs.drop (p + j)).take (8 - j)))) (fun _ i => (intOf i + 1).toNat)
  case atStart => exact ⟨8, by omega, rfl, by simp [word]⟩
  case round =>
    obtain ⟨j, hj, rfl, rfl⟩ := hrel
    by_cases hlt : 0 < j
    · obtain ⟨i, rfl⟩ : ∃ i, j = i + 1 := ⟨j - 1, by omega⟩
      have hc := HC.out i (by omega)
      have e1 : ((i + 1 : Nat) : Int) - 1 = (i : Int) := by omega
      have e2 : 8 - i = (8 - (i + 1)) + 1 := by omega
      have HST : Hid (IntKind.u64.wrap (IntKind.u64.wrap ((word ((bs.drop (p + (i + 1))).take (8 - (i + 1))) : Int) * 256) + IntKind.u64.wrap ((bs[p + i]'(by omega)).toNat : Int)) = (word ((bs.drop (p + i)).take (8 - i)) : Int)) := by
        rw [e2, word_take_cons bs (p + i) (by omega) (8 - (i + 1))]
        exact wrap_word _ _ (by simp; omega)
      rw [e1]
      clear e1 e2
      generalize word ((bs.drop (p + (i + 1))).take (8 - (i + 1))) = u at *
      generalize bs[p + i].toNat = by0 at *
      go_wp2
      go_round
      case rel => exact ⟨i, by omega, rfl, by rw [HST.out]⟩
      case measure => simp [intOf]
    · obtain rfl : j = 0 := by omega
      clear HC
      go_wp2
      go_ret2
      exact ⟨by simp, HNt.out⟩

set_option maxRecDepth 20000 in
set_option maxHeartbeats 1000000 in
theorem rstore_ok {w : World} {B a b : Nat} {bs : List UInt8} {v : Value} {ss : List Sp} (h : Ar w 68 B a b bs v ss) (p u : Nat) (_hu : u < 18446744073709551616) (hin : p + 8 ≤ bs.length) (hk : ss.length ≤ 1000000) :
    Calls Tryz.prog 209 #[.pointer (some ⟨a, 0, none⟩), .int .i64 p, .int .u64 u] w fun e w' => e = .returned (.int .i64 0) ∧ Noted w w' 68 B a b (over bs p (leb u 8)) v (ss ++ [((p : Int), (8 : Int), true)]) := by
  have hle := h.le
  have Ht : Hid (Calls Tryz.prog 167 #[.pointer (some ⟨a, 0, none⟩), .int .i64 p, .int .i64 8] w fun e w' => e = .returned (.bool true) ∧ w' = w) := by
    have ht := rthere_any h p 8 (by omega)
    rw [inB_true.2 ⟨by omega, by omega, by omega⟩] at ht
    exact ht
  have HN : Hid (Calls Tryz.prog 168 #[.pointer (some ⟨a, 0, none⟩), .int .i64 p, .int .i64 8, .bool true] w fun e w' => e = .returned (.tuple #[]) ∧ Noted w w' 68 B a b bs v (ss ++ [((p : Int), (8 : Int), true)])) := rnote_pos h p 8 true hk (by omega)
  clear h
  go_enter Tryz.func209, Tryz.ntmps209
  go_wp2_with fail
  refine Ht.out.mono ?_
  rintro e w' ⟨rfl, hw⟩
  obtain rfl := hw.symm
  go_wp2_with fail
  refine HN.out.mono ?_
  rintro e w1 ⟨rfl, v', har1, hfr1, hfresh⟩
  have H1 : Hid (Ar w1 68 B a b bs v' (ss ++ [((p : Int), (8 : Int), true)]) ∧ Fr (fun y => y = a ∨ y = b ∨ v.ownBlock = some y) w w1 ∧ ∀ y, v'.ownBlock = some y → v.ownBlock = some y ∨ w.heap.size ≤ y) := ⟨har1, hfr1, hfresh⟩
  clear Ht HN har1 hfr1 hfresh
  go_wp2
  go_loopw [2, 7] (fun q i wr => ∃ j : Nat, j ≤ 8 ∧ i = .int .i64 j ∧ q = .int .u64 ((u / 256 ^ j : Nat) : Int) ∧ Ar wr 68 B a b (over bs p (leb u j)) v' (ss ++ [((p : Int), (8 : Int), true)]) ∧ Fr (fun y => y = b) w1 wr) (fun _ i _ => 8 - (intOf i).toNat)
  case atStart => exact ⟨0, by omega, rfl, by simp, by simpa [leb, over_nil] using H1.out.1, Fr.refl _ _⟩
  case round =>
    obtain ⟨j, hj, rfl, rfl, har, hfr⟩ := hrel
    by_cases hlt : j < 8
    · have hl : (over bs p (leb u j)).length = bs.length := over_length _ _ _ (by rw [leb_length]; omega)
      have c0 := har.c0
      rw [hl] at c0
      have hc := row_cell har.by' (p + j) (by rw [hl]; omega)
      have hz := row_frozen har.by' (p + j)
      generalize (over bs p (leb u j))[p + j].toNat = old at hc
      have HA : Hid (Ar wr 68 B a b (over bs p (leb u j)) v' (ss ++ [((p : Int), (8 : Int), true)])) := har
      have HF : Hid (Fr (fun y => y = b) w1 wr) := hfr
      have HQ : Hid ((u / 256 ^ j) / 256 = u / 256 ^ (j + 1)) := by
        show (u / 256 ^ j) / 256 = u / 256 ^ (j + 1)
        rw [Nat.div_div_eq_div_mul, Nat.pow_succ]
      have HB : Hid ((u : Int) / 2 ^ (8 * j) % 256 = ((u / 256 ^ j : Nat) : Int) % 256) := by
        show (u : Int) / 2 ^ (8 * j) % 256 = ((u / 256 ^ j : Nat) : Int) % 256
        have e1 : (256 : Nat) ^ j = 2 ^ (8 * j) := by rw [Nat.pow_mul]
        rw [e1]; simp
      have hub : u / 256 ^ j < 18446744073709551616 := Nat.lt_of_le_of_lt (Nat.div_le_self _ _) _hu
      clear har hfr hl
      generalize u / 256 ^ j = uq at *
      go_wp2
      go_roundw
      case rel => exact ⟨j + 1, by omega, by go_num, by rw [← HQ.out]; simp, by rw [← HB.out]; exact store_round HA.out (by omega), HF.out.setCell rfl _⟩
      case measure => simp [intOf]; omega
    · obtain rfl : j = 8 := by omega
      have HA : Hid (Ar wr 68 B a b (over bs p (leb u 8)) v' (ss ++ [((p : Int), (8 : Int), true)])) := har
      have HF : Hid (Fr (fun y => y = b) w1 wr) := hfr
      clear har hfr
      go_wp2
      go_ret
      exact ⟨rfl, Noted.laid H1.out.2.1 H1.out.2.2 HA.out HF.out⟩

set_option maxRecDepth 20000 in
set_option maxHeartbeats 1000000 in
theorem rzero_ok {w : World} {B a b : Nat} {bs : List UInt8} {v : Value} {ss : List Sp} (h : Ar w 68 B a b bs v ss) (p m : Nat) (hin : p + m ≤ bs.length) (hk : ss.length ≤ 1000000) :
    Calls Tryz.prog 115 #[.pointer (some ⟨a, 0, none⟩), .int .i64 p, .int .i64 m] w fun e w' => e = .returned (.int .i64 0) ∧ Noted w w' 68 B a b (over bs p (List.replicate m (0 : UInt8))) v (noted ss p m true) := by
  have hle := h.le
  have Ht : Hid (Calls Tryz.prog 167 #[.pointer (some ⟨a, 0, none⟩), .int .i64 p, .int .i64 m] w fun e w' => e = .returned (.bool true) ∧ w' = w) := by
    have ht := rthere_any h p m (by omega)
    rw [inB_true.2 ⟨by omega, by omega, by omega⟩] at ht
    exact ht
  have HN : Hid (Calls Tryz.prog 168 #[.pointer (some ⟨a, 0, none⟩), .int .i64 p, .int .i64 m, .bool true] w fun e w' => e = .returned (.tuple #[]) ∧ Noted w w' 68 B a b bs v (noted ss p m true)) := rnote_any h p m true hk
  have HDL : Hid (((List.replicate m (0 : UInt8))).length = m) := (List.length_replicate : (List.replicate m (0 : UInt8)).length = m)
  clear h
  go_enter Tryz.func115, Tryz.ntmps115
  go_wp2_with fail
  refine Ht.out.mono ?_
  rintro e w' ⟨rfl, hw⟩
  obtain rfl := hw.symm
  go_wp2_with fail
  refine HN.out.mono ?_
  rintro e w1 ⟨rfl, v', har1, hfr1, hfresh⟩
  have H1 : Hid (Ar w1 68 B a b bs v' (noted ss p m true) ∧ Fr (fun y => y = a ∨ y = b ∨ v.ownBlock = some y) w w1 ∧ ∀ y, v'.ownBlock = some y → v.ownBlock = some y ∨ w.heap.size ≤ y) := ⟨har1, hfr1, hfresh⟩
  clear Ht HN har1 hfr1 hfresh
  go_wp2
  go_loopw [7] (fun i wr => ∃ j : Nat, j ≤ m ∧ i = .int .i64 j ∧ Ar wr 68 B a b (over bs p (((List.replicate m (0 : UInt8))).take j)) v' (noted ss p m true) ∧ Fr (fun y => y = b) w1 wr) (fun i _ => m - (intOf i).toNat)
  case atStart => exact ⟨0, by omega, rfl, by simpa [over_nil] using H1.out.1, Fr.refl _ _⟩
  case round =>
    obtain ⟨j, hj, rfl, har, hfr⟩ := hrel
    by_cases hlt : j < m
    · have hl : (over bs p (((List.replicate m (0 : UInt8))).take j)).length = bs.length := over_length _ _ _ (by have := HDL.out; rw [List.length_take]; omega)
      have c0 := har.c0
      rw [hl] at c0
      have hc := row_cell har.by' (p + j) (by rw [hl]; omega)
      have hz := row_frozen har.by' (p + j)
      generalize (over bs p (((List.replicate m (0 : UInt8))).take j))[p + j].toNat = old at hc
      have HA : Hid (Ar (wr.setCell ⟨b, p + j, none⟩ (.int .u8 ((((List.replicate m (0 : UInt8)))[j]'(by rw [HDL.out]; exact hlt)).toNat : Int))) 68 B a b (over bs p (((List.replicate m (0 : UInt8))).take (j + 1))) v' (noted ss p m true)) := lay_step har (by rw [HDL.out]; exact hlt) (by rw [HDL.out]; exact hin)
      have HF : Hid (Fr (fun y => y = b) w1 wr) := hfr
      have HAz : Hid (Ar (wr.setCell ⟨b, p + j, none⟩ (.int .u8 0)) 68 B a b (over bs p ((List.replicate m (0 : UInt8)).take (j + 1))) v' (noted ss p m true)) := by
        have h2 := HA.out
        rw [List.getElem_replicate] at h2
        exact h2
      clear har hfr hl
      go_wp2
      go_roundw
      case rel => exact ⟨j + 1, by omega, by go_num, HAz.out, HF.out.setCell rfl _⟩
      case measure => simp [intOf]; omega
    · have HA : Hid (Ar wr 68 B a b (over bs p (List.replicate m (0 : UInt8))) v' (noted ss p m true)) := by
        rw [List.take_of_length_le (by rw [HDL.out]; omega)] at har
        exact har
      have HF : Hid (Fr (fun y => y = b) w1 wr) := hfr
      clear har hfr
      go_wp2
      go_ret
      exact ⟨rfl, Noted.laid H1.out.2.1 H1.out.2.2 HA.out HF.out⟩


theorem cut_get (l : List UInt8) (j : Nat) (hj : j < l.length) : ((ByteArray.mk l.toArray)[j]'hj).toNat = (l[j]).toNat := rfl

set_option maxRecDepth 20000 in
set_option maxHeartbeats 2000000 in
theorem rcopy_ok {w : World} {B a b : Nat} {bs : List UInt8} {v : Value} {ss : List Sp} (h : Ar w 68 B a b bs v ss) (p q m : Nat) (hin : p + m ≤ bs.length) (hin2 : q + m ≤ bs.length) (hk : ss.length < 1000000) :
    Calls Tryz.prog 114 #[.pointer (some ⟨a, 0, none⟩), .int .i64 p, .int .i64 q, .int .i64 m] w fun e w' => e = .returned (.int .i64 0) ∧ Noted w w' 68 B a b (over bs p ((bs.drop q).take m)) v (noted (noted ss q m false) p m true) := by
  have hle := h.le
  have Ht : Hid (Calls Tryz.prog 167 #[.pointer (some ⟨a, 0, none⟩), .int .i64 p, .int .i64 m] w fun e w' => e = .returned (.bool true) ∧ w' = w) := by
    have ht := rthere_any h p m (by omega)
    rw [inB_true.2 ⟨by omega, by omega, by omega⟩] at ht
    exact ht
  have Ht2 : Hid (Calls Tryz.prog 167 #[.pointer (some ⟨a, 0, none⟩), .int .i64 q, .int .i64 m] w fun e w' => e = .returned (.bool true) ∧ w' = w) := by
    have ht := rthere_any h q m (by omega)
    rw [inB_true.2 ⟨by omega, by omega, by omega⟩] at ht
    exact ht
  have HN : Hid (Calls Tryz.prog 168 #[.pointer (some ⟨a, 0, none⟩), .int .i64 q, .int .i64 m, .bool false] w fun e w' => e = .returned (.tuple #[]) ∧ Noted w w' 68 B a b bs v (noted ss q m false)) := rnote_any h q m false (by omega)
  obtain ⟨D, hD⟩ : ∃ D, D = (bs.drop q).take m := ⟨_, rfl⟩
  rw [← hD]
  have HD : Hid (D = (bs.drop q).take m) := hD
  have HDL : Hid (D.length = m) := by
    show D.length = m
    rw [hD]; simp; omega
  clear h hD
  go_enter Tryz.func114, Tryz.ntmps114
  go_wp2_with fail
  refine Ht.out.mono ?_
  rintro e w' ⟨rfl, hw⟩
  obtain rfl := hw.symm
  go_wp2_with fail
  refine Ht2.out.mono ?_
  rintro e w' ⟨rfl, hw⟩
  obtain rfl := hw.symm
  go_wp2_with fail
  refine HN.out.mono ?_
  rintro e w0 ⟨rfl, v0, har0, hfr0, hfresh0⟩
  have HN2 : Hid (Calls Tryz.prog 168 #[.pointer (some ⟨a, 0, none⟩), .int .i64 p, .int .i64 m, .bool true] w0 fun e w' => e = .returned (.tuple #[]) ∧ Noted w w' 68 B a b bs v (noted (noted ss q m false) p m true)) :=
    (rnote_any har0 p m true (by have := noted_le ss q m false; omega)).mono fun e w' ⟨he, hn⟩ => ⟨he, Noted.step hfr0 hfresh0 hn⟩
  clear Ht Ht2 HN har0 hfr0 hfresh0
  go_wp2_with fail
  refine HN2.out.mono ?_
  rintro e w1 ⟨rfl, v', har1, hfr1, hfresh⟩
  have H1 : Hid (Ar w1 68 B a b bs v' (noted (noted ss q m false) p m true) ∧ Fr (fun y => y = a ∨ y = b ∨ v.ownBlock = some y) w w1 ∧ ∀ y, v'.ownBlock = some y → v.ownBlock = some y ∨ w.heap.size ≤ y) := ⟨har1, hfr1, hfresh⟩
  have c0 := har1.c0
  have hcv1 := fun cap => run_bytes_string (P := Tryz.prog) 65 5 9 Tryz.underlying65 Tryz.underlying5 Tryz.underlying9 har1.by' q m cap hin2
  have hcv0 := fun b at_ cap => run_bytes_string_none (P := Tryz.prog) (w := w1) 65 5 9 Tryz.underlying65 Tryz.underlying5 Tryz.underlying9 b at_ cap
  rw [← HD.out] at hcv1
  clear HN2 har1 hfr1 hfresh
  by_cases hm : 0 < m
  · clear hcv0
    go_wp2
    go_loopw [10] (fun i wr => ∃ j : Nat, j ≤ m ∧ i = .int .i64 j ∧ Ar wr 68 B a b (over bs p (D.take j)) v' (noted (noted ss q m false) p m true) ∧ Fr (fun y => y = b) w1 wr) (fun i _ => m - (intOf i).toNat)
    case atStart => exact ⟨0, by omega, rfl, by simpa [over_nil] using H1.out.1, Fr.refl _ _⟩
    case round =>
      obtain ⟨j, hj, rfl, har, hfr⟩ := hrel
      by_cases hlt : j < m
      · have hl : (over bs p (D.take j)).length = bs.length := over_length _ _ _ (by have := HDL.out; rw [List.length_take]; omega)
        have c1 := har.c0
        rw [hl] at c1
        have hc := row_cell har.by' (p + j) (by rw [hl]; omega)
        have hz := row_frozen har.by' (p + j)
        generalize (over bs p (D.take j))[p + j].toNat = old at hc
        have HA : Hid (Ar (wr.setCell ⟨b, p + j, none⟩ (.int .u8 ((D[j]'(by rw [HDL.out]; exact hlt)).toNat : Int))) 68 B a b (over bs p (D.take (j + 1))) v' (noted (noted ss q m false) p m true)) := lay_step har (by rw [HDL.out]; exact hlt) (by rw [HDL.out]; exact hin)
        have HF : Hid (Fr (fun y => y = b) w1 wr) := hfr
        have hjs : j < D.length := by rw [HDL.out]; exact hlt
        clear har hfr hl
        go_wp2
        go_region
        go_wp2
        go_roundw
        case rel => exact ⟨j + 1, by omega, by go_num, HA.out.drew, (HF.out.setCell rfl _).drew⟩
        case measure => simp [intOf]; omega
      · have HA : Hid (Ar wr 68 B a b (over bs p D) v' (noted (noted ss q m false) p m true)) := by
          rw [List.take_of_length_le (by rw [HDL.out]; omega)] at har
          exact har
        have HF : Hid (Fr (fun y => y = b) w1 wr) := hfr
        clear har hfr
        go_wp2
        go_ret
        exact ⟨rfl, Noted.laid H1.out.2.1 H1.out.2.2 HA.out HF.out⟩
  · obtain rfl : m = 0 := by omega
    clear hcv1
    have HZ : Hid (Noted w w1 68 B a b (over bs p D) v (noted (noted ss q ((0 : Nat) : Int) false) p ((0 : Nat) : Int) true)) := by
      rw [HD.out, List.take_zero, over_nil]
      exact ⟨v', H1.out.1, H1.out.2.1, H1.out.2.2⟩
    clear H1
    by_cases hp : q = bs.length
    · subst hp
      go_wp2
      refine wp_loop_rounds 1 ?_
      rw [rounds_succ]
      go_wp2
      go_ret
      exact ⟨rfl, HZ.out⟩
    · have hp' : q < bs.length := by omega
      go_wp2
      refine wp_loop_rounds 1 ?_
      rw [rounds_succ]
      go_wp2
      go_ret
      exact ⟨rfl, HZ.out⟩
end Go.Proofs.YtihaifnenjngpaaGreatDoor.An
