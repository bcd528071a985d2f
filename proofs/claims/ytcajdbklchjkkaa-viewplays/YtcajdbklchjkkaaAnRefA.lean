/-
  What the calls of the document's own arena (package garthref01) do: the same contracts.
-/
import Derived.Test.YtcajdbklchjkkaaAnWords
namespace Go.Proofs.Ytcajdbklchjkkaa.An
open Go.RowKit

set_option maxRecDepth 20000 in
set_option maxHeartbeats 400000 in
theorem rthere_any {w : World} {B a b : Nat} {bs : List UInt8} {v : Value} {ss : List Sp} (h : Ar w 51 B a b bs v ss) (x n : Int) (hx : x ≤ 9223372036854775807) :
    Calls Try.prog 61 #[.pointer (some ⟨a, 0, none⟩), .int .i64 x, .int .i64 n] w fun e w' => e = .returned (.bool (inB x n bs.length)) ∧ w' = w := by
  have c0 := h.c0
  have hl := h.le
  clear h
  by_cases h1 : 0 ≤ x
  · by_cases h2 : 0 ≤ n
    · by_cases h3 : x ≤ (bs.length : Int)
      · go_enter Try.func61, Try.ntmps61
        go_wp2
        go_ret
        exact ⟨by simp [inB, h1, h2], rfl⟩
      · go_enter Try.func61, Try.ntmps61
        go_wp2
        go_ret
        exact ⟨by simp [inB]; omega, rfl⟩
    · go_enter Try.func61, Try.ntmps61
      go_wp2
      go_ret
      exact ⟨by simp [inB]; omega, rfl⟩
  · go_enter Try.func61, Try.ntmps61
    go_wp2
    go_ret
    exact ⟨by simp [inB]; omega, rfl⟩

set_option maxRecDepth 20000 in
set_option maxHeartbeats 400000 in
theorem rnote_pos {w : World} {B a b : Nat} {bs : List UInt8} {v : Value} {ss : List Sp} (h : Ar w 51 B a b bs v ss) (x n : Int) (wr : Bool) (hk : ss.length ≤ 1000000) (hn : 0 < n) :
    Calls Try.prog 62 #[.pointer (some ⟨a, 0, none⟩), .int .i64 x, .int .i64 n, .bool wr] w fun e w' => e = .returned (.tuple #[]) ∧
      Noted w w' 51 B a b bs v (ss ++ [(x, n, wr)]) := by
  have c1 := h.c1
  have f1 := h.f1
  obtain ⟨i0, hi, hz0, hz1, hz2⟩ := info_parts Try.info58
  have hlB := h.lB
  have hla := h.la
  go_enter Try.func62, Try.ntmps62
  go_wp2_with (at_builtin; refine wpList_append_sep rfl (.tmp 14) (.tmp 19) 45 rfl B 65 i0 (.agg #[.int .i64 0, .int .i64 0, .bool false]) 3 24 Try.underlying45 hi hz0 hz1 hz2 rfl (by decide) _ _ _ rfl (h.tr.alloc _) ⟨w.heap.size, 0, none⟩ 1 1 (by decide) [.int .i64 x, .int .i64 n, .bool wr] rfl rfl ?c1 ?c2 ?c3 ?c4 ?c5 ?_)
  case c1 =>
    intro j u hj
    match j, hj with
    | 0, hj => simp at hj; subst hj; simp [Addr.add]
    | 1, hj => simp at hj; subst hj; simp [Addr.add]
    | 2, hj => simp at hj; subst hj; simp [Addr.add]
  case c2 => intro u hu; simp at hu; rcases hu with rfl | rfl | rfl <;> rfl
  case c3 => unfold maxLen; omega
  case c4 => omega
  case c5 => simp; omega
  · intro g cap' w1 hown hgrow hsep
    have hfr : Fr (fun y => y = a ∨ y = b ∨ v.ownBlock = some y) w w1 := ((Fr.refl _ w).alloc _).grown hgrow (fun y hy => .inl (.inr (.inr hy)))
    have hva : v.ownBlock ≠ some a := fun e => by have := (h.own a e).1; omega
    have hvb : v.ownBlock ≠ some b := fun e => by have := (h.own b e).1; have := h.lb; omega
    have hst : w1.heap[a]? = some (.cells #[.slice (some ⟨b, 0, none⟩) bs.length bs.length, v] 51 (0, 0)) := by
      rw [hgrow.block a (by simp; omega) (fun e => hva e.symm), Below.heap_alloc _ _ _ (by omega)]; exact h.st
    have hby : w1.heap[b]? = some (.cells (bc bs).toArray 5 (0, 0)) := by
      rw [hgrow.block b (by have := h.lb; simp; omega) (fun e => hvb e.symm), Below.heap_alloc _ _ _ (by have := h.lb; omega)]; exact h.by'
    have k1 : w1.cell? ⟨a, 1, none⟩ = some v := by simp [World.cell?, hst]
    have e1 : w1.frozen? ⟨a, 1, none⟩ = false := by simp [World.frozen?, hst]
    have hsz : w.heap.size + 1 ≤ w1.heap.size := by have := hgrow.size; simpa using this
    have hfresh : ∀ y, some g = some y → v.ownBlock = some y ∨ w.heap.size ≤ y := by
      rintro y hy
      cases hy
      rcases hsep with h1 | h1
      · exact .inl h1
      · right; rw [h1]; simp
    clear c1 f1 hi hz0 hz1 hz2 hsep
    go_wp2
    go_end0
    refine ⟨rfl, _, ⟨heap_setCell_two hst, ?_, by rw [spcs_append, List.length_append]; exact ownsRow_setCell_below hown hla _, h.la, h.lb, h.ab, h.le, ?_, fun e => by simp at e⟩, hfr.setCell (.inl rfl) _, hfresh⟩
    · rw [Below.heap_setCell _ _ _ _ (fun e => h.ab e.symm)]; exact hby
    · simp [World.setCell]; omega

set_option maxRecDepth 20000 in
theorem rnote_none {w : World} (a : Nat) (x n : Int) (wr : Bool) (hn : ¬ 0 < n) :
    Calls Try.prog 62 #[.pointer (some ⟨a, 0, none⟩), .int .i64 x, .int .i64 n, .bool wr] w fun e w' => e = .returned (.tuple #[]) ∧ w' = w := by
  go_enter Try.func62, Try.ntmps62
  go_wp2
  go_end0
  exact ⟨rfl, rfl⟩

theorem rnote_any {w : World} {B a b : Nat} {bs : List UInt8} {v : Value} {ss : List Sp} (h : Ar w 51 B a b bs v ss) (x n : Int) (wr : Bool) (hk : ss.length ≤ 1000000) :
    Calls Try.prog 62 #[.pointer (some ⟨a, 0, none⟩), .int .i64 x, .int .i64 n, .bool wr] w fun e w' => e = .returned (.tuple #[]) ∧
      Noted w w' 51 B a b bs v (noted ss x n wr) := by
  by_cases hn : 0 < n
  · simp only [noted, if_pos hn]
    exact rnote_pos h x n wr hk hn
  · simp only [noted, if_neg hn]
    exact (rnote_none a x n wr hn).mono fun e w' ⟨he, hw⟩ => ⟨he, by subst hw; exact Noted.same h⟩

set_option maxRecDepth 20000 in
theorem rnew_bad (x : Int) (w : World) (h : x < 0 ∨ 2097152 < x) :
    Calls Try.prog 10 #[.int .i64 x] w fun e w' => e = .returned (.tuple #[.pointer none, .int .i64 12]) ∧ w' = w := by
  rcases h with h | h
  · go_enter Try.func10, Try.ntmps10
    go_wp2
    go_ret2
    exact ⟨rfl, rfl⟩
  · have h' : ¬ x < 0 := by omega
    go_enter Try.func10, Try.ntmps10
    go_wp2
    go_ret2
    exact ⟨rfl, rfl⟩

set_option maxRecDepth 20000 in
set_option maxHeartbeats 400000 in
theorem rnew_ok (n : Nat) (w : World) (h : n ≤ 2097152) :
    Calls Try.prog 10 #[.int .i64 n] w fun e w' => e = .returned (.tuple #[.pointer (some ⟨w.heap.size + 1, 0, none⟩), .int .i64 0]) ∧
      Ar w' 51 (w.heap.size + 2) (w.heap.size + 1) w.heap.size (List.replicate n 0) (.slice none 0 0) [] ∧ Fr (fun _ => False) w w' ∧ w'.heap.size = w.heap.size + 2 := by
  obtain ⟨i0, hi, hz0, hz1, hz2⟩ := info_parts Try.info5
  have hmk := run_make (P := Try.prog) w 49 5 i0 (.int .u8 0) Try.underlying49 hi hz0 .i64 .i64 (n : Int) (n : Int) (by omega) (by omega) (by rw [hz2]; omega) (by omega)
  rw [hz1] at hmk
  simp only [Int.toNat_natCast, Nat.mul_one, Value.cells, made_bytes] at hmk
  clear hi hz0 hz1 hz2
  go_enter Try.func10, Try.ntmps10
  go_wp2
  go_ret2
  refine ⟨by simp, ⟨?_, ?_, World.ownsRow_nil _ _ _ _, by omega, by omega, by omega, by simpa using h, by simp, fun _ => rfl⟩, ((Fr.refl _ _).alloc _).alloc _, by simp⟩
  · rw [heap_two]; simp
  · rw [heap_one]

/-- Behind a note: bytes are laid. -/
theorem Noted.laid {w w1 w2 : World} {T : TypeId} {B a b : Nat} {bs' : List UInt8} {v v1 : Value} {ss' : List Sp}
    (f1 : Fr (fun y => y = a ∨ y = b ∨ v.ownBlock = some y) w w1) (r1 : ∀ y, v1.ownBlock = some y → v.ownBlock = some y ∨ w.heap.size ≤ y) (h2 : Ar w2 T B a b bs' v1 ss') (f2 : Fr (fun y => y = b) w1 w2) : Noted w w2 T B a b bs' v ss' :=
  ⟨v1, h2, f1.trans' f2 (fun _ _ e => .inr (.inl e)), r1⟩
theorem over_nil (bs : List UInt8) (p : Nat) : over bs p [] = bs := by simp [over]
theorem lay_step {w : World} {T : TypeId} {B a b : Nat} {bs ds : List UInt8} {v : Value} {ss : List Sp} {p j : Nat} (h : Ar w T B a b (over bs p (ds.take j)) v ss) (hj : j < ds.length) (hp : p + ds.length ≤ bs.length) :
    Ar (w.setCell ⟨b, p + j, none⟩ (.int .u8 ((ds[j]).toNat : Int))) T B a b (over bs p (ds.take (j + 1))) v ss := by
  have h2 := h.setByte (p + j) ds[j]
  have hl : (ds.take j).length = j := by simp; omega
  have h3 := over_step bs p (ds.take j) ds[j] (by omega)
  rw [hl] at h3
  rw [h3] at h2
  have e : ds.take (j + 1) = ds.take j ++ [ds[j]] := by rw [List.take_add_one, List.getElem?_eq_getElem hj]; rfl
  rw [e]
  exact h2
theorem word_take_cons (l : List UInt8) (j : Nat) (hj : j < l.length) (n : Nat) : word ((l.drop j).take (n + 1)) = (l[j]).toNat + 256 * word ((l.drop (j + 1)).take n) := by
  rw [List.drop_eq_getElem_cons hj, List.take_succ_cons, word]
theorem wrap_word (x : UInt8) (r : List UInt8) (h : r.length ≤ 7) : IntKind.u64.wrap (IntKind.u64.wrap ((word r : Int) * 256) + IntKind.u64.wrap (x.toNat : Int)) = ((x.toNat + 256 * word r : Nat) : Int) := by
  have hx : x.toNat < 256 := x.toNat_lt
  have hw := word_lt r
  have hp : (256 : Nat) ^ r.length ≤ 256 ^ 7 := Nat.pow_le_pow_right (by omega) h
  have e7 : (256 : Nat) ^ 7 = 72057594037927936 := by decide
  have w1 : ∀ z : Int, IntKind.u64.wrap z = z % 18446744073709551616 := fun _ => rfl
  rw [w1, w1, w1]
  omega



set_option maxRecDepth 20000 in
set_option maxHeartbeats 400000 in
theorem rread_no {w : World} {B a b : Nat} {bs : List UInt8} {v : Value} {ss : List Sp} (h : Ar w 51 B a b bs v ss) (x n : Int) (hx : x ≤ 9223372036854775807) (hin : inB x n bs.length = false) :
    Calls Try.prog 50 #[.pointer (some ⟨a, 0, none⟩), .int .i64 x, .int .i64 n] w fun e w' => e = .returned (.tuple #[.string ⟨#[]⟩, .int .i64 4]) ∧ w' = w := by
  have Ht : Hid (Calls Try.prog 61 #[.pointer (some ⟨a, 0, none⟩), .int .i64 x, .int .i64 n] w fun e w' => e = .returned (.bool false) ∧ w' = w) := by
    have ht := rthere_any h x n hx
    rw [hin] at ht
    exact ht
  clear h hin
  go_enter Try.func50, Try.ntmps50
  go_wp2_with fail
  refine Ht.out.mono ?_
  rintro e w' ⟨rfl, hw⟩
  obtain rfl := hw.symm
  go_wp2
  go_ret2
  exact ⟨rfl, rfl⟩

set_option maxRecDepth 20000 in
set_option maxHeartbeats 400000 in
theorem rwrite_no {w : World} {B a b : Nat} {bs : List UInt8} {v : Value} {ss : List Sp} (h : Ar w 51 B a b bs v ss) (x : Int) (s : ByteArray) (hx : x ≤ 9223372036854775807) (hin : inB x s.size bs.length = false) :
    Calls Try.prog 51 #[.pointer (some ⟨a, 0, none⟩), .int .i64 x, .string s] w fun e w' => e = .returned (.int .i64 4) ∧ w' = w := by
  have Ht : Hid (Calls Try.prog 61 #[.pointer (some ⟨a, 0, none⟩), .int .i64 x, .int .i64 s.size] w fun e w' => e = .returned (.bool false) ∧ w' = w) := by
    have ht := rthere_any h x s.size hx
    rw [hin] at ht
    exact ht
  clear h hin
  go_enter Try.func51, Try.ntmps51
  go_wp2_with fail
  refine Ht.out.mono ?_
  rintro e w' ⟨rfl, hw⟩
  obtain rfl := hw.symm
  go_wp2
  go_ret
  exact ⟨rfl, rfl⟩

set_option maxRecDepth 20000 in
set_option maxHeartbeats 400000 in
theorem rzero_no {w : World} {B a b : Nat} {bs : List UInt8} {v : Value} {ss : List Sp} (h : Ar w 51 B a b bs v ss) (x n : Int) (hx : x ≤ 9223372036854775807) (hin : inB x n bs.length = false) :
    Calls Try.prog 52 #[.pointer (some ⟨a, 0, none⟩), .int .i64 x, .int .i64 n] w fun e w' => e = .returned (.int .i64 4) ∧ w' = w := by
  have Ht : Hid (Calls Try.prog 61 #[.pointer (some ⟨a, 0, none⟩), .int .i64 x, .int .i64 n] w fun e w' => e = .returned (.bool false) ∧ w' = w) := by
    have ht := rthere_any h x n hx
    rw [hin] at ht
    exact ht
  clear h hin
  go_enter Try.func52, Try.ntmps52
  go_wp2_with fail
  refine Ht.out.mono ?_
  rintro e w' ⟨rfl, hw⟩
  obtain rfl := hw.symm
  go_wp2
  go_ret
  exact ⟨rfl, rfl⟩



set_option maxRecDepth 20000 in
set_option maxHeartbeats 400000 in
theorem rread_ok {w : World} {B a b : Nat} {bs : List UInt8} {v : Value} {ss : List Sp} (h : Ar w 51 B a b bs v ss) (p m : Nat) (hin : p + m ≤ bs.length) (hk : ss.length ≤ 1000000) :
    Calls Try.prog 50 #[.pointer (some ⟨a, 0, none⟩), .int .i64 p, .int .i64 m] w fun e w' => e = .returned (.tuple #[.string ⟨((bs.drop p).take m).toArray⟩, .int .i64 0]) ∧ Noted w w' 51 B a b bs v (noted ss p m false) := by
  have hle := h.le
  have Ht : Hid (Calls Try.prog 61 #[.pointer (some ⟨a, 0, none⟩), .int .i64 p, .int .i64 m] w fun e w' => e = .returned (.bool true) ∧ w' = w) := by
    have ht := rthere_any h p m (by omega)
    rw [inB_true.2 ⟨by omega, by omega, by omega⟩] at ht
    exact ht
  have HN : Hid (Calls Try.prog 62 #[.pointer (some ⟨a, 0, none⟩), .int .i64 p, .int .i64 m, .bool false] w fun e w' => e = .returned (.tuple #[]) ∧ Noted w w' 51 B a b bs v (noted ss p m false)) := rnote_any h p m false hk
  clear h
  by_cases hm : 0 < m
  · go_enter Try.func50, Try.ntmps50
    go_wp2_with fail
    refine Ht.out.mono ?_
    rintro e w' ⟨rfl, hw⟩
    obtain rfl := hw.symm
    go_wp2_with fail
    refine HN.out.mono ?_
    rintro e w1 ⟨rfl, v', har, hfr, hfresh⟩
    have c0 := har.c0
    have hcv := fun cap => run_bytes_string (P := Try.prog) 49 5 9 Try.underlying49 Try.underlying5 Try.underlying9 har.by' p m cap hin
    clear Ht HN
    go_wp2
    go_ret2
    exact ⟨rfl, v', har, hfr, hfresh⟩
  · obtain rfl : m = 0 := by omega
    have HN0 : Hid (Calls Try.prog 62 #[.pointer (some ⟨a, 0, none⟩), .int .i64 p, .int .i64 0, .bool false] w fun e w' => e = .returned (.tuple #[]) ∧ Noted w w' 51 B a b bs v (noted ss p 0 false)) := HN.out
    have Ht0 : Hid (Calls Try.prog 61 #[.pointer (some ⟨a, 0, none⟩), .int .i64 p, .int .i64 0] w fun e w' => e = .returned (.bool true) ∧ w' = w) := Ht.out
    clear HN Ht
    by_cases hp : p = bs.length
    · subst hp
      go_enter Try.func50, Try.ntmps50
      go_wp2_with fail
      refine Ht0.out.mono ?_
      rintro e w' ⟨rfl, hw⟩
      obtain rfl := hw.symm
      go_wp2_with fail
      refine HN0.out.mono ?_
      rintro e w1 ⟨rfl, v', har, hfr, hfresh⟩
      have c0 := har.c0
      have hcv := fun b at_ cap => run_bytes_string_none (P := Try.prog) (w := w1) 49 5 9 Try.underlying49 Try.underlying5 Try.underlying9 b at_ cap
      clear Ht0 HN0
      go_wp2
      go_ret2
      exact ⟨by simp, v', har, hfr, hfresh⟩
    · have hp' : p < bs.length := by omega
      go_enter Try.func50, Try.ntmps50
      go_wp2_with fail
      refine Ht0.out.mono ?_
      rintro e w' ⟨rfl, hw⟩
      obtain rfl := hw.symm
      go_wp2_with fail
      refine HN0.out.mono ?_
      rintro e w1 ⟨rfl, v', har, hfr, hfresh⟩
      have c0 := har.c0
      have hcv := fun b at_ cap => run_bytes_string_none (P := Try.prog) (w := w1) 49 5 9 Try.underlying49 Try.underlying5 Try.underlying9 b at_ cap
      clear Ht0 HN0
      go_wp2
      go_ret2
      exact ⟨by simp, v', har, hfr, hfresh⟩
end Go.Proofs.Ytcajdbklchjkkaa.An
