/-
  What the calls of the document's own arena (package garthref01) do: the same contracts.
  The document's own arena, the calls with loops.
  Touched: the spans, in memory of the caller's own.
  Same: two lists of spans that are alike.
  Each call of either arena told without cases, and for two arenas side by side.
  Lists of numbers in memory: those that come in, and rows of the call's own. New blocks may turn.
-/
import Derived.Test.YtejbdbjccjkfdaaGreatDoorClBase
import Derived.Test.YtejbdbjccjkfdaaGreatDoorAnArena
import Derived.Test.YtejbdbjccjkfdaaGreatDoorRows
import Derived.Test.YtejbdbjccjkfdaaGreatDoorBase
import Derived.Deep.RegionHeld
import Derived.Deep.QuietTactic
import Derived.BigQuiet
import Derived.BigRegion
import Derived.BigFrame
import Derived.Laws.OwnMore
namespace Go.Proofs.YtejbdbjccjkfdaaGreatDoor.An
open Go.RowKit

set_option maxRecDepth 20000 in
set_option maxHeartbeats 400000 in
theorem rthere_any {w : World} {B a b : Nat} {bs : List UInt8} {v : Value} {ss : List Sp} (h : Ar w 78 B a b bs v ss) (x n : Int) (hx : x ≤ 9223372036854775807) :
    Calls Tryz.prog 185 #[.pointer (some ⟨a, 0, none⟩), .int .i64 x, .int .i64 n] w fun e w' => e = .returned (.bool (inB x n bs.length)) ∧ w' = w := by
  have c0 := h.c0
  have hl := h.le
  clear h
  by_cases h1 : 0 ≤ x
  · by_cases h2 : 0 ≤ n
    · by_cases h3 : x ≤ (bs.length : Int)
      · go_enter Tryz.func185, Tryz.ntmps185
        go_wp2
        go_ret
        exact ⟨by simp [inB, h1, h2], rfl⟩
      · go_enter Tryz.func185, Tryz.ntmps185
        go_wp2
        go_ret
        exact ⟨by simp [inB]; omega, rfl⟩
    · go_enter Tryz.func185, Tryz.ntmps185
      go_wp2
      go_ret
      exact ⟨by simp [inB]; omega, rfl⟩
  · go_enter Tryz.func185, Tryz.ntmps185
    go_wp2
    go_ret
    exact ⟨by simp [inB]; omega, rfl⟩

set_option maxRecDepth 20000 in
set_option maxHeartbeats 400000 in
theorem rnote_pos {w : World} {B a b : Nat} {bs : List UInt8} {v : Value} {ss : List Sp} (h : Ar w 78 B a b bs v ss) (x n : Int) (wr : Bool) (hk : ss.length ≤ 1000000) (hn : 0 < n) :
    Calls Tryz.prog 186 #[.pointer (some ⟨a, 0, none⟩), .int .i64 x, .int .i64 n, .bool wr] w fun e w' => e = .returned (.tuple #[]) ∧
      Noted w w' 78 B a b bs v (ss ++ [(x, n, wr)]) := by
  have c1 := h.c1
  have f1 := h.f1
  obtain ⟨i0, hi, hz0, hz1, hz2⟩ := info_parts Tryz.info58
  have hlB := h.lB
  have hla := h.la
  go_enter Tryz.func186, Tryz.ntmps186
  go_wp2_with (at_builtin; refine wpList_append_sep rfl (.tmp 14) (.tmp 19) 76 rfl B 109 i0 (.agg #[.int .i64 0, .int .i64 0, .bool false]) 3 24 Tryz.underlying76 hi hz0 hz1 hz2 rfl (by decide) _ _ _ rfl (h.tr.alloc _) ⟨w.heap.size, 0, none⟩ 1 1 (by decide) [.int .i64 x, .int .i64 n, .bool wr] rfl rfl ?c1 ?c2 ?c3 ?c4 ?c5 ?_)
  case c1 =>
    intro j u hj
    match j, hj with
    | 0, hj => simp at hj; subst hj; simp [Addr.add]
    | 1, hj => simp at hj; subst hj; simp [Addr.add]
    | 2, hj => simp at hj; subst hj; simp [Addr.add]
  case c2 => intro u hu; simp at hu; rcases hu with rfl | rfl | rfl <;> rfl
  case c3 => unfold maxLen; omega
  case c4 => omega
  case c5 => simp; omega
  · intro g cap' w1 hown hgrow hsep
    have hfr : Fr (fun y => y = a ∨ y = b ∨ v.ownBlock = some y) w w1 := ((Fr.refl _ w).alloc _).grown hgrow (fun y hy => .inl (.inr (.inr hy)))
    have hva : v.ownBlock ≠ some a := fun e => by have := (h.own a e).1; omega
    have hvb : v.ownBlock ≠ some b := fun e => by have := (h.own b e).1; have := h.lb; omega
    have hst : w1.heap[a]? = some (.cells #[.slice (some ⟨b, 0, none⟩) bs.length bs.length, v] 78 (0, 0)) := by
      rw [hgrow.block a (by simp; omega) (fun e => hva e.symm), Below.heap_alloc _ _ _ (by omega)]; exact h.st
    have hby : w1.heap[b]? = some (.cells (bc bs).toArray 5 (0, 0)) := by
      rw [hgrow.block b (by have := h.lb; simp; omega) (fun e => hvb e.symm), Below.heap_alloc _ _ _ (by have := h.lb; omega)]; exact h.by'
    have k1 : w1.cell? ⟨a, 1, none⟩ = some v := by simp [World.cell?, hst]
    have e1 : w1.frozen? ⟨a, 1, none⟩ = false := by simp [World.frozen?, hst]
    have hsz : w.heap.size + 1 ≤ w1.heap.size := by have := hgrow.size; simpa using this
    have hfresh : ∀ y, some g = some y → v.ownBlock = some y ∨ w.heap.size ≤ y := by
      rintro y hy
      cases hy
      rcases hsep with h1 | h1
      · exact .inl h1
      · right; rw [h1]; simp
    clear c1 f1 hi hz0 hz1 hz2 hsep
    go_wp2
    go_end0
    refine ⟨rfl, _, ⟨heap_setCell_two hst, ?_, by rw [spcs_append, List.length_append]; exact ownsRow_setCell_below hown hla _, h.la, h.lb, h.ab, h.le, ?_, fun e => by simp at e⟩, hfr.setCell (.inl rfl) _, hfresh⟩
    · rw [Below.heap_setCell _ _ _ _ (fun e => h.ab e.symm)]; exact hby
    · simp [World.setCell]; omega

set_option maxRecDepth 20000 in
theorem rnote_none {w : World} (a : Nat) (x n : Int) (wr : Bool) (hn : ¬ 0 < n) :
    Calls Tryz.prog 186 #[.pointer (some ⟨a, 0, none⟩), .int .i64 x, .int .i64 n, .bool wr] w fun e w' => e = .returned (.tuple #[]) ∧ w' = w := by
  go_enter Tryz.func186, Tryz.ntmps186
  go_wp2
  go_end0
  exact ⟨rfl, rfl⟩

theorem rnote_any {w : World} {B a b : Nat} {bs : List UInt8} {v : Value} {ss : List Sp} (h : Ar w 78 B a b bs v ss) (x n : Int) (wr : Bool) (hk : ss.length ≤ 1000000) :
    Calls Tryz.prog 186 #[.pointer (some ⟨a, 0, none⟩), .int .i64 x, .int .i64 n, .bool wr] w fun e w' => e = .returned (.tuple #[]) ∧
      Noted w w' 78 B a b bs v (noted ss x n wr) := by
  by_cases hn : 0 < n
  · simp only [noted, if_pos hn]
    exact rnote_pos h x n wr hk hn
  · simp only [noted, if_neg hn]
    exact (rnote_none a x n wr hn).mono fun e w' ⟨he, hw⟩ => ⟨he, by subst hw; exact Noted.same h⟩


set_option maxRecDepth 20000 in
set_option maxHeartbeats 400000 in
theorem rnew_ok (n : Nat) (w : World) (h : n ≤ 2097152) :
    Calls Tryz.prog 35 #[.int .i64 n] w fun e w' => e = .returned (.tuple #[.pointer (some ⟨w.heap.size + 1, 0, none⟩), .int .i64 0]) ∧
      Ar w' 78 (w.heap.size + 2) (w.heap.size + 1) w.heap.size (List.replicate n 0) (.slice none 0 0) [] ∧ Fr (fun _ => False) w w' ∧ w'.heap.size = w.heap.size + 2 := by
  obtain ⟨i0, hi, hz0, hz1, hz2⟩ := info_parts Tryz.info5
  have hmk := run_make (P := Tryz.prog) w 54 5 i0 (.int .u8 0) Tryz.underlying54 hi hz0 .i64 .i64 (n : Int) (n : Int) (by omega) (by omega) (by rw [hz2]; omega) (by omega)
  rw [hz1] at hmk
  simp only [Int.toNat_natCast, Nat.mul_one, Value.cells, made_bytes] at hmk
  clear hi hz0 hz1 hz2
  go_enter Tryz.func35, Tryz.ntmps35
  go_wp2
  go_ret2
  refine ⟨by simp, ⟨?_, ?_, World.ownsRow_nil _ _ _ _, by omega, by omega, by omega, by simpa using h, by simp, fun _ => rfl⟩, ((Fr.refl _ _).alloc _).alloc _, by simp⟩
  · rw [heap_two]; simp
  · rw [heap_one]

/-- Behind a note: bytes are laid. -/
theorem Noted.laid {w w1 w2 : World} {T : TypeId} {B a b : Nat} {bs' : List UInt8} {v v1 : Value} {ss' : List Sp}
    (f1 : Fr (fun y => y = a ∨ y = b ∨ v.ownBlock = some y) w w1) (r1 : ∀ y, v1.ownBlock = some y → v.ownBlock = some y ∨ w.heap.size ≤ y) (h2 : Ar w2 T B a b bs' v1 ss') (f2 : Fr (fun y => y = b) w1 w2) : Noted w w2 T B a b bs' v ss' :=
  ⟨v1, h2, f1.trans' f2 (fun _ _ e => .inr (.inl e)), r1⟩
theorem over_nil (bs : List UInt8) (p : Nat) : over bs p [] = bs := by simp [over]
theorem lay_step {w : World} {T : TypeId} {B a b : Nat} {bs ds : List UInt8} {v : Value} {ss : List Sp} {p j : Nat} (h : Ar w T B a b (over bs p (ds.take j)) v ss) (hj : j < ds.length) (hp : p + ds.length ≤ bs.length) :
    Ar (w.setCell ⟨b, p + j, none⟩ (.int .u8 ((ds[j]).toNat : Int))) T B a b (over bs p (ds.take (j + 1))) v ss := by
  have h2 := h.setByte (p + j) ds[j]
  have hl : (ds.take j).length = j := by simp; omega
  have h3 := over_step bs p (ds.take j) ds[j] (by omega)
  rw [hl] at h3
  rw [h3] at h2
  have e : ds.take (j + 1) = ds.take j ++ [ds[j]] := by rw [List.take_add_one, List.getElem?_eq_getElem hj]; rfl
  rw [e]
  exact h2








end Go.Proofs.YtejbdbjccjkfdaaGreatDoor.An

namespace Go.Proofs.YtejbdbjccjkfdaaGreatDoor.An
open Go.RowKit


set_option maxRecDepth 20000 in
set_option maxHeartbeats 1000000 in
theorem rstore_ok {w : World} {B a b : Nat} {bs : List UInt8} {v : Value} {ss : List Sp} (h : Ar w 78 B a b bs v ss) (p u : Nat) (_hu : u < 18446744073709551616) (hin : p + 8 ≤ bs.length) (hk : ss.length ≤ 1000000) :
    Calls Tryz.prog 203 #[.pointer (some ⟨a, 0, none⟩), .int .i64 p, .int .u64 u] w fun e w' => e = .returned (.int .i64 0) ∧ Noted w w' 78 B a b (over bs p (leb u 8)) v (ss ++ [((p : Int), (8 : Int), true)]) := by
  have hle := h.le
  have Ht : Hid (Calls Tryz.prog 185 #[.pointer (some ⟨a, 0, none⟩), .int .i64 p, .int .i64 8] w fun e w' => e = .returned (.bool true) ∧ w' = w) := by
    have ht := rthere_any h p 8 (by omega)
    rw [inB_true.2 ⟨by omega, by omega, by omega⟩] at ht
    exact ht
  have HN : Hid (Calls Tryz.prog 186 #[.pointer (some ⟨a, 0, none⟩), .int .i64 p, .int .i64 8, .bool true] w fun e w' => e = .returned (.tuple #[]) ∧ Noted w w' 78 B a b bs v (ss ++ [((p : Int), (8 : Int), true)])) := rnote_pos h p 8 true hk (by omega)
  clear h
  go_enter Tryz.func203, Tryz.ntmps203
  go_wp2_with fail
  refine Ht.out.mono ?_
  rintro e w' ⟨rfl, hw⟩
  obtain rfl := hw.symm
  go_wp2_with fail
  refine HN.out.mono ?_
  rintro e w1 ⟨rfl, v', har1, hfr1, hfresh⟩
  have H1 : Hid (Ar w1 78 B a b bs v' (ss ++ [((p : Int), (8 : Int), true)]) ∧ Fr (fun y => y = a ∨ y = b ∨ v.ownBlock = some y) w w1 ∧ ∀ y, v'.ownBlock = some y → v.ownBlock = some y ∨ w.heap.size ≤ y) := ⟨har1, hfr1, hfresh⟩
  clear Ht HN har1 hfr1 hfresh
  go_wp2
  go_loopw [2, 7] (fun q i wr => ∃ j : Nat, j ≤ 8 ∧ i = .int .i64 j ∧ q = .int .u64 ((u / 256 ^ j : Nat) : Int) ∧ Ar wr 78 B a b (over bs p (leb u j)) v' (ss ++ [((p : Int), (8 : Int), true)]) ∧ Fr (fun y => y = b) w1 wr) (fun _ i _ => 8 - (intOf i).toNat)
  case atStart => exact ⟨0, by omega, rfl, by simp, by simpa [leb, over_nil] using H1.out.1, Fr.refl _ _⟩
  case round =>
    obtain ⟨j, hj, rfl, rfl, har, hfr⟩ := hrel
    by_cases hlt : j < 8
    · have hl : (over bs p (leb u j)).length = bs.length := over_length _ _ _ (by rw [leb_length]; omega)
      have c0 := har.c0
      rw [hl] at c0
      have hc := row_cell har.by' (p + j) (by rw [hl]; omega)
      have hz := row_frozen har.by' (p + j)
      generalize (over bs p (leb u j))[p + j].toNat = old at hc
      have HA : Hid (Ar wr 78 B a b (over bs p (leb u j)) v' (ss ++ [((p : Int), (8 : Int), true)])) := har
      have HF : Hid (Fr (fun y => y = b) w1 wr) := hfr
      have HQ : Hid ((u / 256 ^ j) / 256 = u / 256 ^ (j + 1)) := by
        show (u / 256 ^ j) / 256 = u / 256 ^ (j + 1)
        rw [Nat.div_div_eq_div_mul, Nat.pow_succ]
      have HB : Hid ((u : Int) / 2 ^ (8 * j) % 256 = ((u / 256 ^ j : Nat) : Int) % 256) := by
        show (u : Int) / 2 ^ (8 * j) % 256 = ((u / 256 ^ j : Nat) : Int) % 256
        have e1 : (256 : Nat) ^ j = 2 ^ (8 * j) := by rw [Nat.pow_mul]
        rw [e1]; simp
      have hub : u / 256 ^ j < 18446744073709551616 := Nat.lt_of_le_of_lt (Nat.div_le_self _ _) _hu
      clear har hfr hl
      generalize u / 256 ^ j = uq at *
      go_wp2
      go_roundw
      case rel => exact ⟨j + 1, by omega, by go_num, by rw [← HQ.out]; simp, by rw [← HB.out]; exact store_round HA.out (by omega), HF.out.setCell rfl _⟩
      case measure => simp [intOf]; omega
    · obtain rfl : j = 8 := by omega
      have HA : Hid (Ar wr 78 B a b (over bs p (leb u 8)) v' (ss ++ [((p : Int), (8 : Int), true)])) := har
      have HF : Hid (Fr (fun y => y = b) w1 wr) := hfr
      clear har hfr
      go_wp2
      go_ret
      exact ⟨rfl, Noted.laid H1.out.2.1 H1.out.2.2 HA.out HF.out⟩

set_option maxRecDepth 20000 in
set_option maxHeartbeats 1000000 in
theorem rzero_ok {w : World} {B a b : Nat} {bs : List UInt8} {v : Value} {ss : List Sp} (h : Ar w 78 B a b bs v ss) (p m : Nat) (hin : p + m ≤ bs.length) (hk : ss.length ≤ 1000000) :
    Calls Tryz.prog 131 #[.pointer (some ⟨a, 0, none⟩), .int .i64 p, .int .i64 m] w fun e w' => e = .returned (.int .i64 0) ∧ Noted w w' 78 B a b (over bs p (List.replicate m (0 : UInt8))) v (noted ss p m true) := by
  have hle := h.le
  have Ht : Hid (Calls Tryz.prog 185 #[.pointer (some ⟨a, 0, none⟩), .int .i64 p, .int .i64 m] w fun e w' => e = .returned (.bool true) ∧ w' = w) := by
    have ht := rthere_any h p m (by omega)
    rw [inB_true.2 ⟨by omega, by omega, by omega⟩] at ht
    exact ht
  have HN : Hid (Calls Tryz.prog 186 #[.pointer (some ⟨a, 0, none⟩), .int .i64 p, .int .i64 m, .bool true] w fun e w' => e = .returned (.tuple #[]) ∧ Noted w w' 78 B a b bs v (noted ss p m true)) := rnote_any h p m true hk
  have HDL : Hid (((List.replicate m (0 : UInt8))).length = m) := (List.length_replicate : (List.replicate m (0 : UInt8)).length = m)
  clear h
  go_enter Tryz.func131, Tryz.ntmps131
  go_wp2_with fail
  refine Ht.out.mono ?_
  rintro e w' ⟨rfl, hw⟩
  obtain rfl := hw.symm
  go_wp2_with fail
  refine HN.out.mono ?_
  rintro e w1 ⟨rfl, v', har1, hfr1, hfresh⟩
  have H1 : Hid (Ar w1 78 B a b bs v' (noted ss p m true) ∧ Fr (fun y => y = a ∨ y = b ∨ v.ownBlock = some y) w w1 ∧ ∀ y, v'.ownBlock = some y → v.ownBlock = some y ∨ w.heap.size ≤ y) := ⟨har1, hfr1, hfresh⟩
  clear Ht HN har1 hfr1 hfresh
  go_wp2
  go_loopw [7] (fun i wr => ∃ j : Nat, j ≤ m ∧ i = .int .i64 j ∧ Ar wr 78 B a b (over bs p (((List.replicate m (0 : UInt8))).take j)) v' (noted ss p m true) ∧ Fr (fun y => y = b) w1 wr) (fun i _ => m - (intOf i).toNat)
  case atStart => exact ⟨0, by omega, rfl, by simpa [over_nil] using H1.out.1, Fr.refl _ _⟩
  case round =>
    obtain ⟨j, hj, rfl, har, hfr⟩ := hrel
    by_cases hlt : j < m
    · have hl : (over bs p (((List.replicate m (0 : UInt8))).take j)).length = bs.length := over_length _ _ _ (by have := HDL.out; rw [List.length_take]; omega)
      have c0 := har.c0
      rw [hl] at c0
      have hc := row_cell har.by' (p + j) (by rw [hl]; omega)
      have hz := row_frozen har.by' (p + j)
      generalize (over bs p (((List.replicate m (0 : UInt8))).take j))[p + j].toNat = old at hc
      have HA : Hid (Ar (wr.setCell ⟨b, p + j, none⟩ (.int .u8 ((((List.replicate m (0 : UInt8)))[j]'(by rw [HDL.out]; exact hlt)).toNat : Int))) 78 B a b (over bs p (((List.replicate m (0 : UInt8))).take (j + 1))) v' (noted ss p m true)) := lay_step har (by rw [HDL.out]; exact hlt) (by rw [HDL.out]; exact hin)
      have HF : Hid (Fr (fun y => y = b) w1 wr) := hfr
      have HAz : Hid (Ar (wr.setCell ⟨b, p + j, none⟩ (.int .u8 0)) 78 B a b (over bs p ((List.replicate m (0 : UInt8)).take (j + 1))) v' (noted ss p m true)) := by
        have h2 := HA.out
        rw [List.getElem_replicate] at h2
        exact h2
      clear har hfr hl
      go_wp2
      go_roundw
      case rel => exact ⟨j + 1, by omega, by go_num, HAz.out, HF.out.setCell rfl _⟩
      case measure => simp [intOf]; omega
    · have HA : Hid (Ar wr 78 B a b (over bs p (List.replicate m (0 : UInt8))) v' (noted ss p m true)) := by
        rw [List.take_of_length_le (by rw [HDL.out]; omega)] at har
        exact har
      have HF : Hid (Fr (fun y => y = b) w1 wr) := hfr
      clear har hfr
      go_wp2
      go_ret
      exact ⟨rfl, Noted.laid H1.out.2.1 H1.out.2.2 HA.out HF.out⟩



end Go.Proofs.YtejbdbjccjkfdaaGreatDoor.An

namespace Go.Proofs.YtejbdbjccjkfdaaGreatDoor.An
open Go.RowKit



end Go.Proofs.YtejbdbjccjkfdaaGreatDoor.An

namespace Go.Proofs.YtejbdbjccjkfdaaGreatDoor.An
open Go.RowKit






end Go.Proofs.YtejbdbjccjkfdaaGreatDoor.An

namespace Go.Proofs.YtejbdbjccjkfdaaGreatDoor.An
open Go.RowKit

theorem noted8 (ss : List Sp) (p : Nat) (wr : Bool) : noted ss p 8 wr = ss ++ [((p : Int), (8 : Int), wr)] := by
  unfold noted; rw [if_pos (by omega)]












end Go.Proofs.YtejbdbjccjkfdaaGreatDoor.An

namespace Go.Proofs.YtejbdbjccjkfdaaGreatDoor
open Go.RowKit

theorem frOf {w w' : World} (f : ∃ m, w' = w.drewN m) : Fr (fun _ => False) w w' := by obtain ⟨m, rfl⟩ := f; exact (Fr.refl _ w).drewN m
/-- Numbers that lie where a slice says. -/
def NumsAt (w : World) (ad : Option Addr) (l : List Int) : Prop := ∀ i (h : i < l.length), ∃ b off, ad = some ⟨b, off, none⟩ ∧ b < w.heap.size ∧ w.cell? ⟨b, off + i, none⟩ = some (.int .i64 l[i])
/-- The numbers lie in no block of Z. -/
def Off (Z : Nat → Prop) (ad : Option Addr) (l : List Int) : Prop := ∀ b off, ad = some ⟨b, off, none⟩ → 0 < l.length → ¬ Z b
theorem NumsAt.carry {S : Nat → Prop} {w w' : World} {ad : Option Addr} {l : List Int} (h : NumsAt w ad l) (hf : Fr S w w') (ho : Off S ad l) : NumsAt w' ad l := fun i hi => by
  obtain ⟨b, off, h1, h2, h3⟩ := h i hi
  exact ⟨b, off, h1, by have := hf.size; omega, (World.cell?_of_block (hf.block b h2 (ho b off h1 (by omega)))).trans h3⟩
theorem NumsAt.fr {w w' : World} {ad : Option Addr} {l : List Int} (h : NumsAt w ad l) (hf : Fr (fun _ => False) w w') : NumsAt w' ad l := h.carry hf fun _ _ _ _ e => e
theorem NumsAt.alloc {w : World} {ad : Option Addr} {l : List Int} (h : NumsAt w ad l) (o : Obj) : NumsAt (w.alloc o) ad l := h.fr ((Fr.refl _ _).alloc o)
theorem nums_none (w : World) (ad : Option Addr) : NumsAt w ad [] := fun i hi => by simp at hi
/-- A piece of a list. -/
theorem NumsAt.drop {w : World} {b off : Nat} {l : List Int} (h : NumsAt w (some ⟨b, off, none⟩) l) (k : Nat) : NumsAt w (some ⟨b, off + k, none⟩) (l.drop k) := fun i hi => by
  rw [List.length_drop] at hi
  obtain ⟨b', off', h1, h2, h3⟩ := h (k + i) (by omega)
  simp only [Option.some.injEq, Addr.mk.injEq, and_true] at h1
  obtain ⟨rfl, rfl⟩ := h1
  refine ⟨b, off + k, rfl, h2, ?_⟩
  rw [List.getElem_drop, Nat.add_assoc]
  exact h3
theorem NumsAt.take {w : World} {ad : Option Addr} {l : List Int} (h : NumsAt w ad l) (k : Nat) : NumsAt w ad (l.take k) := fun i hi => by
  rw [List.length_take] at hi
  obtain ⟨b, off, h1, h2, h3⟩ := h i (by omega)
  exact ⟨b, off, h1, h2, by rw [List.getElem_take]; exact h3⟩
/-- Each number of a list lies somewhere that was there ahead. -/
theorem NumsAt.off {w : World} {Z : Nat → Prop} {ad : Option Addr} {l : List Int} (h : NumsAt w ad l) (hz : ∀ i, Z i → w.heap.size ≤ i) : Off Z ad l := fun b off e h0 hb => by
  obtain ⟨b', off', h1, h2, _⟩ := h 0 h0
  rw [e] at h1
  simp only [Option.some.injEq, Addr.mk.injEq, and_true] at h1
  have := hz b hb
  omega
/-- New blocks may turn. -/
def Nw (w0 w : World) : Prop := Fr (fun k => w0.heap.size ≤ k) w0 w
theorem Nw.start (w : World) : Nw w w := Fr.refl _ _
theorem Nw.on {S : Nat → Prop} {w0 w w' : World} (h : Nw w0 w) (f : Fr S w w') (hs : ∀ i, S i → w0.heap.size ≤ i) : Nw w0 w' := Fr.trans' h f fun i _ e => hs i e
theorem Nw.kept {w0 w w' : World} (h : Nw w0 w) (f : Fr (fun _ => False) w w') : Nw w0 w' := h.on f fun _ e => e.elim
theorem Nw.alloc {w0 w : World} (h : Nw w0 w) (o : Obj) : Nw w0 (w.alloc o) := Fr.alloc h o
theorem Nw.fr {w0 w : World} (h : Nw w0 w) : Fr (fun _ => False) w0 w := Fr.new h
theorem Nw.le {w0 w : World} (h : Nw w0 w) : w0.heap.size ≤ w.heap.size := h.size
theorem Tryz.infoInt : (Tryz.prog.info? 3).map (fun i => (i.zero, i.size, i.bytes)) = some (some (.int .i64 0), 1, 8) := by kernel_rfl
def ic (l : List Int) : List Value := l.map fun x => Value.int .i64 x
theorem ic_length (l : List Int) : (ic l).length = l.length := by simp [ic]
theorem ic_one (l : List Int) : ∀ u ∈ ic l, u.oneCell' = true := by
  intro v hv; simp only [ic, List.mem_map] at hv; obtain ⟨x, _, rfl⟩ := hv; rfl
theorem ic_snoc (l : List Int) (x : Int) : ic (l ++ [x]) = ic l ++ [.int .i64 x] := by simp [ic]
theorem nums_row {w : World} {base g cap : Nat} {l : List Int} (h : w.ownsRow base 3 1 (.slice (some ⟨g, 0, none⟩) l.length cap) l.length (ic l)) : NumsAt w (some ⟨g, 0, none⟩) l := fun i hi => by
  refine ⟨g, 0, rfl, (h.lt g rfl).2, ?_⟩
  have := h.cells (g := g) rfl i (.int .i64 l[i]) (by simp [ic, hi])
  rw [add_plain] at this
  exact this
/-- A row of the call's own, as a list that lies somewhere new. -/
theorem row_list {w : World} {base : Nat} {y : Value} {ys : List Int} (h : w.ownsRow base 3 1 y ys.length (ic ys)) : ∃ yad ycap, y = .slice yad ys.length ycap ∧ NumsAt w yad ys ∧ ∀ b off, yad = some ⟨b, off, none⟩ → base ≤ b := by
  rcases h.2 with ⟨e1, e2⟩ | ⟨g, cap, cur, e1, hb, _⟩
  · have e3 : ys = [] := List.eq_nil_of_length_eq_zero e2
    subst e3
    exact ⟨none, 0, e1, fun i hi => by simp at hi, fun b off e => by cases e⟩
  · subst e1
    exact ⟨_, _, rfl, nums_row h, fun b off e => by simp only [Option.some.injEq, Addr.mk.injEq] at e; omega⟩
/-- A list that lies in a new block. -/
theorem nums_new {w w' : World} {B : Nat} {l : List Int} {T : TypeId} (h : w.heap[B]? = some (.cells (ic l).toArray T (0, 0))) (f : Fr (fun _ => False) w w') : NumsAt w' (some ⟨B, 0, none⟩) l := fun i hi => by
  have hb := (Array.getElem?_eq_some_iff.1 h).1
  refine ⟨B, 0, rfl, by have := f.size; omega, ?_⟩
  rw [World.cell?_of_block (f.block B hb id)]
  simp [World.cell?, h, hi, ic]
end Go.Proofs.YtejbdbjccjkfdaaGreatDoor
