/-
  What the calls of package shelf do, each for every state of a shelf and every argument: contracts, without words of bits.
  Shelves that are made: New, Copy. And a shelf that is none.
  What the calls of package chain do: New, Push, Pop, Empty, Take, Move; the nil ones.
-/
import Derived.Test.YtejbdbjccjkfdaaGreatDoorSfCalls
import Derived.OwnWalk
import Derived.Lib.LazyBuf
import Derived.LoopTactic
import Derived.Test.YtejbdbjccjkfdaaGreatDoorClCalls
namespace Go.Proofs.YtejbdbjccjkfdaaGreatDoor.Sf
open Go.RowKit

/-- In w there lies a shelf at block a (and b): 'has' says which of its numbers are taken. -/
def Sh (w : World) (a b : Nat) (has : List Bool) : Prop := ∃ ws c, Sw w a b ws c has
section
variable {w : World} {a b : Nat} {has : List Bool}
theorem Sh.le (h : Sh w a b has) : has.length ≤ 65536 := by obtain ⟨ws, c, h⟩ := h; exact h.le
theorem Sh.lta (h : Sh w a b has) : a < w.heap.size := by obtain ⟨ws, c, h⟩ := h; exact h.lta
theorem Sh.ltb (h : Sh w a b has) : b < w.heap.size := by obtain ⟨ws, c, h⟩ := h; exact h.ltb
theorem Sh.tab (h : Sh w a b has) : Pos w := by obtain ⟨ws, c, h⟩ := h; exact h.tab
theorem Sh.b0 (h : Sh w a b has) : 1 < b := by obtain ⟨ws, c, h⟩ := h; exact h.b0
theorem Sh.a0 (h : Sh w a b has) : 1 < a := by obtain ⟨ws, c, h⟩ := h; exact h.a0
theorem Sh.carry {S : Nat → Prop} {w' : World} (h : Sh w a b has) (hf : Fr S w w') (h1 : ¬ S a) (h2 : ¬ S b) (h0 : ¬ S 1) : Sh w' a b has := by
  obtain ⟨ws, c, h⟩ := h; exact ⟨ws, c, h.carry hf h1 h2 h0⟩
theorem Sh.drew (h : Sh w a b has) : Sh w.drew a b has := by obtain ⟨ws, c, h⟩ := h; exact ⟨ws, c, h.drew⟩
theorem Sh.drewN (h : Sh w a b has) (n : Nat) : Sh (w.drewN n) a b has := by obtain ⟨ws, c, h⟩ := h; exact ⟨ws, c, h.drewN n⟩

theorem s_turn (h : Sh w a b has) (k : Nat) (hk : k < has.length) :
    Calls Tryz.prog 141 #[.pointer (some ⟨a, 0, none⟩), .int .i64 k] w fun e w' => e = .returned (.tuple #[]) ∧ Sh w' a b (has.set k (!has[k])) ∧ Fr (fun i => i = b) w w' := by
  obtain ⟨ws, c, h⟩ := h
  exact (turn_any h k hk (by have := h.bits.len; omega)).mono fun e w' ⟨h1, h2, h3, _⟩ => ⟨h1, ⟨_, _, h2⟩, h3⟩
theorem s_there (h : Sh w a b has) (k : Int) :
    Calls Tryz.prog 109 #[.pointer (some ⟨a, 0, none⟩), .int .i64 k] w fun e w' => e = .returned (.bool (hasN has k)) ∧ w' = w := by
  obtain ⟨ws, c, h⟩ := h; exact there_any h k
theorem s_size (h : Sh w a b has) :
    Calls Tryz.prog 58 #[.pointer (some ⟨a, 0, none⟩)] w fun e w' => e = .returned (.int .i64 (has.length : Int)) ∧ w' = w := by
  obtain ⟨ws, c, h⟩ := h; exact size_any h
theorem s_taken (h : Sh w a b has) (k : Int) :
    Calls Tryz.prog 59 #[.pointer (some ⟨a, 0, none⟩), .int .i64 k] w fun e w' => e = .returned (.bool (isT has k)) ∧ ∃ n, w' = w.drewN n := by
  obtain ⟨ws, c, h⟩ := h; exact taken_any h k
theorem s_lowest (h : Sh w a b has) (hT : Tab w) :
    Calls Tryz.prog 144 #[.pointer (some ⟨a, 0, none⟩)] w fun e w' => e = .returned (.int .i64 (lowI has)) ∧ w' = w := by
  obtain ⟨ws, c, h⟩ := h; exact lowest_any h (hid hT)
end

set_option maxRecDepth 20000 in
set_option maxHeartbeats 1000000 in
theorem free_any {w : World} {a b c : Nat} {ws : List Nat} {has : List Bool} (h : Sw w a b ws c has) :
    Calls Tryz.prog 154 #[.pointer (some ⟨a, 0, none⟩)] w fun e w' => e = .returned (.int .i64 (frees has : Int)) ∧ w' = w := by
  have c1 := h.c1
  have hwl := h.wl
  have hle := h.le
  have HS : Hid (Sw w a b ws c has) := h
  clear h
  go_enter Tryz.func154, Tryz.ntmps154
  go_wp2
  go_loopw [3, 5, 13] (fun n _ i wr => ∃ j : Nat, j ≤ ws.length ∧ i = .int .i64 j ∧ n = .int .i64 (frees (has.take (64 * j)) : Nat) ∧ wr = w) (fun _ _ i _ => ws.length - (intOf i).toNat)
  case atStart => exact ⟨0, by omega, rfl, by simp [frees], rfl⟩
  case round =>
    obtain ⟨j, hj, rfl, rfl, hwr⟩ := hrel
    obtain rfl := hwr.symm
    clear hwr
    by_cases hlt : j < ws.length
    · have cw := HS.out.cw j hlt
      have HC : Hid (Calls Tryz.prog 196 #[.int .u64 (ws[j]'hlt : Nat)] w fun e w' => e = .returned (.int .i64 (pc 64 (ws[j]'hlt) : Nat)) ∧ w' = w) := oc_any _ w (HS.out.bits.lt j hlt)
      have hcnt := hid (HS.out.bits.count j hlt)
      have hb1 : frees (has.take (64 * (j + 1))) ≤ 65536 := by have := frees_le (has.take (64 * (j + 1))); simp at this; omega
      rw [hcnt.out] at hb1
      generalize (ws[j]'hlt) = x at *
      generalize frees (has.take (64 * j)) = f at *
      generalize pc 64 x = p at *
      go_wp2_with fail
      refine HC.out.mono ?_
      rintro e w2 ⟨rfl, hw⟩
      obtain rfl := hw.symm
      go_wp2
      go_roundw
      case rel => exact ⟨j + 1, by omega, by go_num, by rw [hcnt.out]; go_num, trivial⟩
      case measure => simp [intOf]; omega
    · obtain rfl : j = ws.length := by omega
      have hall := hid (HS.out.bits.all)
      go_wp2
      go_ret
      exact ⟨by rw [hall.out]; simp, rfl⟩
theorem s_free {w : World} {a b : Nat} {has : List Bool} (h : Sh w a b has) :
    Calls Tryz.prog 154 #[.pointer (some ⟨a, 0, none⟩)] w fun e w' => e = .returned (.int .i64 (frees has : Int)) ∧ w' = w := by
  obtain ⟨ws, c, h⟩ := h; exact free_any h

theorem isT_nat (has : List Bool) (k : Nat) (hk : k < has.length) : isT has (k : Int) = has[k] := by
  simp [isT, hasN, hk]
set_option maxRecDepth 20000 in
theorem s_takeAt {w : World} {a b : Nat} {has : List Bool} (h : Sh w a b has) (k : Int) :
    Calls Tryz.prog 146 #[.pointer (some ⟨a, 0, none⟩), .int .i64 k] w fun e w' => e = .returned (.int .i64 (taE has k)) ∧ Sh w' a b (taS has k) ∧ Fr (fun i => i = b) w w' := by
  have HR := hid (s_there h k)
  have HK := hid (s_taken h k)
  have HH := hid h
  have HL := hid h.le
  cases hn : hasN has k with
  | false =>
    have e1 : taE has k = 12 := by simp [taE, hn]
    have e2 : taS has k = has := by simp [taS, hn]
    rw [hn] at HR
    rw [e1, e2]
    clear h e1 e2 hn HK
    go_enter Tryz.func146, Tryz.ntmps146
    go_wp2_with fail
    refine HR.out.mono ?_
    rintro e w' ⟨rfl, hw⟩
    obtain rfl := hw.symm
    go_wp2
    go_ret
    exact ⟨by simp, HH.out, Fr.refl _ _⟩
  | true =>
    obtain ⟨g1, g2⟩ := hasN_iff.1 hn
    obtain ⟨n, rfl⟩ : ∃ n : Nat, k = (n : Int) := ⟨k.toNat, by omega⟩
    have hlt : n < has.length := by omega
    rw [hn] at HR
    cases ht : isT has (n : Int) with
    | true =>
      have e1 : taE has (n : Int) = 7 := by simp [taE, hn, ht]
      have e2 : taS has (n : Int) = has := taS_taken _ _ ht
      rw [ht] at HK
      rw [e1, e2]
      clear h e1 e2 hn ht g1 g2
      go_enter Tryz.func146, Tryz.ntmps146
      go_wp2_with fail
      refine HR.out.mono ?_
      rintro e w' ⟨rfl, hw⟩
      obtain rfl := hw.symm
      go_wp2_with fail
      refine HK.out.mono ?_
      rintro e w' ⟨rfl, m, rfl⟩
      go_wp2
      go_ret
      exact ⟨by simp, HH.out.drewN m, (Fr.refl _ _).drewN m⟩
    | false =>
      have e1 : taE has (n : Int) = 0 := by simp [taE, hn, ht]
      have e2 : taS has (n : Int) = has.set n (!has[n]) := by
        rw [isT_nat has n hlt] at ht
        simp [taS, hn, ht]
      have HT := hid (fun m => s_turn (h.drewN m) n hlt)
      rw [ht] at HK
      rw [e1, e2]
      clear h e1 e2 hn ht g1 g2
      generalize has.set n (!has[n]) = has' at *
      go_enter Tryz.func146, Tryz.ntmps146
      go_wp2_with fail
      refine HR.out.mono ?_
      rintro e w' ⟨rfl, hw⟩
      obtain rfl := hw.symm
      go_wp2_with fail
      refine HK.out.mono ?_
      rintro e w' ⟨rfl, m, rfl⟩
      go_wp2_with fail
      refine (HT.out m).mono ?_
      rintro e w1 ⟨rfl, h1, f1⟩
      have H1 := hid (And.intro h1 (Fr.trans (Fr.drewN (Fr.refl (fun i => i = b) w) m) f1))
      clear h1 f1
      go_wp2
      go_ret
      exact ⟨by simp, H1.out⟩
set_option maxRecDepth 20000 in
theorem s_give {w : World} {a b : Nat} {has : List Bool} (h : Sh w a b has) (k : Int) :
    Calls Tryz.prog 114 #[.pointer (some ⟨a, 0, none⟩), .int .i64 k] w fun e w' => e = .returned (.int .i64 (giE has k)) ∧ Sh w' a b (giS has k) ∧ Fr (fun i => i = b) w w' := by
  have HR := hid (s_there h k)
  have HK := hid (s_taken h k)
  have HH := hid h
  have HL := hid h.le
  cases hn : hasN has k with
  | false =>
    have e1 : giE has k = 12 := by simp [giE, hn]
    have e2 : giS has k = has := by simp [giS, hn]
    rw [hn] at HR
    rw [e1, e2]
    clear h e1 e2 hn HK
    go_enter Tryz.func114, Tryz.ntmps114
    go_wp2_with fail
    refine HR.out.mono ?_
    rintro e w' ⟨rfl, hw⟩
    obtain rfl := hw.symm
    go_wp2
    go_ret
    exact ⟨by simp, HH.out, Fr.refl _ _⟩
  | true =>
    obtain ⟨g1, g2⟩ := hasN_iff.1 hn
    obtain ⟨n, rfl⟩ : ∃ n : Nat, k = (n : Int) := ⟨k.toNat, by omega⟩
    have hlt : n < has.length := by omega
    rw [hn] at HR
    cases ht : isT has (n : Int) with
    | false =>
      have e1 : giE has (n : Int) = 13 := by simp [giE, hn, ht]
      have e2 : giS has (n : Int) = has := giS_free _ _ ht
      rw [ht] at HK
      rw [e1, e2]
      clear h e1 e2 hn ht g1 g2
      go_enter Tryz.func114, Tryz.ntmps114
      go_wp2_with fail
      refine HR.out.mono ?_
      rintro e w' ⟨rfl, hw⟩
      obtain rfl := hw.symm
      go_wp2_with fail
      refine HK.out.mono ?_
      rintro e w' ⟨rfl, m, rfl⟩
      go_wp2
      go_ret
      exact ⟨by simp, HH.out.drewN m, (Fr.refl _ _).drewN m⟩
    | true =>
      have e1 : giE has (n : Int) = 0 := by simp [giE, hn, ht]
      have e2 : giS has (n : Int) = has.set n (!has[n]) := by
        rw [isT_nat has n hlt] at ht
        simp [giS, hn, ht]
      have HT := hid (fun m => s_turn (h.drewN m) n hlt)
      rw [ht] at HK
      rw [e1, e2]
      clear h e1 e2 hn ht g1 g2
      generalize has.set n (!has[n]) = has' at *
      go_enter Tryz.func114, Tryz.ntmps114
      go_wp2_with fail
      refine HR.out.mono ?_
      rintro e w' ⟨rfl, hw⟩
      obtain rfl := hw.symm
      go_wp2_with fail
      refine HK.out.mono ?_
      rintro e w' ⟨rfl, m, rfl⟩
      go_wp2_with fail
      refine (HT.out m).mono ?_
      rintro e w1 ⟨rfl, h1, f1⟩
      have H1 := hid (And.intro h1 (Fr.trans (Fr.drewN (Fr.refl (fun i => i = b) w) m) f1))
      clear h1 f1
      go_wp2
      go_ret
      exact ⟨by simp, H1.out⟩
end Go.Proofs.YtejbdbjccjkfdaaGreatDoor.Sf

namespace Go.Proofs.YtejbdbjccjkfdaaGreatDoor.Sf
open Go.RowKit

theorem Tryz.infoU64 : (Tryz.prog.info? 172).map (fun i => (i.zero, i.size, i.bytes)) = some (some (.int .u64 0), 1, 8) := by kernel_rfl
theorem made_words (n : Nat) : madeCells #[Value.int .u64 0] n = (wc (List.replicate n 0)).toArray := by
  apply Array.ext'
  rw [toList_madeCells_one]
  simp [wc]
/-- Numbers of which the first j are free. -/
def part (j n : Nat) : List Bool := List.replicate j false ++ List.replicate (n - j) true
theorem part_length (j n : Nat) (h : j ≤ n) : (part j n).length = n := by simp [part]; omega
theorem part_step (j n : Nat) (h : j < n) (hl : j < (part j n).length) : (part j n).set j (!(part j n)[j]) = part (j + 1) n := by
  have e : (part j n)[j] = true := by simp [part]
  rw [e]
  unfold part
  rw [List.set_append_right _ _ (by simp), List.length_replicate, Nat.sub_self, show n - j = (n - (j + 1)) + 1 by omega, List.replicate_succ, List.set_cons_zero, List.replicate_succ', List.append_assoc]
  rfl
theorem part_all (n : Nat) : part n n = List.replicate n false := by simp [part]
theorem part_none (n : Nat) : part 0 n = List.replicate n true := by simp [part]

set_option maxRecDepth 20000 in
set_option maxHeartbeats 1000000 in
theorem new_ok (n : Nat) (w : World) (h : n ≤ 65536) (hT : Pos w) :
    Calls Tryz.prog 81 #[.int .i64 n] w fun e w' => e = .returned (.tuple #[.pointer (some ⟨w.heap.size + 1, 0, none⟩), .int .i64 0]) ∧ Sh w' (w.heap.size + 1) w.heap.size (List.replicate n false) ∧ Fr (fun _ => False) w w' := by
  obtain ⟨i0, hi, hz0, hz1, hz2⟩ := info_parts Tryz.infoU64
  obtain ⟨q, hq⟩ : ∃ q : Nat, (n + 63) / 64 = q := ⟨_, rfl⟩
  have hq1 : ((n : Int) + 64 - 1) / 64 = (q : Int) := by omega
  have hmk := run_make (P := Tryz.prog) w 169 172 i0 (.int .u64 0) Tryz.underlying169 hi hz0 .i64 .i64 (q : Int) (q : Int) (by omega) (by omega) (by rw [hz2]; omega) (by omega)
  rw [hz1] at hmk
  simp only [Int.toNat_natCast, Nat.mul_one, Value.cells, made_words] at hmk
  have HP := hid hT.pos
  have HS : Hid (Sh ((w.alloc (.cells (wc (List.replicate q 0)).toArray 172)).alloc (.cells #[.int .i64 (n : Int), .slice (some ⟨w.heap.size, 0, none⟩) q q] 171)) (w.heap.size + 1) w.heap.size (part 0 n)) := by
    have hB := Bits.zeroes n
    rw [hq] at hB
    rw [part_none]
    refine ⟨List.replicate q 0, q, hB, ?_, ?_, by omega, by have := hT.pos; omega, hT.pos, by simpa using h, ?_⟩
    · rw [heap_two]; simp
    · have := (World.ownsRow_lit (e := 172) (base := 0) (size := 1) w (wc (List.replicate q 0)).toArray q (by omega) (by simp [maxLen]; omega) (by simp [wc])).alloc (.cells #[.int .i64 (n : Int), .slice (some ⟨w.heap.size, 0, none⟩) q q] 171)
      simpa using this
    · exact hT.carry (S := fun _ => False) (((Fr.refl _ w).alloc _).alloc _) (fun h => h)
  clear hi hz0 hz1 hz2 hT hq
  go_enter Tryz.func81, Tryz.ntmps81
  go_wp2
  clear hq1 hmk
  go_loopw [5, 21] (fun _ i wr => ∃ j : Nat, j ≤ n ∧ i = .int .i64 j ∧ Sh wr (w.heap.size + 1) w.heap.size (part j n) ∧ Fr (fun _ => False) w wr) (fun _ i _ => n - (intOf i).toNat)
  case atStart => exact ⟨0, by omega, rfl, HS.out, ((Fr.refl _ w).alloc _).alloc _⟩
  case round =>
    obtain ⟨j, hj, rfl, hs, hf⟩ := hrel
    have HS2 := hid hs
    have HF := hid hf
    clear hs hf HS
    by_cases hlt : j < n
    · have hl : j < (part j n).length := by rw [part_length j n hj]; exact hlt
      have HC := hid (s_turn HS2.out j hl)
      rw [part_step j n hlt hl] at HC
      go_wp2_with fail
      refine HC.out.mono ?_
      rintro e w2 ⟨rfl, h2, f2⟩
      have H2 := hid (And.intro h2 (HF.out.trans' f2 (fun i hi he => by omega)))
      clear h2 f2
      go_wp2
      go_roundw
      case rel => exact ⟨j + 1, by omega, by go_num, H2.out.1, H2.out.2⟩
      case measure => simp [intOf]; omega
    · obtain rfl : j = n := by omega
      go_wp2
      go_ret2
      exact ⟨by simp, by rw [← part_all]; exact HS2.out, HF.out⟩
set_option maxRecDepth 20000 in
theorem new_bad (n : Int) (w : World) (h : n < 0 ∨ 65536 < n) :
    Calls Tryz.prog 81 #[.int .i64 n] w fun e w' => e = .returned (.tuple #[.pointer none, .int .i64 12]) ∧ w' = w := by
  by_cases h0 : n < 0
  · go_enter Tryz.func81, Tryz.ntmps81
    go_wp2
    go_ret2
    exact ⟨by simp, rfl⟩
  · have h1 : 65536 < n := by omega
    clear h
    go_enter Tryz.func81, Tryz.ntmps81
    go_wp2
    go_ret2
    exact ⟨by simp, rfl⟩


theorem copied {w w1 : World} {a b g c c' : Nat} {ws : List Nat} {has : List Bool} (h : Sw w a b ws c has) (hr : w1.ownsRow 0 172 1 (.slice (some ⟨g, 0, none⟩) ws.length c') ws.length (wc ws)) (hf : Fr (fun _ => False) w w1) (hg : w.heap.size ≤ g) :
    Sh (w1.alloc (.cells #[.int .i64 (has.length : Int), .slice (some ⟨g, 0, none⟩) ws.length c'] 171)) w1.heap.size g has ∧ Fr (fun _ => False) w (w1.alloc (.cells #[.int .i64 (has.length : Int), .slice (some ⟨g, 0, none⟩) ws.length c'] 171)) := by
  have hgl := (hr.lt g rfl).2
  have hp := h.tab.pos
  refine ⟨⟨ws, c', h.bits, heap_alloc_new _ _, hr.alloc _, by omega, by omega, by omega, h.le, ?_⟩, hf.alloc _⟩
  exact (h.tab.carry hf (fun h => h)).carry (S := fun _ => False) ((Fr.refl _ w1).alloc _) (fun h => h)

end Go.Proofs.YtejbdbjccjkfdaaGreatDoor.Sf

namespace Go.Proofs.YtejbdbjccjkfdaaGreatDoor
open Go.RowKit
open An

/-- The program's chain. -/
def Chm (w : World) (c a : Nat) (k : Ck) : Prop := w.heap[c]? = some (.cells #[.pointer (some ⟨a, 0, none⟩), .int .i64 k.base, .int .i64 k.unit, .int .i64 k.per, .int .u64 k.hd] 222 (0, 0))
theorem Chm.chain : Chain1 Chm := ⟨fun {w w' c a k S} h f hn => by unfold Chm at h ⊢; rw [f.block c (Array.getElem?_eq_some_iff.1 h).1 hn]; exact h, fun h => (Array.getElem?_eq_some_iff.1 h).1⟩
section
variable {w w' : World} {c a : Nat} {k : Ck}
theorem Chm.c0 (h : Chm w c a k) : w.cell? ⟨c, 0, none⟩ = some (.pointer (some ⟨a, 0, none⟩)) := by unfold Chm at h; simp [World.cell?, h]
theorem Chm.c1 (h : Chm w c a k) : w.cell? ⟨c, 1, none⟩ = some (.int .i64 k.base) := by unfold Chm at h; simp [World.cell?, h]
theorem Chm.c2 (h : Chm w c a k) : w.cell? ⟨c, 2, none⟩ = some (.int .i64 k.unit) := by unfold Chm at h; simp [World.cell?, h]
theorem Chm.c3 (h : Chm w c a k) : w.cell? ⟨c, 3, none⟩ = some (.int .i64 k.per) := by unfold Chm at h; simp [World.cell?, h]
theorem Chm.c4 (h : Chm w c a k) : w.cell? ⟨c, 4, none⟩ = some (.int .u64 k.hd) := by unfold Chm at h; simp [World.cell?, h]
theorem Chm.fz (h : Chm w c a k) (j : Nat) : w.frozen? ⟨c, j, none⟩ = false := by unfold Chm at h; simp [World.frozen?, h]
theorem Chm.head (h : Chm w c a k) {v : Nat} {x : Int} (hx : x = (v : Int)) : Chm (w.setCell ⟨c, 4, none⟩ (.int .u64 x)) c a (k.to v) := by unfold Chm at h ⊢; subst hx; simp [World.setCell, Array.getElem?_modify, h, Ck.to]
theorem Chm.base (h : Chm w c a k) (x : Nat) : Chm (w.setCell ⟨c, 1, none⟩ (.int .i64 x)) c a ⟨x, k.unit, k.per, k.hd⟩ := by unfold Chm at h ⊢; simp [World.setCell, Array.getElem?_modify, h]
end
section
variable {w : World} {a c : Nat} {Z : Nat → Prop} {bs : List UInt8} {ss : List Sp} {k : Ck}
set_option maxRecDepth 20000 in
theorem m_move (q : Chm w c a k) (g : Am 144 a bs ss w Z) (hu : k.unit ≤ 512) (hp : k.per ≤ 64) (x : Int) (hx : x ≤ 9223372036854775807) : Calls Tryz.prog 175 #[.pointer (some ⟨c, 0, none⟩), .int .i64 x] w fun e w' => e = .returned (.int .i64 (moE k bs.length x)) ∧ Chm w' c a (moS k bs.length x) ∧ Fr (fun i => i = c) w w' := by
  unfold moE moS
  have HC := hid q
  have c0 := q.c0
  have c1 := q.c1
  have c2 := q.c2
  have c3 := q.c3
  have f1 := q.fz
  have H1 : Hid (∀ w0, Fr (fun _ => False) w w0 → Calls Tryz.prog 31 #[.pointer (some ⟨a, 0, none⟩)] w0 fun e w' => e = .returned (.int .i64 bs.length) ∧ w' = w0) := fun w0 f => am_size (g.kept f)
  have hl := g.le
  have hup : k.unit * k.per ≤ 512 * 64 := Nat.mul_le_mul hu hp
  have hm : IntKind.i64.wrap ((k.unit : Int) * (k.per : Int)) = ((k.unit * k.per : Nat) : Int) := by rw [IntKind.wrap_i64, ← Int.natCast_mul]; omega
  clear q g hu hp
  unfold Ck.Lies
  generalize k.unit * k.per = m at *
  generalize bs.length = n at *
  by_cases h0 : x < 0
  · have hn : ¬ (0 ≤ x ∧ x + (m : Int) ≤ n) := by omega
    rw [if_neg hn, if_neg hn]
    clear hn
    go_enter Tryz.func175, Tryz.ntmps175
    go_wp2_with fail
    go_quiet (fail)
    go_wp2
    go_ret
    exact ⟨by simp, Chm.chain.carry HC.out ((Fr.refl (fun _ => False) _).drewN _) id, (Fr.refl _ _).drewN _⟩
  obtain ⟨x, rfl⟩ := Int.eq_ofNat_of_zero_le (show 0 ≤ x by omega)
  have hw : IntKind.i64.wrap ((n : Int) - x) = n - x := by rw [IntKind.wrap_i64]; omega
  by_cases h2 : (m : Int) ≤ n - x
  · have hn : (0 ≤ (x : Int) ∧ (x : Int) + (m : Int) ≤ n) := by omega
    rw [if_pos hn, if_pos hn]
    clear hn
    go_enter Tryz.func175, Tryz.ntmps175
    go_wp2_with fail
    go_region_held3 (fun w' => w'.cell? ⟨c, 0, none⟩ = some (.pointer (some ⟨a, 0, none⟩)) ∧ w'.cell? ⟨c, 2, none⟩ = some (.int .i64 k.unit) ∧ w'.cell? ⟨c, 3, none⟩ = some (.int .i64 k.per)) (first | go_keep | exact ⟨by assumption, by assumption, by assumption⟩) (first | (go_at_call 31; refine (H1.out _ (Fr.refl _ _).drew).mono ?_; rintro e w1 ⟨rfl, rfl⟩))
    go_wp2
    go_ret
    exact ⟨by simp, (Chm.chain.carry HC.out (Fr.refl (fun _ => False) _).drew id).base x, Fr.setCell (S := fun i => i = c) (p := ⟨c, 1, none⟩) (Fr.refl _ _).drew rfl _⟩
  · have hn : ¬ (0 ≤ (x : Int) ∧ (x : Int) + (m : Int) ≤ n) := by omega
    rw [if_neg hn, if_neg hn]
    clear hn
    go_enter Tryz.func175, Tryz.ntmps175
    go_wp2_with fail
    go_region_held3 (fun w' => w'.cell? ⟨c, 0, none⟩ = some (.pointer (some ⟨a, 0, none⟩)) ∧ w'.cell? ⟨c, 2, none⟩ = some (.int .i64 k.unit) ∧ w'.cell? ⟨c, 3, none⟩ = some (.int .i64 k.per)) (first | go_keep | exact ⟨by assumption, by assumption, by assumption⟩) (first | (go_at_call 31; refine (H1.out _ (Fr.refl _ _).drew).mono ?_; rintro e w1 ⟨rfl, rfl⟩))
    go_wp2
    go_ret
    exact ⟨by simp, Chm.chain.carry HC.out (Fr.refl (fun _ => False) _).drew id, (Fr.refl _ _).drew⟩
theorem p_move (q : Chm w c a k) (g : Am 144 a bs ss w Z) (ok : k.Ok bs.length) (x : Int) (hx : x ≤ 9223372036854775807) : Calls Tryz.prog 175 #[.pointer (some ⟨c, 0, none⟩), .int .i64 x] w fun e w' => e = .returned (.int .i64 (moE k bs.length x)) ∧ Chm w' c a (moS k bs.length x) ∧ Fr (fun i => i = c) w w' := m_move q g ok.u1 ok.p1 x hx
theorem new_cell {c0 : Nat} (w : World) (a u p : Nat) (h : c0 = w.heap.size) : Chm (w.alloc (.cells #[.pointer (some ⟨a, 0, none⟩), .int .i64 0, .int .i64 u, .int .i64 p, .int .u64 0] 222)) c0 a ⟨0, u, p, 0⟩ := by
  subst h
  unfold Chm; rw [heap_alloc_new]; simp
theorem made_new (h : Am 144 a bs ss w Z) (u p : Nat) (hu : u ≤ 512) (hp : p ≤ 64) (x : Int) (hx : x ≤ 9223372036854775807) : Calls Tryz.prog 175 #[.pointer (some ⟨w.heap.size, 0, none⟩), .int .i64 x] (w.alloc (.cells #[.pointer (some ⟨a, 0, none⟩), .int .i64 0, .int .i64 u, .int .i64 p, .int .u64 0] 222)) fun e w' => e = .returned (.int .i64 (moE ⟨0, u, p, 0⟩ bs.length x)) ∧ Chm w' w.heap.size a (moS ⟨0, u, p, 0⟩ bs.length x) ∧ Fr (fun _ => False) w w' :=
  (m_move (new_cell w a u p rfl) (h.kept ((Fr.refl _ _).alloc _)) hu hp x hx).mono fun e w' ⟨he, h1, f⟩ => ⟨he, h1, Fr.trans' ((Fr.refl _ _).alloc _) f fun i hi e => by omega⟩
set_option maxRecDepth 20000 in
theorem p_new (h : Am 144 a bs ss w Z) {x u p : Int} (hn : NewOk bs.length x u p) : Calls Tryz.prog 197 #[.pointer (some ⟨a, 0, none⟩), .int .i64 x, .int .i64 u, .int .i64 p] w fun e w' => ∃ c, e = .returned (.tuple #[.pointer (some ⟨c, 0, none⟩), .int .i64 0]) ∧ w.heap.size ≤ c ∧ Chm w' c a ⟨x.toNat, u.toNat, p.toNat, 0⟩ ∧ Fr (fun _ => False) w w' := by
  have hl := h.le
  obtain ⟨⟨h1, h2⟩, ⟨h3, h4⟩, h5, h6⟩ := hn
  obtain ⟨x, rfl⟩ := Int.eq_ofNat_of_zero_le h5
  obtain ⟨u, rfl⟩ := Int.eq_ofNat_of_zero_le (show 0 ≤ u by omega)
  obtain ⟨p, rfl⟩ := Int.eq_ofNat_of_zero_le (show 0 ≤ p by omega)
  have hup : 0 ≤ (u : Int) * (p : Int) := Int.mul_nonneg (by omega) (by omega)
  have H1 := hid (made_new h u p (by omega) (by omega) x (by omega))
  have hlies : (Ck.mk 0 u p 0).Lies bs.length x := ⟨h5, by show (x : Int) + ((u * p : Nat) : Int) ≤ _; rw [Int.natCast_mul]; exact h6⟩
  unfold moE moS at H1
  rw [if_pos hlies, if_pos hlies] at H1
  clear h h6 h5 hlies hup hl
  have g1 : ¬ (u : Int) < 8 := by omega
  have g2 : ¬ 512 < (u : Int) := by omega
  have g3 : ¬ (p : Int) < 1 := by omega
  have g4 : ¬ 64 < (p : Int) := by omega
  clear h1 h2 h3 h4
  go_enter Tryz.func197, Tryz.ntmps197
  go_wp2_with fail
  refine H1.out.mono ?_
  rintro e w1 ⟨rfl, hq, f⟩
  have HQ := hid hq
  have HF := hid f
  clear hq f
  go_wp2
  go_ret2
  exact ⟨_, rfl, Nat.le_refl _, HQ.out, HF.out⟩
set_option maxRecDepth 20000 in
theorem p_at (q : Chm w c a k) {n : Nat} (ok : k.Ok n) (hn : n ≤ 2097152) {x : Nat} (hx : x < k.per) : Calls Tryz.prog 200 #[.pointer (some ⟨c, 0, none⟩), .int .i64 x] w fun e w' => e = .returned (.int .i64 (k.pos x)) ∧ Fr (fun _ => False) w w' := by
  have c1 := q.c1
  have c2 := q.c2
  obtain ⟨r1, r2⟩ := ok.reck hn hx
  clear q ok hn hx
  generalize k.pos x = ps at *
  generalize x * k.unit = m at *
  go_enter Tryz.func200, Tryz.ntmps200
  go_wp2_with fail
  go_region_held3 (fun w' => w'.cell? ⟨c, 1, none⟩ = some (.int .i64 k.base) ∧ w'.cell? ⟨c, 2, none⟩ = some (.int .i64 k.unit)) (first | go_keep | exact ⟨by assumption, by assumption⟩) (fail)
  go_wp2
  go_ret
  exact ⟨by simp, (Fr.refl _ _).drew⟩
set_option maxRecDepth 20000 in
set_option maxHeartbeats 1000000 in
theorem p_push_ok (q : Chm w c a k) (g : Am 144 a bs ss w Z) (ok : k.Ok bs.length) (nz : ¬ Z c) (hk : ss.length ≤ 1000000) {x : Nat} (hx : x < k.per) : Calls Tryz.prog 176 #[.pointer (some ⟨c, 0, none⟩), .int .i64 x] w fun e w' => e = .returned (.int .i64 0) ∧ ∃ Z', Left 144 Chm w c a Z (over bs (k.pos x) (leb k.hd 8)) (ss ++ [((k.pos x : Int), (8 : Int), true)]) (k.to (x + 1)) Z' w' := by
  have c0 := q.c0
  have c3 := q.c3
  have c4 := q.c4
  have hh := ok.hd
  have hp := ok.p1
  have r3 := wrapU (x : Int) (by omega) (by omega)
  have r4 := wrapU ((x : Int) + 1) (by omega) (by omega)
  have HT : Hid (∀ w0, Fr (fun _ => False) w w0 → Calls Tryz.prog 200 #[.pointer (some ⟨c, 0, none⟩), .int .i64 x] w0 fun e w' => e = .returned (.int .i64 (k.pos x)) ∧ Chm w' c a k ∧ Fr (fun _ => False) w w') := fun w0 f => (p_at (Chm.chain.carry q f id) ok g.le hx).mono fun e w' ⟨he, f2⟩ => ⟨he, Chm.chain.carry q (f.trans f2) id, f.trans f2⟩
  have HS : Hid (∀ w0, Fr (fun _ => False) w w0 → Calls Tryz.prog 199 #[.pointer (some ⟨a, 0, none⟩), .int .i64 (k.pos x), .int .u64 k.hd] w0 fun e w' => e = .returned (.int .i64 0) ∧ ∃ Z', Left 144 Chm w c a Z (over bs (k.pos x) (leb k.hd 8)) (ss ++ [((k.pos x : Int), (8 : Int), true)]) k Z' w') :=
    fun w0 f => (am_store (g.kept f) (k.pos x) k.hd (by omega) (ok.at hx) hk).mono fun e w' ⟨he, Z', h1, h2⟩ => ⟨he, Z', (Left.arena Chm.chain (Chm.chain.carry q f id) nz h1 h2).ahead f⟩
  have hx' : (x : Int) < k.per := by omega
  clear q g ok nz hk hx hh hp
  generalize k.pos x = ps at *
  go_enter Tryz.func176, Tryz.ntmps176
  go_wp2_with fail
  go_region_held3 (fun w' => w'.cell? ⟨c, 0, none⟩ = some (.pointer (some ⟨a, 0, none⟩)) ∧ w'.cell? ⟨c, 4, none⟩ = some (.int .u64 k.hd)) (first | go_keep | exact ⟨by assumption, by assumption⟩) (first | (go_at_call 200; refine (HT.out _ (Fr.refl _ _).drew).mono ?_; rintro e w9 ⟨rfl, hq9, hf9⟩; have F9 := hid hf9; have b0 := hq9.c0; have b3 := hq9.c3; have b4 := hq9.c4; clear hq9 hf9) | (go_at_call 199; refine (HS.out _ F9.out).mono ?_; rintro e w1 ⟨rfl, Z', hL⟩; have HL := hid hL; have d0 := hL.q.c0; have d4 := hL.q.c4; have fz := hL.q.fz; clear hL))
  clear HS HT c0 c3 c4
  go_wp2
  go_ret
  exact ⟨by simp, Z', HL.out.set (HL.out.q.head (by omega))⟩
set_option maxRecDepth 20000 in
set_option maxHeartbeats 1000000 in
theorem follow_ok (q : Chm w c a k) (g : Am 144 a bs ss w Z) (ok : k.Ok bs.length) (nz : ¬ Z c) (hk : ss.length ≤ 1000000) {x v : Nat} (hv : v = x + 1) (hx : x < k.per) (hw : wd bs (k.pos x) ≤ k.per) : Calls Tryz.prog 216 #[.pointer (some ⟨c, 0, none⟩), .int .u64 v] w fun e w' => e = .returned (.tuple #[.int .i64 x, .int .u64 (wd bs (k.pos x)), .int .i64 0]) ∧ ∃ Z', Left 144 Chm w c a Z bs (ss ++ [((k.pos x : Int), (8 : Int), false)]) k Z' w' ∧ Gw w w' Z Z' := by
  have c0 := q.c0
  have c3 := q.c3
  have hp := ok.p1
  have hlt := wd_lt bs (k.pos x)
  have r4 := wrapU (k.per : Int) (by omega) (by omega)
  have r5 : IntKind.u64.wrap ((v : Int) - 1) = x := by rw [wrapU _ (by omega) (by omega)]; omega
  have r6 := wrapI (x : Int) (by omega) (by omega)
  have r7 : (v : Int) ≤ k.per := by omega
  have HT : Hid (∀ w0, Fr (fun _ => False) w w0 → Calls Tryz.prog 200 #[.pointer (some ⟨c, 0, none⟩), .int .i64 x] w0 fun e w' => e = .returned (.int .i64 (k.pos x)) ∧ Chm w' c a k ∧ Fr (fun _ => False) w w') := fun w0 f => (p_at (Chm.chain.carry q f id) ok g.le hx).mono fun e w' ⟨he, f2⟩ => ⟨he, Chm.chain.carry q (f.trans f2) id, f.trans f2⟩
  have HL : Hid (∀ w0, Fr (fun _ => False) w w0 → Calls Tryz.prog 223 #[.pointer (some ⟨a, 0, none⟩), .int .i64 (k.pos x)] w0 fun e w' => e = .returned (.tuple #[.int .u64 (wd bs (k.pos x)), .int .i64 0]) ∧ ∃ Z', Left 144 Chm w c a Z bs (ss ++ [((k.pos x : Int), (8 : Int), false)]) k Z' w' ∧ Gw w w' Z Z') :=
    fun w0 f => (am_load (g.kept f) (k.pos x) (ok.at hx) hk).mono fun e w' ⟨he, Z', h1, h2⟩ => ⟨he, Z', (Left.arena Chm.chain (Chm.chain.carry q f id) nz h1 h2).ahead f, Gw.ahead f h2⟩
  have hw' : (wd bs (k.pos x) : Int) ≤ k.per := by omega
  clear q g ok nz hk hx hp hw hv
  generalize k.pos x = ps at *
  generalize wd bs ps = v2 at *
  go_enter Tryz.func216, Tryz.ntmps216
  go_wp2_with fail
  go_region_held3 (fun w' => w'.cell? ⟨c, 0, none⟩ = some (.pointer (some ⟨a, 0, none⟩))) (first | go_keep | exact (by assumption)) (first | (go_at_call 200; refine (HT.out _ (Fr.refl _ _).drew).mono ?_; rintro e w9 ⟨rfl, hq9, hf9⟩; have F9 := hid hf9; have b0 := hq9.c0; have b3 := hq9.c3; have b4 := hq9.c4; clear hq9 hf9) | (go_at_call 223; refine (HL.out _ F9.out).mono ?_; rintro e w1 ⟨rfl, Z', hL, hG⟩; have HA := hid hL; have HG := hid hG; have d0 := hL.q.c0; have d3 := hL.q.c3; clear hL hG))
  clear HL HT c0 c3
  go_wp2
  go_ret3
  exact ⟨by simp, Z', HA.out, HG.out⟩
set_option maxRecDepth 20000 in
set_option maxHeartbeats 1000000 in
theorem p_pop_ok (q : Chm w c a k) (g : Am 144 a bs ss w Z) (ok : k.Ok bs.length) (nz : ¬ Z c) (hk : ss.length < 1000000) {x : Nat} (h0 : k.hd = x + 1) (hw : wd bs (k.pos x) ≤ k.per) : Calls Tryz.prog 195 #[.pointer (some ⟨c, 0, none⟩)] w fun e w' => e = .returned (.tuple #[.int .i64 x, .int .i64 0]) ∧ ∃ Z', Left 144 Chm w c a Z (over bs (k.pos x) (leb 0 8)) (ss ++ [((k.pos x : Int), (8 : Int), false)] ++ [((k.pos x : Int), (8 : Int), true)]) (k.to (wd bs (k.pos x))) Z' w' := by
  have hx : x < k.per := by have := ok.hd; omega
  have c4 := q.c4
  have HF := hid (follow_ok q g ok nz (by omega) h0 hx hw)
  have HT : Hid (∀ w0 w2 Z1, Left 144 Chm w c a Z bs (ss ++ [((k.pos x : Int), (8 : Int), false)]) k Z1 w2 → Fr (fun _ => False) w2 w0 → Calls Tryz.prog 200 #[.pointer (some ⟨c, 0, none⟩), .int .i64 x] w0 fun e w' => e = .returned (.int .i64 (k.pos x)) ∧ Chm w' c a k ∧ Fr (fun _ => False) w2 w') := fun w0 w2 Z1 hL f => (p_at (Chm.chain.carry hL.q f id) ok g.le hx).mono fun e w' ⟨he, f2⟩ => ⟨he, Chm.chain.carry hL.q (f.trans f2) id, f.trans f2⟩
  have HS : Hid (∀ w0 w2 Z1, Left 144 Chm w c a Z bs (ss ++ [((k.pos x : Int), (8 : Int), false)]) k Z1 w2 → Fr (fun _ => False) w2 w0 → Calls Tryz.prog 199 #[.pointer (some ⟨a, 0, none⟩), .int .i64 (k.pos x), .int .u64 0] w0 fun e w' => e = .returned (.int .i64 0) ∧ ∃ Z', Left 144 Chm w c a Z (over bs (k.pos x) (leb 0 8)) (ss ++ [((k.pos x : Int), (8 : Int), false)] ++ [((k.pos x : Int), (8 : Int), true)]) k Z' w') :=
    fun w0 w2 Z1 hL f => (am_store (hL.am.kept f) (k.pos x) 0 (by omega) (ok.at hx) (by simp; omega)).mono fun e w' ⟨he, Z', h1, h2⟩ => ⟨he, Z', (hL.kept Chm.chain f).arena2 Chm.chain h1 h2⟩
  have hne : (k.hd : Int) ≠ 0 := by omega
  have HV : Hid (wd bs (k.pos x) = wd bs (k.pos x)) := rfl
  clear q g ok nz hk hx h0 hw
  generalize k.pos x = ps at *
  generalize wd bs ps = v2 at *
  generalize k.hd = v at c4 HF hne
  go_enter Tryz.func195, Tryz.ntmps195
  go_wp2_with fail
  refine HF.out.mono ?_
  rintro e w1 ⟨rfl, Z', hL, _⟩
  have HA := hid hL
  have d0 := hL.q.c0
  clear hL c4 HF
  go_wp2_with fail
  go_region_held3 (fun w' => w'.cell? ⟨c, 0, none⟩ = some (.pointer (some ⟨a, 0, none⟩))) (first | go_keep | exact (by assumption)) (first | (go_at_call 200; refine (HT.out _ _ _ HA.out (Fr.refl _ _).drew).mono ?_; rintro e w9 ⟨rfl, hq9, hf9⟩; have F9 := hid hf9; have b0 := hq9.c0; have b3 := hq9.c3; have b4 := hq9.c4; clear hq9 hf9) | (go_at_call 199; refine (HS.out _ _ _ HA.out F9.out).mono ?_; rintro e w3 ⟨rfl, Z3, hL⟩; have HB := hid hL; have e0 := hL.q.c0; have fz := hL.q.fz; have e4 := hL.q.c4; clear hL))
  clear HS HT HA d0
  go_wp2
  go_ret2
  exact ⟨by simp, Z3, HB.out.set (HB.out.q.head rfl)⟩
set_option maxRecDepth 20000 in
theorem p_empty (q : Chm w c a k) : Calls Tryz.prog 150 #[.pointer (some ⟨c, 0, none⟩)] w fun e w' => e = .returned (.bool (decide (k.hd = 0))) ∧ Fr (fun _ => False) w w' := by
  have c4 := q.c4
  clear q
  generalize k.hd = v at *
  by_cases h0 : v = 0
  · subst h0
    go_enter Tryz.func150, Tryz.ntmps150
    go_wp2
    go_ret
    exact ⟨by simp, Fr.refl _ _⟩
  · have h1 : (v : Int) ≠ 0 := by omega
    rw [decide_eq_false h0]
    clear h0
    go_enter Tryz.func150, Tryz.ntmps150
    go_wp2
    go_ret
    exact ⟨by simp; omega, Fr.refl _ _⟩
set_option maxRecDepth 20000 in
theorem p_take_ok (q : Chm w c a k) {d : Nat} {k2 : Ck} (q2 : Chm w d a k2) (hne : c ≠ d) (h0 : k.hd = 0) : Calls Tryz.prog 152 #[.pointer (some ⟨c, 0, none⟩), .pointer (some ⟨d, 0, none⟩)] w fun e w' => e = .returned (.int .i64 0) ∧ Chm w' c a (k.to k2.hd) ∧ Chm w' d a (k2.to 0) ∧ Fr (fun i => i = c ∨ i = d) w w' := by
  have HC := hid q
  have c4 := q.c4
  have d4 := q2.c4
  have f1 := q.fz
  have HF : Hid (Fr (fun i => i = c) w (w.setCell ⟨c, 4, none⟩ (.int .u64 (k2.hd : Int)))) := Fr.setCell (S := fun i => i = c) (p := ⟨c, 4, none⟩) (Fr.refl _ _) rfl _
  have HD2 := hid (Chm.chain.carry q2 HF.out (fun e => hne e.symm))
  have d5 := HD2.out.c4
  have f2 := HD2.out.fz
  rw [h0] at c4
  clear q q2
  go_enter Tryz.func152, Tryz.ntmps152
  go_wp2
  go_ret
  refine ⟨by simp, ?_, HD2.out.head (by omega), Fr.trans' (HF.out.mono fun _ _ e => .inl e) (Fr.setCell (S := fun i => i = d) (p := ⟨d, 4, none⟩) (Fr.refl _ _) rfl _) fun _ _ e => .inr e⟩
  exact Chm.chain.carry (HC.out.head rfl) (Fr.setCell (S := fun i => i = d) (p := ⟨d, 4, none⟩) (Fr.refl _ _) rfl _) hne
end
end Go.Proofs.YtejbdbjccjkfdaaGreatDoor
