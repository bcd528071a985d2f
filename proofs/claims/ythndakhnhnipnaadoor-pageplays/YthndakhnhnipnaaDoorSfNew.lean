/-
  Shelves that are made: New, Copy. And a shelf that is none.
-/
import Derived.Test.YthndakhnhnipnaaDoorSfMore
namespace Go.Proofs.YthndakhnhnipnaaDoor.Sf
open Go.RowKit

theorem Tryd.infoU64 : (Tryd.prog.info? 105).map (fun i => (i.zero, i.size, i.bytes)) = some (some (.int .u64 0), 1, 8) := by kernel_rfl
theorem made_words (n : Nat) : madeCells #[Value.int .u64 0] n = (wc (List.replicate n 0)).toArray := by
  apply Array.ext'
  rw [toList_madeCells_one]
  simp [wc]
/-- Numbers of which the first j are free. -/
def part (j n : Nat) : List Bool := List.replicate j false ++ List.replicate (n - j) true
theorem part_length (j n : Nat) (h : j ≤ n) : (part j n).length = n := by simp [part]; omega
theorem part_step (j n : Nat) (h : j < n) (hl : j < (part j n).length) : (part j n).set j (!(part j n)[j]) = part (j + 1) n := by
  have e : (part j n)[j] = true := by simp [part]
  rw [e]
  unfold part
  rw [List.set_append_right _ _ (by simp), List.length_replicate, Nat.sub_self, show n - j = (n - (j + 1)) + 1 by omega, List.replicate_succ, List.set_cons_zero, List.replicate_succ', List.append_assoc]
  rfl
theorem part_all (n : Nat) : part n n = List.replicate n false := by simp [part]
theorem part_none (n : Nat) : part 0 n = List.replicate n true := by simp [part]

set_option maxRecDepth 20000 in
set_option maxHeartbeats 1000000 in
theorem new_ok (n : Nat) (w : World) (h : n ≤ 65536) (hT : Tab w) :
    Calls Tryd.prog 38 #[.int .i64 n] w fun e w' => e = .returned (.tuple #[.pointer (some ⟨w.heap.size + 1, 0, none⟩), .int .i64 0]) ∧ Sh w' (w.heap.size + 1) w.heap.size (List.replicate n false) ∧ Fr (fun _ => False) w w' := by
  obtain ⟨i0, hi, hz0, hz1, hz2⟩ := info_parts Tryd.infoU64
  obtain ⟨q, hq⟩ : ∃ q : Nat, (n + 63) / 64 = q := ⟨_, rfl⟩
  have hq1 : ((n : Int) + 64 - 1) / 64 = (q : Int) := by omega
  have hmk := run_make (P := Tryd.prog) w 97 105 i0 (.int .u64 0) Tryd.underlying97 hi hz0 .i64 .i64 (q : Int) (q : Int) (by omega) (by omega) (by rw [hz2]; omega) (by omega)
  rw [hz1] at hmk
  simp only [Int.toNat_natCast, Nat.mul_one, Value.cells, made_words] at hmk
  have HP := hid hT.pos
  have HS : Hid (Sh ((w.alloc (.cells (wc (List.replicate q 0)).toArray 105)).alloc (.cells #[.int .i64 (n : Int), .slice (some ⟨w.heap.size, 0, none⟩) q q] 99)) (w.heap.size + 1) w.heap.size (part 0 n)) := by
    have hB := Bits.zeroes n
    rw [hq] at hB
    rw [part_none]
    refine ⟨List.replicate q 0, q, hB, ?_, ?_, by omega, by omega, hT.pos, by simpa using h, ?_⟩
    · rw [heap_two]; simp
    · have := (World.ownsRow_lit (e := 105) (base := 0) (size := 1) w (wc (List.replicate q 0)).toArray q (by omega) (by simp [maxLen]; omega) (by simp [wc])).alloc (.cells #[.int .i64 (n : Int), .slice (some ⟨w.heap.size, 0, none⟩) q q] 99)
      simpa using this
    · exact hT.carry (S := fun _ => False) (((Fr.refl _ w).alloc _).alloc _) (fun h => h)
  clear hi hz0 hz1 hz2 hT hq
  go_enter Tryd.func38, Tryd.ntmps38
  go_wp2
  clear hq1 hmk
  go_loopw [5, 21] (fun _ i wr => ∃ j : Nat, j ≤ n ∧ i = .int .i64 j ∧ Sh wr (w.heap.size + 1) w.heap.size (part j n) ∧ Fr (fun _ => False) w wr) (fun _ i _ => n - (intOf i).toNat)
  case atStart => exact ⟨0, by omega, rfl, HS.out, ((Fr.refl _ w).alloc _).alloc _⟩
  case round =>
    obtain ⟨j, hj, rfl, hs, hf⟩ := hrel
    have HS2 := hid hs
    have HF := hid hf
    clear hs hf HS
    by_cases hlt : j < n
    · have hl : j < (part j n).length := by rw [part_length j n hj]; exact hlt
      have HC := hid (s_turn HS2.out j hl)
      rw [part_step j n hlt hl] at HC
      go_wp2_with fail
      refine HC.out.mono ?_
      rintro e w2 ⟨rfl, h2, f2⟩
      have H2 := hid (And.intro h2 (HF.out.trans' f2 (fun i hi he => by omega)))
      clear h2 f2
      go_wp2
      go_roundw
      case rel => exact ⟨j + 1, by omega, by go_num, H2.out.1, H2.out.2⟩
      case measure => simp [intOf]; omega
    · obtain rfl : j = n := by omega
      go_wp2
      go_ret2
      exact ⟨by simp, by rw [← part_all]; exact HS2.out, HF.out⟩
set_option maxRecDepth 20000 in
theorem new_bad (n : Int) (w : World) (h : n < 0 ∨ 65536 < n) :
    Calls Tryd.prog 38 #[.int .i64 n] w fun e w' => e = .returned (.tuple #[.pointer none, .int .i64 12]) ∧ w' = w := by
  by_cases h0 : n < 0
  · go_enter Tryd.func38, Tryd.ntmps38
    go_wp2
    go_ret2
    exact ⟨by simp, rfl⟩
  · have h1 : 65536 < n := by omega
    clear h
    go_enter Tryd.func38, Tryd.ntmps38
    go_wp2
    go_ret2
    exact ⟨by simp, rfl⟩

theorem at_words {w : World} {g n c : Nat} {xs : List Value} (h : w.ownsRow 0 105 1 (.slice (some ⟨g, 0, none⟩) n c) n xs) : ∀ j u, xs[j]? = some u → w.cell? ((⟨g, 0, none⟩ : Addr).add j) = some u := h.cells rfl
set_option maxRecDepth 20000 in
set_option maxHeartbeats 400000 in
theorem clone_any {w : World} {g n c : Nat} {xs : List Value} (h : w.ownsRow 0 105 1 (.slice (some ⟨g, 0, none⟩) n c) n xs) (hone : ∀ u ∈ xs, u.oneCell' = true) (hn : n ≤ 1024) :
    Calls Tryd.prog 81 #[.slice (some ⟨g, 0, none⟩) n c] w fun e w' => ∃ g' c', e = .returned (.slice (some ⟨g', 0, none⟩) n c') ∧ w'.ownsRow 0 105 1 (.slice (some ⟨g', 0, none⟩) n c') n xs ∧ Fr (fun _ => False) w w' ∧ w.heap.size ≤ g' := by
  have heq := Lib.run_eql_slice_nil (P := Tryd.prog) w 97 105 (some ⟨g, 0, none⟩) n c 0 0 Tryd.underlying97
  have hg2 : g < w.heap.size := (h.lt g rfl).2
  have hsrc := at_words h
  have hlen := h.1
  obtain ⟨i0, hi, hz0, hz1, hz2⟩ := info_parts Tryd.infoU64
  clear h
  rcases Nat.eq_zero_or_pos n with h0 | h0
  · subst h0
    obtain rfl : xs = [] := List.eq_nil_of_length_eq_zero (by simpa using hlen)
    clear hsrc hone hlen hi hz0 hz1 hz2
    go_enter Tryd.func81, Tryd.ntmps81
    go_wp2
    go_ret
    exact ⟨_, _, rfl, ⟨rfl, .inr ⟨w.heap.size, 0, #[], rfl, Nat.zero_le _, heap_alloc_new w _, Nat.le_refl _, by simp [maxLen], rfl, rfl⟩⟩, (Fr.refl _ w).alloc _, Nat.le_refl _⟩
  · go_enter Tryd.func81, Tryd.ntmps81
    go_wp2_with (at_builtin; refine wpList_append_sep rfl (.tmp 5) (.tmp 6) 97 rfl w.heap.size 105 i0 (.int .u64 0) 1 8 Tryd.underlying97 hi hz0 hz1 hz2 rfl (by decide) _ 0 [] rfl ?c0 ⟨g, 0, none⟩ n c h0 xs rfl hlen ?c1 hone ?c3 ?c4 ?c5 ?_)
    case c0 => exact ⟨rfl, .inr ⟨w.heap.size, 0, #[], rfl, Nat.le_refl _, heap_alloc_new w _, Nat.le_refl _, by simp [maxLen], rfl, rfl⟩⟩
    case c1 =>
      intro j u hj
      have hadd : (⟨g, 0, none⟩ : Addr).add j = ⟨g, j, none⟩ := by unfold Addr.add; split <;> simp_all
      have := hsrc j u hj
      rw [hadd] at this ⊢
      rw [World.cell?_alloc_past _ _ _ hg2]
      exact this
    case c3 => unfold maxLen; omega
    case c4 => omega
    case c5 => simp
    · intro g' cap' w1 hown hgrow hsep
      have hfr : Fr (fun _ => False) w w1 := ((Fr.refl _ w).alloc _).grown hgrow (fun y hy => .inr (by simp [Value.ownBlock] at hy; omega))
      have HO := hid hown
      have HF := hid hfr
      have HG : Hid (w.heap.size ≤ g') := (hown.lt g' rfl).1
      clear hown hgrow hfr heq hsrc hone hi hz0 hz1 hz2 hsep
      go_wp2
      go_ret
      refine ⟨g', cap', by simp, ?_, HF.out, HG.out⟩
      have h2 := HO.out
      refine ⟨h2.1, ?_⟩
      rcases h2.2 with h3 | ⟨x, y, z, e1, _, rest⟩
      · exact .inl h3
      · exact .inr ⟨x, y, z, e1, Nat.zero_le _, rest⟩

theorem copied {w w1 : World} {a b g c c' : Nat} {ws : List Nat} {has : List Bool} (h : Sw w a b ws c has) (hr : w1.ownsRow 0 105 1 (.slice (some ⟨g, 0, none⟩) ws.length c') ws.length (wc ws)) (hf : Fr (fun _ => False) w w1) (hg : w.heap.size ≤ g) :
    Sh (w1.alloc (.cells #[.int .i64 (has.length : Int), .slice (some ⟨g, 0, none⟩) ws.length c'] 99)) w1.heap.size g has ∧ Fr (fun _ => False) w (w1.alloc (.cells #[.int .i64 (has.length : Int), .slice (some ⟨g, 0, none⟩) ws.length c'] 99)) := by
  have hgl := (hr.lt g rfl).2
  have hp := h.tab.pos
  refine ⟨⟨ws, c', h.bits, heap_alloc_new _ _, hr.alloc _, by omega, by omega, by omega, h.le, ?_⟩, hf.alloc _⟩
  exact (h.tab.carry hf (fun h => h)).carry (S := fun _ => False) ((Fr.refl _ w1).alloc _) (fun h => h)

set_option maxRecDepth 20000 in
set_option maxHeartbeats 1000000 in
theorem copy_any {w : World} {a b c : Nat} {ws : List Nat} {has : List Bool} (h : Sw w a b ws c has) :
    Calls Tryd.prog 62 #[.pointer (some ⟨a, 0, none⟩)] w fun e w' => ∃ a' b', e = .returned (.pointer (some ⟨a', 0, none⟩)) ∧ Sh w' a' b' has ∧ Fr (fun _ => False) w w' ∧ w.heap.size ≤ a' ∧ w.heap.size ≤ b' := by
  have c0 := h.c0
  have c1 := h.c1
  have HS : Hid (Sw w a b ws c has) := h
  have HL := hid h.wl
  have hlt := h.lta
  clear h
  go_enter Tryd.func62, Tryd.ntmps62
  go_wp2_with fail
  go_region_with (first | (go_at_call 81; refine (clone_any (w := w.drew) HS.out.row (wc_one _) HL.out).mono ?_; rintro e w2 ⟨g, c', rfl, hr, hf, hg⟩; have q0 := (World.cell?_of_block (a := ⟨a, 0, none⟩) (hf.block a hlt (fun h => h))).trans c0; have H2 := hid (And.intro hr (And.intro hf hg)); clear hr hf hg))
  all_goals
    go_wp2
    go_ret
    obtain ⟨k1, k2⟩ := copied HS.out H2.out.1 (Fr.trans (Fr.drew (Fr.refl _ w)) H2.out.2.1) H2.out.2.2
    exact ⟨_, _, by simp [Act.put], k1, k2, H2.out.2.1.size, H2.out.2.2⟩
theorem s_copy {w : World} {a b : Nat} {has : List Bool} (h : Sh w a b has) :
    Calls Tryd.prog 62 #[.pointer (some ⟨a, 0, none⟩)] w fun e w' => ∃ a' b', e = .returned (.pointer (some ⟨a', 0, none⟩)) ∧ Sh w' a' b' has ∧ Fr (fun _ => False) w w' ∧ w.heap.size ≤ a' ∧ w.heap.size ≤ b' := by
  obtain ⟨ws, c, h⟩ := h; exact copy_any h
end Go.Proofs.YthndakhnhnipnaaDoor.Sf
