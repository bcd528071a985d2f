/-
  The document's line in memory: a block with a slice, and a row of numbers.
-/
import Derived.Test.YtecckdedijhacaaLiBase
import Derived.Test.YtecckdedijhacaaObjs3
import Derived.Test.YtecckdedijhacaaLists2
import Derived.LoopTactic
namespace Go.Proofs.Ytecckdedijhacaa
open Go.RowKit

/-- The document's line lies at q. -/
def Dl (w : World) (q : Nat) (ad : Option Addr) (cap : Nat) (L : List Int) : Prop := w.heap[q]? = some (.cells #[.slice ad L.length cap] 29 (0, 0)) ∧ NumsAt w ad L
theorem Dl.cell {w w' : World} {q cap : Nat} {ad : Option Addr} {L : List Int} (h : Dl w q ad cap L) (f : Fr (fun _ => False) w w') : w'.cell? ⟨q, 0, none⟩ = some (.slice ad L.length cap) := by
  have hq := (Array.getElem?_eq_some_iff.1 h.1).1
  rw [World.cell?_of_block (f.block q hq (fun e => e))]
  simp [World.cell?, h.1]
theorem Things.dl {W w : World} {ts : List (World → (Nat → Prop) → Prop)} (h : Things W w ts) (i j : Nat) {q base : Nat} {y : Value} {L : List Int} (hi : ts[i]? = some (Blk q (.cells #[y] 29 (0, 0)))) (hj : ts[j]? = some (Rw base y L)) : ∃ ad cap, y = .slice ad L.length cap ∧ Dl w q ad cap L := by
  obtain ⟨ad, cap, rfl, hn⟩ := h.row j hj
  exact ⟨ad, cap, rfl, h.cells i hi, hn⟩
set_option maxRecDepth 20000 in
theorem d_has {w : World} {q cap : Nat} {ad : Option Addr} {L : List Int} (h : Dl w q ad cap L) (hl : L.length ≤ 5000) (k : Int) : Calls Try.prog 17 #[.pointer (some ⟨q, 0, none⟩), .int .i64 k] w fun e w' => e = .returned (.bool (decide (k ∈ L))) ∧ Fr (fun _ => False) w w' := by
  have HD := hid h
  clear h
  go_enter Try.func17, Try.ntmps17
  go_wp2
  go_loopw [5] (fun i wr => ∃ j : Nat, j ≤ L.length ∧ i = .int .i64 j ∧ Hid (k ∉ L.take j) ∧ Hid (Fr (fun _ => False) w wr)) (fun i _ => L.length - (intOf i).toNat)
  case atStart => exact ⟨0, by omega, rfl, by show k ∉ List.take 0 L; simp, Fr.refl _ _⟩
  case round =>
    obtain ⟨j, hj, rfl, HK, HF⟩ := hrel
    have hc := HD.out.cell HF.out
    by_cases hlt : j < L.length
    · obtain ⟨b, off, rfl, hb, hx⟩ := HD.out.2.fr HF.out j hlt
      have hs := List.take_succ_eq_append_getElem hlt
      have hm := List.getElem_mem hlt
      have HF2 := hid (fun n => HF.out.drewN n)
      generalize L[j] = x at *
      clear HF HD
      by_cases hxk : x = k
      · subst hxk
        have hdm : Hid (decide (x ∈ L) = true) := decide_eq_true hm
        clear hs hm
        go_wp2
        go_ret
        exact ⟨by rw [hdm.out]; rfl, HF2.out 0⟩
      · have HK2 : Hid (k ∉ L.take (j + 1)) := by
          show k ∉ _
          rw [hs, List.mem_append, List.mem_singleton]
          exact fun e => e.elim HK.out fun e => hxk e.symm
        clear HK hs hm
        go_wp2
        go_roundw
        case rel => exact ⟨j + 1, by omega, by go_num, HK2, HF2.out 0⟩
        case measure => simp [intOf]; omega
    · obtain rfl : L.length = j := by omega
      have hn := HK.out
      rw [List.take_length] at hn
      have hdm : Hid (decide (k ∈ L) = false) := decide_eq_false hn
      clear HD HK hn
      go_wp2
      go_ret
      exact ⟨by rw [hdm.out]; rfl, HF.out⟩
set_option maxRecDepth 20000 in
theorem d_front {w : World} {q cap : Nat} {ad : Option Addr} {L : List Int} (h : Dl w q ad cap L) : Calls Try.prog 15 #[.pointer (some ⟨q, 0, none⟩)] w fun e w' => e = .returned (.int .i64 (liF L)) ∧ Fr (fun _ => False) w w' := by
  have hc := h.cell (Fr.refl _ _)
  have HN := hid h.2
  clear h
  cases L with
  | nil =>
    go_enter Try.func15, Try.ntmps15
    go_wp2
    go_ret
    exact ⟨by rfl, Fr.refl _ _⟩
  | cons x L =>
    obtain ⟨b, off, rfl, hb, hx⟩ := HN.out 0 (by simp)
    simp only [List.getElem_cons_zero, Nat.add_zero] at hx
    have hln : ¬ ((x :: L).length : Int) = 0 := by simp; omega
    have hl0 : 0 < (x :: L).length := by simp
    clear HN
    generalize (x :: L).length = n at *
    go_enter Try.func15, Try.ntmps15
    go_wp2
    go_ret
    exact ⟨by rfl, Fr.refl _ _⟩
section
variable {W w : World} {ts : List (World → (Nat → Prop) → Prop)} {q : Nat} {y : Value} {L : List Int}
/-- Of things side by side two are the document's line. -/
theorem r_has (h : Things W w ts) (i j : Nat) (hi : ts[i]? = some (Blk q (.cells #[y] 29 (0, 0)))) (hj : ts[j]? = some (Rw W.heap.size y L)) (hl : L.length ≤ 5000) (k : Int) : Calls Try.prog 17 #[.pointer (some ⟨q, 0, none⟩), .int .i64 k] w fun e w' => e = .returned (.bool (decide (k ∈ L))) ∧ Things W w' ts := by
  obtain ⟨ad, cap, rfl, hd⟩ := h.dl i j hi hj
  exact (d_has hd hl k).mono fun _ _ ⟨he, f⟩ => ⟨he, h.kept f⟩
theorem r_front (h : Things W w ts) (i j : Nat) (hi : ts[i]? = some (Blk q (.cells #[y] 29 (0, 0)))) (hj : ts[j]? = some (Rw W.heap.size y L)) : Calls Try.prog 15 #[.pointer (some ⟨q, 0, none⟩)] w fun e w' => e = .returned (.int .i64 (liF L)) ∧ Things W w' ts := by
  obtain ⟨ad, cap, rfl, hd⟩ := h.dl i j hi hj
  exact (d_front hd).mono fun _ _ ⟨he, f⟩ => ⟨he, h.kept f⟩
set_option maxRecDepth 20000 in
theorem r_push (h : Things W w ts) (i j : Nat) (hi : ts[i]? = some (Blk q (.cells #[y] 29 (0, 0)))) (hj : ts[j]? = some (Rw W.heap.size y L)) (hij : i ≠ j) (hl : L.length ≤ 5000) (k : Int) : Calls Try.prog 10 #[.pointer (some ⟨q, 0, none⟩), .int .i64 k] w fun e w' => e = .returned (.int .i64 (liPE L k)) ∧ ∃ y', Things W w' ((ts.set j (Rw W.heap.size y' (liP L k))).set i (Blk q (.cells #[y'] 29 (0, 0)))) := by
  have same : (ts.set j (Rw W.heap.size y L)).set i (Blk q (.cells #[y] 29 (0, 0))) = ts := by rw [set_same hj, set_same hi]
  have T := hid h
  have HH : Hid (∀ w0, Things W w0 ts → Calls Try.prog 17 #[.pointer (some ⟨q, 0, none⟩), .int .i64 k] w0 fun e w' => e = .returned (.bool (decide (k ∈ L))) ∧ Things W w' ts) := fun w0 h => r_has h i j hi hj hl k
  have HI := hid hi
  have HJ := hid hj
  clear h hi hj
  by_cases hk : k < 0
  · have h1 : liP L k = L := if_pos (.inl hk)
    have h2 : liPE L k = 12 := if_pos hk
    have HS := hid same
    rw [h1, h2]
    clear h1 h2 HH same
    go_enter Try.func10, Try.ntmps10
    go_wp2
    go_ret
    exact ⟨by rfl, _, by rw [HS.out]; exact T.out⟩
  by_cases hm : k ∈ L
  · have h1 : liP L k = L := if_pos (.inr hm)
    have h2 : liPE L k = 7 := by unfold liPE; rw [if_neg hk, if_pos hm]
    have HS := hid same
    have h3 := HH.out
    rw [decide_eq_true hm] at h3
    have HH2 := hid h3
    rw [h1, h2]
    clear h1 h2 h3 HH same hm
    go_enter Try.func10, Try.ntmps10
    go_wp2_with fail
    refine (HH2.out _ T.out).mono ?_
    rintro e w1 ⟨rfl, h1⟩
    have T1 := hid h1
    clear h1 T HH2
    go_wp2
    go_ret
    exact ⟨by rfl, _, by rw [HS.out]; exact T1.out⟩
  · have h1 : liP L k = L ++ [k] := if_neg fun e => e.elim hk hm
    have h2 : liPE L k = 0 := by unfold liPE; rw [if_neg hk, if_neg hm]
    have h3 := HH.out
    rw [decide_eq_false hm] at h3
    have HH2 := hid h3
    rw [h1, h2]
    clear h1 h2 h3 HH same hm
    obtain ⟨ad0, cap0, rfl, -⟩ := T.out.row j HJ.out
    go_enter Try.func10, Try.ntmps10
    go_wp2_with fail
    refine (HH2.out _ T.out).mono ?_
    rintro e w1 ⟨rfl, h1⟩
    have T1 := hid h1
    have hc : w1.cell? ⟨q, 0, none⟩ = some (.slice ad0 L.length cap0) := by simp [World.cell?, h1.cells i HI.out]
    have hbs : W.heap.size ≤ w1.heap.size := h1.nw.le
    have HR := hid (h1.push j HJ.out).1
    clear h1 T HH2
    go_wp2_with (at_builtin; refine push1s rfl (.tmp 14) (.tmp 16) rfl W.heap.size _ _ k rfl (HR.out.alloc _) w1.heap.size rfl (by simp) (by omega) (by simp; omega) ?_)
    intro g cap6 w6 hown hg hw6
    have T6 := hid ((T1.out.push j HJ.out).2 ((Fr.refl _ _).alloc _) hown rfl hg (hw6.imp id fun e => by omega))
    have HI6 := hid (set_other (R := Rw W.heap.size (.slice (some ⟨g, 0, none⟩) (L.length + 1) cap6) (L ++ [k])) hij HI.out)
    obtain ⟨hc6, hz6⟩ := cellO (T6.out.cells i HI6.out)
    clear hown hg hw6 HR T1 hc
    go_wp2
    go_ret
    exact ⟨by rfl, _, T6.out.setAt i HI6.out 0 (.slice (some ⟨g, 0, none⟩) (L.length + 1) cap6)⟩
set_option maxRecDepth 20000 in
theorem r_remove (h : Things W w ts) (i j : Nat) (hi : ts[i]? = some (Blk q (.cells #[y] 29 (0, 0)))) (hj : ts[j]? = some (Rw W.heap.size y L)) (hij : i ≠ j) (hl : L.length ≤ 5000) (k : Int) : Calls Try.prog 12 #[.pointer (some ⟨q, 0, none⟩), .int .i64 k] w fun e w' => e = .returned (.int .i64 (liRE L k)) ∧ ∃ y', Things W w' ((ts.set j (Rw W.heap.size y' (liR L k))).set i (Blk q (.cells #[y'] 29 (0, 0)))) := by
  have same : (ts.set j (Rw W.heap.size y L)).set i (Blk q (.cells #[y] 29 (0, 0))) = ts := by rw [set_same hj, set_same hi]
  have T := hid h
  have HH : Hid (∀ w0, Things W w0 ts → Calls Try.prog 17 #[.pointer (some ⟨q, 0, none⟩), .int .i64 k] w0 fun e w' => e = .returned (.bool (decide (k ∈ L))) ∧ Things W w' ts) := fun w0 h => r_has h i j hi hj hl k
  have HI := hid hi
  have HJ := hid hj
  clear h hi hj
  by_cases hm : k ∈ L
  case neg =>
    have h1 : liR L k = L := liR_none hm
    have h2 : liRE L k = 13 := if_neg hm
    have HS := hid same
    have h3 := HH.out
    rw [decide_eq_false hm] at h3
    have HH2 := hid h3
    rw [h1, h2]
    clear h1 h2 h3 HH same hm
    go_enter Try.func12, Try.ntmps12
    go_wp2_with fail
    refine (HH2.out _ T.out).mono ?_
    rintro e w1 ⟨rfl, h1⟩
    have T1 := hid h1
    clear h1 T HH2
    go_wp2
    go_ret
    exact ⟨by rfl, _, by rw [HS.out]; exact T1.out⟩
  have h2 : liRE L k = 0 := if_pos hm
  have h3 := HH.out
  rw [decide_eq_true hm] at h3
  have HH2 := hid h3
  rw [h2]
  clear h2 h3 HH same hm
  obtain ⟨ad0, cap0, rfl, -⟩ := T.out.row j HJ.out
  go_enter Try.func12, Try.ntmps12
  go_wp2_with fail
  refine (HH2.out _ T.out).mono ?_
  rintro e w1 ⟨rfl, h1⟩
  have T1 : Hid (Things W w1 (ts ++ [Rw W.heap.size (.slice none 0 0) []])) := h1.more (Rw.good _ _ _) (Rw.empty _ _) (Fr.refl _ _) fun _ e => e.elim
  clear h1 T HH2
  go_wp2
  have HIA := hid fun R => append_at (R := R) HI.out
  have HJA := hid fun R => append_at (R := R) HJ.out
  go_loopw [5, 6] (fun y i wr => ∃ m : Nat, m ≤ L.length ∧ i = .int .i64 m ∧ Hid (Things W wr (ts ++ [Rw W.heap.size y (liR (L.take m) k)]))) (fun _ i _ => L.length - (intOf i).toNat)
  case atStart => exact ⟨0, by omega, rfl, T1⟩
  case round =>
    clear T1
    obtain ⟨m, hm, rfl, T⟩ := hrel
    obtain ⟨hc, hz⟩ := cellO (T.out.cells i (HIA.out _))
    by_cases hlt : m < L.length
    · obtain ⟨bb, off, rfl, hbb, hx⟩ := T.out.rowNums j (HJA.out _) m hlt
      have hs := liR_snoc (L.take m) L[m] k
      rw [← List.take_succ_eq_append_getElem hlt] at hs
      have hN := liR_len (L.take m) k
      rw [List.length_take] at hN
      generalize L[m] = x at *
      generalize liR (L.take m) k = N at *
      by_cases hxk : x = k
      · rw [if_pos hxk] at hs
        subst hxk
        have T2 : Hid (∀ wr y, Things W wr (ts ++ [Rw W.heap.size y N]) → Things W wr (ts ++ [Rw W.heap.size y (liR (L.take (m + 1)) x)])) := fun wr y h => by rw [hs]; exact h
        clear hs HIA HJA HI HJ
        go_wp2
        go_roundw
        case rel => exact ⟨m + 1, by omega, by go_num, T2.out _ _ T.out⟩
        case measure => simp [intOf]; omega
      · rw [if_neg hxk] at hs
        have T2 : Hid (∀ wr y, Things W wr ((ts ++ [Rw W.heap.size u5 N]).set ts.length (Rw W.heap.size y (N ++ [x]))) → Things W wr (ts ++ [Rw W.heap.size y (liR (L.take (m + 1)) k)])) := fun wr y h => by rw [hs]; rw [set_last] at h; exact h
        have HL : Hid ((ts ++ [Rw W.heap.size u5 N])[ts.length]? = some (Rw W.heap.size u5 N)) := by show _ = _; simp
        have HR := hid (T.out.push ts.length HL.out).1
        have hbs : W.heap.size ≤ wr.heap.size := T.out.nw.le
        clear hs HIA HJA HI HJ
        go_wp2_with (at_builtin; refine push1s rfl (.tmp 29) (.tmp 37) rfl W.heap.size _ _ x rfl (HR.out.alloc _) wr.heap.size rfl (by simp) (by omega) (by simp; omega) ?_)
        intro g cap6 w6 hown hg hw6
        have T6 := hid (T2.out _ _ ((T.out.push ts.length HL.out).2 ((Fr.refl _ _).alloc _) hown rfl hg (hw6.imp id fun e => by omega)))
        clear hown hg hw6 HR T T2 HL
        go_wp2
        go_roundw
        case rel => exact ⟨m + 1, by omega, by go_num, T6⟩
        case measure => simp [intOf]; omega
    · obtain rfl : L.length = m := by omega
      rw [List.take_length] at T
      have HL : (ts ++ [Rw W.heap.size u5 (liR L k)])[ts.length]? = some (Rw W.heap.size u5 (liR L k)) := by simp
      obtain ⟨ad7, cap7, rfl, -⟩ := T.out.row ts.length HL
      clear HL
      have T2 := hid (T.out.takeLast j)
      have HI6 := hid (set_other (R := Rw W.heap.size (.slice ad7 (liR L k).length cap7) (liR L k)) hij HI.out)
      clear T HIA HJA HI HJ
      generalize hM : liR L k = M at *
      have HM := hid hM
      clear hM
      go_wp2
      go_ret
      rw [HM.out]
      exact ⟨by rfl, _, T2.out.setAt i HI6.out 0 (.slice ad7 M.length cap7)⟩
end
end Go.Proofs.Ytecckdedijhacaa
