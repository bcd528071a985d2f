/-
  What the calls of package pool do that turn something.
-/
import Derived.Test.YthamfljooapkoaaDoorPoCallsA
import Derived.Test.YthamfljooapkoaaDoorPoSort
namespace Go.Proofs.YthamfljooapkoaaDoor
open Go.RowKit

theorem p_new_no {n : Int} (h : ¬ (1 ≤ n ∧ n ≤ 32)) (w : World) : Calls Tryd.prog 7 #[.int .i64 n] w fun e w' => e = .returned (.tuple #[.pointer none, .int .i64 12]) ∧ Fr (fun _ => False) w w' := by
  by_cases h1 : n < 1
  · clear h
    go_enter Tryd.func7, Tryd.ntmps7
    go_wp2
    go_ret2
    exact ⟨by simp, Fr.refl _ _⟩
  · have h2 : 32 < n := by omega
    clear h
    go_enter Tryd.func7, Tryd.ntmps7
    go_wp2
    go_ret2
    exact ⟨by simp, Fr.refl _ _⟩
/-- A pool in which nobody has one. -/
theorem Pj.fresh {w1 : World} {base sa sb : Nat} {has : List Bool} (h : Sf.Sh w1 sa sb has) (hl : base ≤ sa ∧ base ≤ sb ∧ base ≤ w1.heap.size) (b0 : 0 < base) :
    Pj (w1.alloc (.cells (pc sa (fun _ => .slice none 0 0)).toArray 53)) base w1.heap.size sa sb (fun _ => .slice none 0 0) has (fun _ => []) := by
  have ha := h.lta
  have hb := h.ltb
  refine ⟨heap_alloc_new _ _, h.carry (S := fun _ => False) ((Fr.refl _ w1).alloc _) id id id, fun o ho => World.ownsRow_nil _ _ _ _, ⟨by omega, by omega⟩, fun o ho => by simp [Value.ownBlock], fun o o' _ _ _ x hx => by simp [Value.ownBlock] at hx, ⟨hl.2.2, hl.1, hl.2.1⟩, b0⟩
theorem p_new {n : Nat} (h1 : 1 ≤ n) (h2 : n ≤ 32) (w : World) (g : Gr w) : Calls Tryd.prog 7 #[.int .i64 (n : Int)] w fun e w' => ∃ a Z, e = .returned (.tuple #[.pointer (some ⟨a, 0, none⟩), .int .i64 0]) ∧ (∀ i, Z i → w.heap.size ≤ i) ∧ Pm w' a Z (List.replicate n (-1)) ∧ Fr (fun _ => False) w w' := by
  have H1 := hid (Sf.new_ok n w (by omega) g)
  have g0 := hid (Gr.pos g)
  clear g
  go_enter Tryd.func7, Tryd.ntmps7
  go_wp2_with fail
  refine H1.out.mono ?_
  rintro e w1 ⟨rfl, hs1, f1⟩
  have HF := hid (f1.alloc (.cells (pc (w.heap.size + 1) (fun _ => .slice none 0 0)).toArray 53))
  have hsz := f1.size
  have hj := Pj.fresh hs1 ⟨Nat.le_succ _, Nat.le_refl _, hsz⟩ g0.out
  rw [← hs_rep] at hj
  have HM := hid (Pm.made (hj.congr (L' := fun o => wN (List.replicate n (-1)) o) fun o _ => (wN_rep n o).symm) (newP_own h1 h2))
  clear hs1 f1 hj H1
  go_wp2
  go_ret2
  obtain ⟨Z, hZ, hM⟩ := HM.out
  exact ⟨_, Z, by simp, hZ, hM, HF.out⟩
/-- What was taken so far, the rest still 0. -/
def prt (l : List Nat) (j k : Nat) : List Int := nI (l.take j) ++ List.replicate (k - j) 0
theorem prt_length {l : List Nat} {j k : Nat} (hj : j ≤ k) (hk : k ≤ l.length) : (prt l j k).length = k := by
  unfold prt; rw [List.length_append, nI_length, List.length_take, List.length_replicate]; omega
theorem prt_zero (l : List Nat) (k : Nat) : prt l 0 k = List.replicate k 0 := by simp [prt, nI]
theorem prt_all (l : List Nat) (k : Nat) : prt l k k = nI (l.take k) := by simp [prt]
theorem prt_step {l : List Nat} {j k : Nat} (hj : j < k) (hk : k ≤ l.length) : (prt l j k).set j (l[j]'(by omega) : Nat) = prt l (j + 1) k := by
  have h1 : (nI (l.take j)).length = j := by rw [nI_length, List.length_take]; omega
  obtain ⟨m, hm⟩ : ∃ m, k - j = m + 1 := ⟨k - j - 1, by omega⟩
  unfold prt
  rw [List.set_append_right _ _ (by omega), h1, Nat.sub_self, hm, List.replicate_succ, List.set_cons_zero, show k - (j + 1) = m by omega, List.take_add_one, List.getElem?_eq_getElem (by omega), Option.toList_some, nI_append, List.append_assoc]
  rfl
section
variable {w w' : World} {base a sa sb : Nat} {V : Nat → Value} {own : List Int} {L : Nat → List Nat}
set_option maxHeartbeats 1000000 in
/-- take: the k lowest that are nobody's, in a new block. -/
theorem take_any (h : Pj w base a sa sb V (hs own) L) (hown : Own own) {o : Int} (ho : 0 ≤ o) {k : Nat} (hk : k ≤ (wN own (-1)).length) :
    Calls Tryd.prog 25 #[.pointer (some ⟨a, 0, none⟩), .int .i64 (k : Int)] w fun e w' => e = .returned (.slice (some ⟨w.heap.size, 0, none⟩) k k) ∧ w'.heap[w.heap.size]? = some (.cells (ic (nI ((wN own (-1)).take k))).toArray 3 (0, 0)) ∧ Pj w' base a sa sb V (hs (setAll own ((wN own (-1)).take k) o)) L ∧ Fr (fun i => i = sb) w w' := by
  obtain ⟨i0, hi, hz0, hz1, hz2⟩ := info_parts Tryd.infoInt
  have hk32 : k ≤ 32 := by have := wN_le own (-1); have := hown.most; omega
  have hmk := run_make (P := Tryd.prog) w 34 3 i0 (.int .i64 0) Tryd.underlying34 hi hz0 .i64 .i64 (k : Int) (k : Int) (by omega) (by omega) (by rw [hz2]; omega) (by omega)
  rw [hz1] at hmk
  simp only [Int.toNat_natCast, Nat.mul_one, Value.cells, made_ints] at hmk
  have HK := hid hk
  have hsb : sb < w.heap.size := h.sh.ltb
  have hst : a < w.heap.size := h.lta
  have HB : Hid (∀ x, Blk a sa sb V x → x ≠ w.heap.size) := fun x hx => by have := (h.low hx).2; omega
  have HJ : Hid (Pj (w.alloc (.cells (ic (List.replicate k 0)).toArray 3)) base a sa sb V (hs (setAll own ((wN own (-1)).take 0) o)) L) := by rw [List.take_zero, setAll_nil]; exact h.kept ((Fr.refl _ _).alloc _)
  have HR : Hid ((w.alloc (.cells (ic (List.replicate k 0)).toArray 3)).heap[w.heap.size]? = some (.cells (ic (prt (wN own (-1)) 0 k)).toArray 3 (0, 0))) := by rw [prt_zero]; exact heap_alloc_new _ _
  clear h hown hk hi hz0 hz1 hz2
  go_enter Tryd.func25, Tryd.ntmps25
  go_wp2
  clear hmk
  go_loopw [6, 11] (fun _ i wr => ∃ j : Nat, j ≤ k ∧ i = .int .i64 j ∧ wr.heap[w.heap.size]? = some (.cells (ic (prt (wN own (-1)) j k)).toArray 3 (0, 0)) ∧ Pj wr base a sa sb V (hs (setAll own ((wN own (-1)).take j) o)) L ∧ Fr (fun i => i = sb ∨ w.heap.size ≤ i) w wr) (fun _ i _ => k - (intOf i).toNat)
  case atStart => exact ⟨0, by omega, rfl, HR.out, HJ.out, (Fr.refl _ _).alloc _⟩
  case round =>
    obtain ⟨j, hj, rfl, hr, hp, hf⟩ := hrel
    have HR2 := hid hr
    have HP := hid hp
    have HF := hid hf
    clear hr hp hf HR HJ
    by_cases hlt : j < k
    · have hjl : j < (wN own (-1)).length := Nat.lt_of_lt_of_le hlt HK.out
      have c0 := HP.out.c0
      have H1 := hid (Sf.s_take HP.out.sh)
      obtain ⟨t1, t2⟩ := take_step (own := own) ho hjl
      rw [t1, t2] at H1
      have HS := hid (prt_step hlt HK.out)
      clear t1 t2
      have hsz := HF.out.size
      generalize (wN own (-1))[j] = c at *
      go_wp2_with fail
      refine H1.out.mono ?_
      rintro e w2 ⟨rfl, s2, f2⟩
      have HR3 : Hid (w2.heap[w.heap.size]? = some (.cells (ic (prt (wN own (-1)) j k)).toArray 3 (0, 0))) := (f2.block _ (Array.getElem?_eq_some_iff.1 HR2.out).1 (fun e => by omega)).trans HR2.out
      have HP2 := hid (HP.out.shelf s2 f2)
      have HF2 := hid (HF.out.trans' f2 fun i _ e => .inl e)
      have fz : w2.frozen? ⟨w.heap.size, j, none⟩ = false := row_frozen HR3.out j
      have cj : w2.cell? ⟨w.heap.size, j, none⟩ = some (.int .i64 ((prt (wN own (-1)) j k).getD j 0)) := by
        have hl := prt_length hj HK.out
        simp [World.cell?, HR3.out, ic, List.getD, hl, hlt]
      clear s2 f2
      go_wp2
      go_roundw
      case rel => exact ⟨j + 1, by omega, by go_num, by rw [← HS.out]; exact row_set HR3.out j c, HP2.out.carry (S := fun x => x = w.heap.size) (Fr.one _ _ _ _) (fun x hx e => HB.out x hx e) (by omega), HF2.out.setCell (p := ⟨w.heap.size, j, none⟩) (.inr (Nat.le_refl _)) _⟩
      case measure => simp [intOf]; omega
    · obtain rfl : j = k := by omega
      go_wp2
      go_ret
      exact ⟨by simp, by rw [← prt_all]; exact HR2.out, HP.out, HF.out.mono fun i hi e => e.elim id fun e => by omega⟩
set_option maxHeartbeats 1000000 in
/-- give: colours that have left their window. -/
theorem give_any {ad : Option Addr} {l : List Nat} (cap : Nat) (h : Pj w base a sa sb V (hs own) L) (hn : NumsAt w ad (nI l)) (hoff : Off (fun i => i = sb) ad (nI l)) (hl : ∀ x ∈ l, x < own.length) (hm : l.length ≤ 32) :
    Calls Tryd.prog 33 #[.pointer (some ⟨a, 0, none⟩), .slice ad l.length cap] w fun e w' => e = .returned (.tuple #[]) ∧ Pj w' base a sa sb V (hs (setAll own l (-1))) L ∧ Fr (fun i => i = sb) w w' := by
  have HH := hid h
  have HN := hid hn
  have HO := hid hoff
  have HL := hid hl
  clear h hn hoff hl
  go_enter Tryd.func33, Tryd.ntmps33
  go_wp2
  go_loopw [5, 8] (fun _ i wr => ∃ j : Nat, j ≤ l.length ∧ i = .int .i64 j ∧ Pj wr base a sa sb V (hs (setAll own (l.take j) (-1))) L ∧ Fr (fun i => i = sb) w wr) (fun _ i _ => l.length - (intOf i).toNat)
  case atStart => exact ⟨0, by omega, rfl, by rw [List.take_zero, setAll_nil]; exact HH.out, Fr.refl _ _⟩
  case round =>
    obtain ⟨j, hj, rfl, hp, hf⟩ := hrel
    have HP := hid hp
    have HF := hid hf
    clear hp hf
    by_cases hlt : j < l.length
    · obtain ⟨bb, off, rfl, hb, hc⟩ := HN.out.carry HF.out HO.out j (by rw [nI_length]; exact hlt)
      have e1 : (nI l)[j]'(by rw [nI_length]; exact hlt) = ((l[j] : Nat) : Int) := by simp [nI]
      rw [e1] at hc
      have c0 := HP.out.c0
      have H1 := hid (Sf.s_give HP.out.sh ((l[j] : Nat) : Int))
      rw [give_step hlt (HL.out _ (List.getElem_mem hlt))] at H1
      generalize l[j] = c at *
      clear e1
      go_wp2_with fail
      refine H1.out.mono ?_
      rintro e w2 ⟨rfl, s2, f2⟩
      have HP2 := hid (HP.out.shelf s2 f2)
      have HF2 := hid (HF.out.trans f2)
      clear s2 f2
      go_wp2
      go_roundw
      case rel => exact ⟨j + 1, by omega, by go_num, HP2.out, HF2.out⟩
      case measure => simp [intOf]; omega
    · obtain rfl : j = l.length := by omega
      rw [List.take_length] at HP
      go_wp2
      go_end0
      exact ⟨by simp, HP.out, HF.out⟩
end
end Go.Proofs.YthamfljooapkoaaDoor
