/-
  What the document's own pool does.
-/
import Derived.Test.YthamfljooapkoaaDoorPoMem
namespace Go.Proofs.YthamfljooapkoaaDoor
open Go.RowKit


theorem r_new_no {n : Int} (h : ¬ (1 ≤ n ∧ n ≤ 32)) (w : World) : Calls Tryd.prog 8 #[.int .i64 n] w fun e w' => e = .returned (.tuple #[.pointer none, .int .i64 12]) ∧ Fr (fun _ => False) w w' := by
  by_cases h1 : n < 1
  · go_enter Tryd.func8, Tryd.ntmps8
    go_wp2
    go_ret2
    exact ⟨by simp, Fr.refl _ _⟩
  · have h2 : 32 < n := by omega
    clear h
    go_enter Tryd.func8, Tryd.ntmps8
    go_wp2
    go_ret2
    exact ⟨by simp, Fr.refl _ _⟩
/-- The first j are nobody's, the others are not yet told. -/
def newTo (n j : Nat) : List Int := List.replicate j (-1) ++ List.replicate (n - j) 0
theorem newTo_length {n j : Nat} (h : j ≤ n) : (newTo n j).length = n := by simp [newTo]; omega
theorem newTo_set {n j : Nat} (h : j < n) : (newTo n j).set j (-1) = newTo n (j + 1) := by
  unfold newTo
  obtain ⟨m, hm⟩ : ∃ m, n - j = m + 1 := ⟨n - j - 1, by omega⟩
  rw [hm, show n - (j + 1) = m by omega, List.replicate_succ, List.set_append_right _ _ (by simp)]
  simp [List.replicate_succ']
theorem newTo_all (n : Nat) : newTo n n = List.replicate n (-1) := by simp [newTo]
/-- A row of numbers in block t. -/
structure Rn (w : World) (r t : Nat) (l : List Int) : Prop where
  st : w.heap[r]? = some (.cells #[.slice (some ⟨t, 0, none⟩) l.length l.length] 55 (0, 0))
  row : w.heap[t]? = some (.cells (ic l).toArray 3 (0, 0))
  ne : r ≠ t
theorem Rn.set {w : World} {r t : Nat} {l : List Int} (h : Rn w r t l) (j : Nat) (x : Int) : Rn (w.setCell ⟨t, j, none⟩ (.int .i64 x)) r t (l.set j x) := by
  refine ⟨?_, row_set h.row j x, h.ne⟩
  rw [Below.heap_setCell w _ _ r h.ne]; simpa using h.st
set_option maxRecDepth 20000 in
theorem r_new {n : Nat} (h1 : 1 ≤ n) (h2 : n ≤ 32) (w : World) : Calls Tryd.prog 8 #[.int .i64 (n : Int)] w fun e w' => ∃ r t, e = .returned (.tuple #[.pointer (some ⟨r, 0, none⟩), .int .i64 0]) ∧ w.heap.size ≤ r ∧ w.heap.size ≤ t ∧ Rp w' r t (List.replicate n (-1)) ∧ Fr (fun _ => False) w w' := by
  obtain ⟨i0, hi, hz0, hz1, hz2⟩ := info_parts Tryd.infoInt
  have hmk := fun w => run_make (P := Tryd.prog) w 34 3 i0 (.int .i64 0) Tryd.underlying34 hi hz0 .i64 .i64 (n : Int) (n : Int) (by omega) (by omega) (by rw [hz2]; omega) (by omega)
  simp only [hz1, Int.toNat_natCast, Nat.mul_one, Value.cells, made_ints] at hmk
  clear hi hz0 hz1 hz2
  have HR0 : Hid (Rn ((w.alloc (.cells (ic (List.replicate n 0)).toArray 3)).alloc (.cells #[.slice (some ⟨w.heap.size, 0, none⟩) n n] 55)) (w.heap.size + 1) w.heap.size (newTo n 0)) := by
    refine ⟨?_, ?_, by omega⟩
    · rw [newTo_length (by omega)]; exact heap_two w _ _
    · have e : newTo n 0 = List.replicate n 0 := by simp [newTo]
      rw [e]
      exact heap_one w _ _
  have HF0 : Hid (Nw w ((w.alloc (.cells (ic (List.replicate n 0)).toArray 3)).alloc (.cells #[.slice (some ⟨w.heap.size, 0, none⟩) n n] 55))) := ((Nw.start w).alloc _).alloc _
  generalize (ic (List.replicate n 0)).toArray = zs at *
  go_enter Tryd.func8, Tryd.ntmps8
  go_wp2
  clear hmk
  go_loopw [5] (fun i wr => ∃ j : Nat, j ≤ n ∧ i = .int .i64 j ∧ Hid (Rn wr (w.heap.size + 1) w.heap.size (newTo n j)) ∧ Hid (Nw w wr)) (fun i _ => n - (intOf i).toNat)
  case atStart => exact ⟨0, by omega, rfl, HR0, HF0⟩
  case round =>
    clear HR0 HF0
    obtain ⟨j, hj, rfl, HR, HF⟩ := hrel
    by_cases hlt : j < n
    · have hst := HR.out.st
      have c0 : wr.cell? ⟨w.heap.size + 1, 0, none⟩ = some (.slice (some ⟨w.heap.size, 0, none⟩) n n) := by
        rw [newTo_length hj] at hst
        simp [World.cell?, hst]
      have c1 : wr.cell? ⟨w.heap.size, j, none⟩ = some (.int .i64 ((newTo n j)[j]'(by rw [newTo_length hj]; exact hlt))) := by
        have hrow := HR.out.row
        have := newTo_length (n := n) hj
        simp [World.cell?, hrow, ic, this, hlt]
      have f1 : wr.frozen? ⟨w.heap.size, j, none⟩ = false := row_frozen HR.out.row j
      have HR2 : Hid (Rn (wr.setCell ⟨w.heap.size, j, none⟩ (.int .i64 (-1))) (w.heap.size + 1) w.heap.size (newTo n (j + 1))) := by
        show Rn _ _ _ _
        rw [← newTo_set hlt]; exact HR.out.set j (-1)
      have HF2 : Hid (Nw w (wr.setCell ⟨w.heap.size, j, none⟩ (.int .i64 (-1)))) := Fr.setCell HF.out (p := ⟨w.heap.size, j, none⟩) (Nat.le_refl _) _
      clear HR HF hst
      generalize (newTo n j)[j]'(by rw [newTo_length hj]; exact hlt) = x at *
      go_wp2
      go_roundw
      case rel => exact ⟨j + 1, by omega, by go_num, HR2, HF2⟩
      case measure => simp [intOf]; omega
    · obtain rfl : j = n := by omega
      go_wp2
      go_ret2
      have hr := HR.out
      rw [newTo_all] at hr
      exact ⟨w.heap.size + 1, w.heap.size, by simp, by omega, Nat.le_refl _, ⟨by simpa using hr.st, hr.row, hr.ne, newP_own h1 h2⟩, HF.out.fr⟩
section
variable {w : World} {r t : Nat} {own : List Int}
set_option maxRecDepth 20000 in
theorem r_window (h : Rp w r t own) (o : Int) : Calls Tryd.prog 14 #[.pointer (some ⟨r, 0, none⟩), .int .i64 o] w fun e w' => Ls w w' (nI (wN own o)) e ∧ Fr (fun _ => False) w w' := by
  have HW : Hid (wTo own o own.length = wN own o) := wTo_all own o
  have H0 := hid h
  have hn := h.own.most
  clear h
  go_enter Tryd.func14, Tryd.ntmps14
  go_wp2
  go_loopw [5, 6] (fun y i wr => ∃ j : Nat, j ≤ own.length ∧ i = .int .i64 j ∧ Hid (wr.ownsRow w.heap.size 3 1 y (nI (wTo own o j)).length (ic (nI (wTo own o j)))) ∧ Hid (Nw w wr)) (fun _ i _ => own.length - (intOf i).toNat)
  case atStart => exact ⟨0, by omega, rfl, ⟨rfl, .inl ⟨rfl, rfl⟩⟩, Nw.start w⟩
  case round =>
    obtain ⟨j, hj, rfl, HY, HF⟩ := hrel
    have c0 := (H0.out.kept HF.out.fr).c0
    by_cases hlt : j < own.length
    · have c1 := (H0.out.kept HF.out.fr).ct j hlt
      have HS := hid (wTo_succ (o := o) hlt)
      generalize own[j] = x at *
      have hyl := wTo_le own o j
      by_cases hx : x = o
      · have HS1 : Hid (wTo own o (j + 1) = wTo own o j ++ [j]) := by have := HS.out; rwa [if_pos hx] at this
        clear HS
        have hbs : w.heap.size ≤ wr.heap.size := HF.out.le
        have hy2 : (nI (wTo own o j)).length < 100000 := by rw [nI_length]; omega
        subst hx
        go_wp2_with (at_builtin; refine push1 rfl (.tmp 25) (.tmp 27) rfl w.heap.size _ _ (j : Int) rfl (HY.out.alloc _) wr.heap.size rfl (by simp) hy2 (by simp; omega) ?_)
        intro g cap w2 hown hg
        have HY2 : Hid (w2.ownsRow w.heap.size 3 1 (.slice (some ⟨g, 0, none⟩) ((nI (wTo own x j)).length + 1) cap) (nI (wTo own x (j + 1))).length (ic (nI (wTo own x (j + 1))))) := by
          show World.ownsRow _ _ _ _ _ _ _
          rw [HS1.out, show nI (wTo own x j ++ [j]) = nI (wTo own x j) ++ [(j : Int)] by simp [nI], List.length_append]
          exact hown
        have HF2 : Hid (Nw w w2) := Fr.grown (HF.out.alloc _) hg (fun k e => .inl (HY.out.lt k e).1)
        clear hown hg HY HF c0 c1 HS1
        go_wp2
        go_roundw
        case rel => exact ⟨j + 1, by omega, by go_num, HY2, HF2⟩
        case measure => simp [intOf]; omega
      · have HS1 : Hid (wTo own o (j + 1) = wTo own o j) := by have := HS.out; rwa [if_neg hx] at this
        clear HS
        go_wp2
        go_roundw
        case rel => exact ⟨j + 1, by omega, by go_num, by rw [HS1.out]; exact HY, HF⟩
        case measure => simp [intOf]; omega
    · obtain rfl : j = own.length := by omega
      rw [HW.out] at HY
      obtain ⟨yad, ycap, rfl, hyn, hyb⟩ := row_list HY.out
      have HN := hid hyn
      have HB := hid hyb
      clear HY hyn hyb
      go_wp2
      go_ret
      exact ⟨⟨yad, ycap, by simp, HN.out, HB.out⟩, HF.out.fr⟩
theorem setAll_own (h : Own own) (l : List Nat) {o : Int} (ho : -1 ≤ o ∧ o ≤ 7) : Own (setAll own l o) := ⟨by rw [setAll_length]; exact h.one, by rw [setAll_length]; exact h.most, setAll_rng ho h.rng l⟩
theorem nI_get {l : List Nat} {i : Nat} (h : i < (nI l).length) : (nI l)[i] = ((l[i]'(by rwa [nI_length] at h) : Nat) : Int) := by simp [nI]
theorem nI_snoc (l : List Nat) (x : Nat) : nI (l ++ [x]) = nI l ++ [(x : Int)] := by simp [nI]
theorem take_snoc {l : List Nat} {j : Nat} (h : j < l.length) : l.take (j + 1) = l.take j ++ [l[j]] := List.take_succ_eq_append_getElem h
set_option maxRecDepth 20000 in
theorem r_turn (h : Rp w r t own) (fr : Int) (k m : Nat) {to : Int} (hto : -1 ≤ to ∧ to ≤ 7) (hk : k ≤ 32) (hm : m ≤ 99) : Calls Tryd.prog 39 #[.pointer (some ⟨r, 0, none⟩), .int .i64 fr, .int .i64 (k : Int), .int .i64 (m : Int), .int .i64 to] w fun e w' => Ls w w' (nI (((wN own fr).drop k).take m)) e ∧ Rp w' r t (setAll own (((wN own fr).drop k).take m) to) ∧ Fr (fun i => i = t) w w' := by
  have HW := hid (r_window h fr)
  have hl32 := wN_le own fr
  have hn := h.own.most
  have HLL : Hid (∀ x ∈ wN own fr, x < own.length) := fun x hx => wN_lt hx
  have HOW : Hid (∀ l, Own (setAll own l to)) := fun l => setAll_own h.own l hto
  have H0 := hid h
  have htl := h.ltt
  have HRT := hid h.ltr
  clear h
  go_enter Tryd.func39, Tryd.ntmps39
  go_wp2_with fail
  refine HW.out.mono ?_
  rintro e w1 ⟨⟨lad, lcap, rfl, hln, hlb⟩, f1⟩
  have HNN : Hid (∀ wr, Fr (fun i => i = t ∨ w1.heap.size ≤ i) w1 wr → NumsAt wr lad (nI (wN own fr))) := fun wr f => hln.carry f (fun b off e h0 hb => by
    obtain ⟨b', off', e', hlt, _⟩ := hln 0 h0
    rw [e] at e'
    simp only [Option.some.injEq, Addr.mk.injEq, and_true] at e'
    have := hlb b off e
    omega)
  have H1 := hid (H0.out.kept f1)
  have HF0 := hid f1
  have hs1 := f1.size
  clear hln hlb f1 HW H0
  have HL : Hid (∀ j, j < (((wN own fr).drop k).take m).length ↔ (k + j < (wN own fr).length ∧ j < m)) := fun j => by rw [List.length_take, List.length_drop]; omega
  have HLj : Hid (∀ j (h : j < (((wN own fr).drop k).take m).length), (((wN own fr).drop k).take m)[j] = (wN own fr)[k + j]'((HL.out j).1 h).1) := fun j h => by rw [List.getElem_take, List.getElem_drop]
  generalize hL : ((wN own fr).drop k).take m = L at *
  have HLe := hid hL
  clear hL
  generalize hl : wN own fr = l at HL HLj HLL HNN hl32 ⊢
  clear hl
  have hnl : (nI l).length = l.length := nI_length l
  go_wp2
  go_loopw [11, 13] (fun y i wr => ∃ j : Nat, j ≤ L.length ∧ i = .int .i64 ((k + j : Nat) : Int) ∧ Hid (wr.ownsRow w1.heap.size 3 1 y (nI (L.take j)).length (ic (nI (L.take j)))) ∧ Hid (Rp wr r t (setAll own (L.take j) to)) ∧ Hid (Fr (fun i => i = t ∨ w1.heap.size ≤ i) w1 wr)) (fun _ i _ => L.length - ((intOf i).toNat - k))
  case atStart => exact ⟨0, by omega, rfl, ⟨rfl, .inl ⟨rfl, rfl⟩⟩, H1, Fr.refl _ _⟩
  case round =>
    clear H1
    obtain ⟨j, hj, rfl, HY, HR, HF⟩ := hrel
    have HYL : Hid ((nI (L.take j)).length = j) := by show _ = _; rw [nI_length, List.length_take]; omega
    obtain ⟨yad, ycap, rfl, hyn, hyb⟩ := row_list HY.out
    have HYN := hid hyn
    have HYB := hid hyb
    have hws : Hid (w1.heap.size ≤ wr.heap.size) := HF.out.size
    clear hyn hyb
    by_cases hlt : j < L.length
    · obtain ⟨hkl, hjm⟩ := (HL.out j).1 hlt
      have HS1 := hid (take_snoc hlt)
      have hx := HLj.out j hlt
      have HF2 : Hid (∀ x, Fr (fun i => i = t ∨ w1.heap.size ≤ i) w1 (wr.setCell ⟨t, x, none⟩ (.int .i64 to)).drew) := fun x => (Fr.setCell HF.out (p := ⟨t, x, none⟩) (.inl rfl) _).drew
      obtain ⟨bb, off, rfl, hbb, hc⟩ := HNN.out _ HF.out (k + j) (by rw [nI_length]; exact hkl)
      obtain ⟨b2, o2, e2, _, hc2⟩ := HNN.out _ (HF2.out L[j]) (k + j) (by rw [nI_length]; exact hkl)
      simp only [Option.some.injEq, Addr.mk.injEq, and_true] at e2
      obtain ⟨rfl, rfl⟩ := e2
      rw [nI_get] at hc hc2
      rw [← hx] at hc hc2
      have hxl : L[j] < own.length := by rw [hx]; exact HLL.out _ (List.getElem_mem _)
      clear hx HYN HYB
      generalize L[j] = x at *
      have hsl : (setAll own (L.take j) to).length = own.length := setAll_length own to _
      have c0 := HR.out.c0
      rw [hsl] at c0
      have c1 := HR.out.ct x (by rw [hsl]; exact hxl)
      have g1 := HR.out.ft x
      have HR2 : Hid (Rp (wr.setCell ⟨t, x, none⟩ (.int .i64 to)).drew r t (setAll own (L.take (j + 1)) to)) := by
        show Rp _ _ _ _
        have ho := HOW.out (L.take (j + 1))
        rw [HS1.out, setAll_snoc] at ho ⊢
        exact (HR.out.set x to ho).kept (Fr.refl _ _).drew
      have HY2 := hid (row_carry HY.out (Fr.one wr t x (.int .i64 to)).drew (fun k hk e => by subst e; omega))
      have HF3 := hid (HF2.out x)
      have hw2 : Hid (w1.heap.size ≤ (wr.setCell ⟨t, x, none⟩ (.int .i64 to)).drew.heap.size) := HF3.out.size
      generalize (setAll own (L.take j) to)[x]'(by rw [hsl]; exact hxl) = ov at *
      clear HY HR HF HF2
      have hy2 : Hid ((nI (L.take j)).length < 100000) := by have := HYL.out; show _ < _; omega
      have hq1 : ((k + j : Nat) : Int) < ((nI l).length : Int) := by omega
      have hq2 : ((nI (L.take j)).length : Int) < (m : Int) := by have := HYL.out; omega
      have hq3 : k + j < (nI l).length := by omega
      have hqq : Hid (k + j + 1 = k + (j + 1) ∧ k + j < 1000) := ⟨by omega, by omega⟩
      go_wp2
      go_region
      clear hc c0 c1 g1
      generalize (wr.setCell ⟨t, x, none⟩ (.int .i64 to)).drew = w2 at *
      go_wp2_with (at_builtin; refine push1 rfl (.tmp 40) (.tmp 45) rfl w1.heap.size _ _ (x : Int) rfl (HY2.out.alloc _) w2.heap.size rfl (by simp) hy2.out (by have := hw2.out; simp; omega) ?_)
      intro g cap w3 hown hg
      have HY3 : Hid (w3.ownsRow w1.heap.size 3 1 (.slice (some ⟨g, 0, none⟩) ((nI (L.take j)).length + 1) cap) (nI (L.take (j + 1))).length (ic (nI (L.take (j + 1))))) := by
        show World.ownsRow _ _ _ _ _ _ _
        rw [HS1.out, nI_snoc, List.length_append]
        exact hown
      have f3 : Fr (fun k => w1.heap.size ≤ k) w2 w3 := Fr.grown ((Fr.refl _ _).alloc _) hg (fun k e => .inl (HY2.out.lt k e).1)
      have HF4 : Hid (Fr (fun i => i = t ∨ w1.heap.size ≤ i) w1 w3) := Fr.trans' HF3.out f3 (fun i hi e => .inr e)
      have hrt := HR2.out.ltr
      have HR3 : Hid (Rp w3 r t (setAll own (L.take (j + 1)) to)) := HR2.out.carry f3 (fun e => by have := HRT.out; omega) (fun e => by omega)
      clear hown hg f3 HY2 HF3 HR2 hrt hc2 hw2
      go_wp2
      go_roundw
      case rel => exact ⟨j + 1, by omega, by rw [← hqq.out.1]; go_num, HY3, HR3, HF4⟩
      case measure => simp [intOf]; omega
    · obtain rfl : j = L.length := by omega
      rw [List.take_length] at *
      have hend : ¬ (k + L.length < l.length ∧ L.length < m) := fun e => Nat.lt_irrefl _ ((HL.out L.length).2 e)
      have hnL : (nI L).length = L.length := nI_length L
      have HEND : Hid (Ls w wr (nI (((wN own fr).drop k).take m)) (.returned (.slice yad L.length ycap)) ∧ Rp wr r t (setAll own (((wN own fr).drop k).take m) to) ∧ Fr (fun i => i = t) w wr) := by
        show _ ∧ _
        rw [HLe.out]
        exact ⟨⟨yad, ycap, by rw [hnL], HYN.out, fun b off e => by have := HYB.out b off e; omega⟩, HR.out, Fr.trans' (HF0.out.mono fun _ _ e => e.elim) HF.out (fun i hi e => by rcases e with e | e; exact e; omega)⟩
      clear HYL HYN HYB HR HF HY HLj
      by_cases hh : k + L.length < l.length
      · have hq1 : ((k + L.length : Nat) : Int) < ((nI l).length : Int) := by omega
        have hq2 : ¬ ((nI L).length : Int) < (m : Int) := by omega
        go_wp2
        exact bodyPost_ret (v := .slice yad L.length ycap) (by simp [results, Tryd.results39, go_sem]) rfl HEND.out
      · have hq1 : ¬ ((k + L.length : Nat) : Int) < ((nI l).length : Int) := by omega
        go_wp2
        exact bodyPost_ret (v := .slice yad L.length ycap) (by simp [results, Tryd.results39, go_sem]) rfl HEND.out
theorem r_grant (h : Rp w r t own) (o k : Int) : Calls Tryd.prog 27 #[.pointer (some ⟨r, 0, none⟩), .int .i64 o, .int .i64 k] w fun e w' => LsE w w' (nI (grL own o k)) (grE own o k) e ∧ Rp w' r t (grS own o k) ∧ Fr (fun i => i = t) w w' := by
  have HW := hid (r_window h (-1))
  have H0 := hid h
  by_cases h1 : Ow o ∧ 0 ≤ k
  · obtain ⟨h2, h3⟩ := h1
    by_cases h4 : k ≤ (wN own (-1)).length
    · obtain ⟨k, rfl⟩ : ∃ m : Nat, k = (m : Int) := ⟨k.toNat, by omega⟩
      have e1 : Hid (grE own o k = 0) := by show _ = _; unfold grE; rw [if_pos ⟨h2, h3⟩, if_pos h4]
      have e2 : grL own o k = ((wN own (-1)).drop 0).take k := by unfold grL; rw [if_pos ⟨⟨h2, h3⟩, h4⟩]; simp
      have hk32 : k ≤ 32 := by have := wN_le own (-1); have := h.own.most; omega
      have HT := hid fun w (h : Rp w r t own) => r_turn h (-1) 0 k (to := o) ⟨by unfold Ow at h2; omega, h2.2⟩ (by omega) (by omega)
      have HG : Hid (setAll own (grL own o k) o = grS own o k) := rfl
      rw [← e2] at HT
      have hl : ¬ ((nI (wN own (-1))).length : Int) < (k : Int) := by rw [nI_length]; omega
      have hlt := h.ltt
      clear e2 h4 h
      unfold Ow at h2
      generalize wN own (-1) = l at *
      generalize grL own o k = L at *
      go_enter Tryd.func27, Tryd.ntmps27
      go_wp2_with fail
      refine HW.out.mono ?_
      rintro e w1 ⟨⟨lad, lcap, rfl, hln, hlb⟩, f1⟩
      have H1 := hid (H0.out.kept f1)
      have HF1 := hid f1
      clear hln hlb f1 HW
      go_wp2_with fail
      refine (HT.out _ H1.out).mono ?_
      rintro e w2 ⟨⟨ad, cap, rfl, hn, hb⟩, hr, f2⟩
      have HE := hid (And.intro hn (And.intro hb (And.intro hr f2)))
      clear hn hb hr f2
      go_wp2
      go_ret2
      exact ⟨⟨ad, cap, by rw [e1.out]; simp, HE.out.1, fun b off e => by have := HE.out.2.1 b off e; have := HF1.out.size; omega⟩, by rw [← HG.out]; exact HE.out.2.2.1, (HF1.out.mono fun _ _ e => e.elim).trans HE.out.2.2.2⟩
    · have e1 : Hid (grE own o k = 9) := by show _ = _; unfold grE; rw [if_pos ⟨h2, h3⟩, if_neg h4]
      have e2 : grL own o k = [] := by unfold grL; rw [if_neg (fun e => h4 e.2)]
      have HG : Hid (grS own o k = own) := by show _ = _; unfold grS; rw [e2]; rfl
      rw [e2]
      have hl : ((nI (wN own (-1))).length : Int) < (k : Int) := by rw [nI_length]; omega
      clear e2 h4 h
      unfold Ow at h2
      generalize wN own (-1) = l at *
      go_enter Tryd.func27, Tryd.ntmps27
      go_wp2_with fail
      refine HW.out.mono ?_
      rintro e w1 ⟨⟨lad, lcap, rfl, hln, hlb⟩, f1⟩
      have HF1 := hid f1
      clear hln hlb f1 HW
      go_wp2
      go_ret2
      exact ⟨⟨none, 0, by rw [e1.out]; simp [nI], nums_none _ _, (fun b off e => by cases e)⟩, by rw [HG.out]; exact H0.out.kept HF1.out, HF1.out.mono fun _ _ e => e.elim⟩
  · have e1 : Hid (grE own o k = 12) := by show _ = _; unfold grE; rw [if_neg h1]
    have e2 : grL own o k = [] := by unfold grL; rw [if_neg (fun e => h1 e.1)]
    have HG : Hid (grS own o k = own) := by show _ = _; unfold grS; rw [e2]; rfl
    rw [e2]
    have HEND : Hid (LsE w w (nI []) (grE own o k) (.returned (.tuple #[.slice none 0 0, .int .i64 12])) ∧ Rp w r t (grS own o k) ∧ Fr (fun i => i = t) w w) := ⟨⟨none, 0, by rw [e1.out]; simp [nI], nums_none _ _, (fun b off e => by cases e)⟩, by rw [HG.out]; exact H0.out, Fr.refl _ _⟩
    clear h e2 HG e1 H0 HW
    by_cases k1 : o < 0
    · clear h1
      go_enter Tryd.func27, Tryd.ntmps27
      go_wp2
      exact bodyPost_ret (v := .tuple #[.slice none 0 0, .int .i64 12]) (by simp [results, Tryd.results27, go_sem]) rfl HEND.out
    · by_cases k2 : 7 < o
      · clear h1
        go_enter Tryd.func27, Tryd.ntmps27
        go_wp2
        exact bodyPost_ret (v := .tuple #[.slice none 0 0, .int .i64 12]) (by simp [results, Tryd.results27, go_sem]) rfl HEND.out
      · have k3 : k < 0 := by unfold Ow at h1; omega
        clear h1
        go_enter Tryd.func27, Tryd.ntmps27
        go_wp2
        exact bodyPost_ret (v := .tuple #[.slice none 0 0, .int .i64 12]) (by simp [results, Tryd.results27, go_sem]) rfl HEND.out
theorem r_shrink (h : Rp w r t own) (o k : Int) : Calls Tryd.prog 28 #[.pointer (some ⟨r, 0, none⟩), .int .i64 o, .int .i64 k] w fun e w' => LsE w w' (nI (shL own o k)) (shE own o k) e ∧ Rp w' r t (shS own o k) ∧ Fr (fun i => i = t) w w' := by
  have HW := hid (r_window h o)
  have H0 := hid h
  by_cases h1 : (Ow o ∧ 0 ≤ k) ∧ k ≤ (wN own o).length
  · obtain ⟨⟨h2, h3⟩, h4⟩ := h1
    obtain ⟨k, rfl⟩ : ∃ m : Nat, k = (m : Int) := ⟨k.toNat, by omega⟩
    have e1 : Hid (shE own o k = 0) := by show _ = _; unfold shE; rw [if_pos ⟨⟨h2, h3⟩, h4⟩]
    have hk32 : (wN own o).length ≤ 32 := by have := wN_le own o; have := h.own.most; omega
    have e2 : shL own o k = ((wN own o).drop k).take 99 := by unfold shL; rw [if_pos ⟨⟨h2, h3⟩, h4⟩, List.take_of_length_le (by rw [List.length_drop]; omega)]; rfl
    have HT := hid fun w (h : Rp w r t own) => r_turn h o k 99 (to := -1) ⟨by omega, by omega⟩ (by omega) (by omega)
    have HG : Hid (setAll own (shL own o k) (-1) = shS own o k) := rfl
    rw [← e2] at HT
    have hl : ¬ ((nI (wN own o)).length : Int) < (k : Int) := by rw [nI_length]; omega
    clear e2 h4 h hk32
    unfold Ow at h2
    generalize wN own o = l at *
    generalize shL own o k = L at *
    go_enter Tryd.func28, Tryd.ntmps28
    go_wp2_with fail
    refine HW.out.mono ?_
    rintro e w1 ⟨⟨lad, lcap, rfl, hln, hlb⟩, f1⟩
    have H1 := hid (H0.out.kept f1)
    have HF1 := hid f1
    clear hln hlb f1 HW
    go_wp2_with fail
    refine (HT.out _ H1.out).mono ?_
    rintro e w2 ⟨⟨ad, cap, rfl, hn, hb⟩, hr, f2⟩
    have HE := hid (And.intro hn (And.intro hb (And.intro hr f2)))
    clear hn hb hr f2
    go_wp2
    go_ret2
    exact ⟨⟨ad, cap, by rw [e1.out]; simp, HE.out.1, fun b off e => by have := HE.out.2.1 b off e; have := HF1.out.size; omega⟩, by rw [← HG.out]; exact HE.out.2.2.1, (HF1.out.mono fun _ _ e => e.elim).trans HE.out.2.2.2⟩
  · have e1 : Hid (shE own o k = 12) := by show _ = _; unfold shE; rw [if_neg h1]
    have e2 : shL own o k = [] := by unfold shL; rw [if_neg h1]
    have HG : Hid (shS own o k = own) := by show _ = _; unfold shS; rw [e2]; rfl
    rw [e2]
    have HEND : Hid (∀ w1, Fr (fun _ => False) w w1 → LsE w w1 (nI []) (shE own o k) (.returned (.tuple #[.slice none 0 0, .int .i64 12])) ∧ Rp w1 r t (shS own o k) ∧ Fr (fun i => i = t) w w1) := fun w1 f1 => ⟨⟨none, 0, by rw [e1.out]; simp [nI], nums_none _ _, (fun b off e => by cases e)⟩, by rw [HG.out]; exact H0.out.kept f1, f1.mono fun _ _ e => e.elim⟩
    clear h e2 HG e1 H0
    by_cases k1 : o < 0
    · clear h1 HW
      go_enter Tryd.func28, Tryd.ntmps28
      go_wp2
      exact bodyPost_ret (v := .tuple #[.slice none 0 0, .int .i64 12]) (by simp [results, Tryd.results28, go_sem]) rfl (HEND.out _ (Fr.refl _ _))
    · by_cases k2 : 7 < o
      · clear h1 HW
        go_enter Tryd.func28, Tryd.ntmps28
        go_wp2
        exact bodyPost_ret (v := .tuple #[.slice none 0 0, .int .i64 12]) (by simp [results, Tryd.results28, go_sem]) rfl (HEND.out _ (Fr.refl _ _))
      · by_cases k3 : k < 0
        · clear h1 HW
          go_enter Tryd.func28, Tryd.ntmps28
          go_wp2
          exact bodyPost_ret (v := .tuple #[.slice none 0 0, .int .i64 12]) (by simp [results, Tryd.results28, go_sem]) rfl (HEND.out _ (Fr.refl _ _))
        · have hl : ((nI (wN own o)).length : Int) < k := by unfold Ow at h1; rw [nI_length]; omega
          clear h1
          generalize wN own o = l at *
          go_enter Tryd.func28, Tryd.ntmps28
          go_wp2_with fail
          refine HW.out.mono ?_
          rintro e w1 ⟨⟨lad, lcap, rfl, hln, hlb⟩, f1⟩
          have HF1 := hid f1
          clear hln hlb f1 HW
          go_wp2
          exact bodyPost_ret (v := .tuple #[.slice none 0 0, .int .i64 12]) (by simp [results, Tryd.results28, go_sem]) rfl (HEND.out _ HF1.out)
theorem r_owner (h : Rp w r t own) (c : Int) : Calls Tryd.prog 16 #[.pointer (some ⟨r, 0, none⟩), .int .i64 c] w fun e w' => e = .returned (.int .i64 (owI own c)) ∧ Fr (fun _ => False) w w' := by
  have c0 := h.c0
  have hn := h.own.most
  by_cases h1 : c < 0
  · have e1 : Hid (owI own c = -1) := by show _ = _; unfold owI; rw [if_neg (by omega)]
    clear h
    go_enter Tryd.func16, Tryd.ntmps16
    go_wp2
    go_ret
    exact ⟨by rw [e1.out]; simp, Fr.refl _ _⟩
  · by_cases h2 : c < own.length
    · obtain ⟨j, rfl⟩ : ∃ m : Nat, c = (m : Int) := ⟨c.toNat, by omega⟩
      have hj : j < own.length := by omega
      have c1 := h.ct j hj
      have e1 : Hid (owI own j = own[j]) := by show _ = _; unfold owI; rw [if_pos ⟨by omega, by omega⟩]; simp [List.getD, List.getElem?_eq_getElem hj]
      rw [e1.out]
      clear h e1
      generalize own[j] = x at *
      go_enter Tryd.func16, Tryd.ntmps16
      go_wp2
      go_ret
      exact ⟨by simp, Fr.refl _ _⟩
    · have e1 : Hid (owI own c = -1) := by show _ = _; unfold owI; rw [if_neg (by omega)]
      clear h
      go_enter Tryd.func16, Tryd.ntmps16
      go_wp2
      go_ret
      exact ⟨by rw [e1.out]; simp, Fr.refl _ _⟩
end
set_option maxRecDepth 20000 in
/-- Two lists that are the same. -/
theorem same_yes {w : World} {ad1 ad2 : Option Addr} {l : List Int} (c1 c2 : Nat) (h1 : NumsAt w ad1 l) (h2 : NumsAt w ad2 l) (hl : l.length ≤ 1000) : Calls Tryd.prog 17 #[.slice ad1 l.length c1, .slice ad2 l.length c2] w fun e w' => e = .returned (.bool true) ∧ Fr (fun _ => False) w w' := by
  have H1 := hid h1
  have H2 := hid h2
  clear h1 h2
  go_enter Tryd.func17, Tryd.ntmps17
  go_wp2
  go_loopw [5] (fun i wr => ∃ j : Nat, j ≤ l.length ∧ i = .int .i64 j ∧ Hid (Fr (fun _ => False) w wr)) (fun i _ => l.length - (intOf i).toNat)
  case atStart => exact ⟨0, by omega, rfl, Fr.refl _ _⟩
  case round =>
    obtain ⟨j, hj, rfl, HF⟩ := hrel
    by_cases hlt : j < l.length
    · obtain ⟨b1, o1, rfl, _, k1⟩ := H1.out.fr HF.out j hlt
      obtain ⟨b2, o2, rfl, _, k2⟩ := H2.out.fr HF.out j hlt
      have HF2 := hid (fun n => HF.out.drewN n)
      clear HF H1 H2
      generalize l[j] = x at *
      go_wp2
      go_quiet (fail)
      go_wp2
      go_roundw
      case rel => exact ⟨j + 1, by omega, by go_num, HF2.out _⟩
      case measure => simp [intOf]; omega
    · obtain rfl : j = l.length := by omega
      go_wp2
      go_ret
      exact ⟨by simp, HF.out⟩
end Go.Proofs.YthamfljooapkoaaDoor
