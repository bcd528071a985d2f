/-
  What the calls of package pool do that turn nothing; slices.Clone, slices.Contains, slices.IndexFunc.
-/
import Derived.Test.YthamfljooapkoaaDoorPoShelf
namespace Go.Proofs.YthamfljooapkoaaDoor
open Go.RowKit

theorem own_any (o : Int) (w : World) : Calls Tryd.prog 24 #[.int .i64 o] w fun e w' => e = .returned (.bool (decide (Ow o))) ∧ w' = w := by
  by_cases h0 : 0 ≤ o
  · by_cases h1 : o < 8
    · rw [decide_eq_true (show Ow o from ⟨h0, by omega⟩)]
      go_enter Tryd.func24, Tryd.ntmps24
      go_wp2
      go_ret
      exact ⟨by simp, rfl⟩
    · rw [decide_eq_false (show ¬ Ow o from fun h => h1 (by have := h.2; omega))]
      go_enter Tryd.func24, Tryd.ntmps24
      go_wp2
      go_ret
      exact ⟨by simp, rfl⟩
  · rw [decide_eq_false (show ¬ Ow o from fun h => h0 h.1)]
    go_enter Tryd.func24, Tryd.ntmps24
    go_wp2
    go_ret
    exact ⟨by simp, rfl⟩
/-- slices.Clone of numbers that lie anywhere. -/
theorem cl_any {w : World} {ad : Option Addr} {l : List Int} (cap : Nat) (hl : NumsAt w ad l) (hm : l.length ≤ 100000) : Calls Tryd.prog 23 #[.slice ad l.length cap] w fun e w' => (∃ v, e = .returned v ∧ w'.ownsRow w.heap.size 3 1 v l.length (ic l)) ∧ Fr (fun _ => False) w w' := by
  cases ad with
  | none =>
    have e0 : l = [] := by
      cases l with
      | nil => rfl
      | cons x r => obtain ⟨b, off, h, _⟩ := hl 0 (by simp); cases h
    subst e0
    clear hl hm
    have q : ∀ (w : World) (a : Option Addr) (n c n' c' : Nat), (binOp .eql 34 (.slice a n c) (.slice none n' c')).run Tryd.prog w = .ok (.bool a.isNone) w := fun w a n c n' c' => Lib.run_eql_slice_nil w _ _ a n c n' c' Tryd.underlying34
    go_enter Tryd.func23, Tryd.ntmps23
    go_wp2
    go_ret
    exact ⟨⟨_, rfl, World.ownsRow_nil _ _ _ _⟩, Fr.refl _ _⟩
  | some a =>
    obtain ⟨i0, hi, hz0, hz1, hz2⟩ := info_parts Tryd.infoInt
    have q : ∀ (w : World) (a : Option Addr) (n c n' c' : Nat), (binOp .eql 34 (.slice a n c) (.slice none n' c')).run Tryd.prog w = .ok (.bool a.isNone) w := fun w a n c n' c' => Lib.run_eql_slice_nil w _ _ a n c n' c' Tryd.underlying34
    have HN : Hid (∀ (o : Obj) (j : Nat) (u : Value), (ic l)[j]? = some u → (w.alloc o).cell? (a.add j) = some u) := fun o j u hj => by
      have hj2 : j < l.length := by have := (List.getElem?_eq_some_iff.1 hj).1; simpa [ic] using this
      obtain ⟨b, off, h1, h2, h3⟩ := hl.alloc o j hj2
      cases h1
      rw [add_plain, h3, ← hj]
      simp [ic, hj2]
    clear hl
    go_enter Tryd.func23, Tryd.ntmps23
    go_wp2_with (at_builtin; refine wpList_append_own _ rfl _ _ 34 rfl w.heap.size 3 i0 (.int .i64 0) 1 8 Tryd.underlying34 hi hz0 hz1 hz2 rfl (by decide) _ _ _ rfl (World.ownsRow_made w #[] 0 (Nat.le_refl _) (Nat.zero_le _) rfl) a l.length cap (ic l) rfl (by rw [ic_length]; simp) (HN.out _) (ic_one l) (by unfold maxLen; omega) (by omega) (by simp) ?_)
    intro v' w1 hown hgrow hnil
    have HO := hid hown
    have HG := hid hgrow
    clear hown hgrow hnil
    go_wp2
    go_ret
    exact ⟨⟨v', rfl, by simpa using HO.out⟩, Fr.new (((Fr.refl _ w).alloc _).grown HG.out (by intro k hk; simp [Value.ownBlock] at hk; omega))⟩
theorem idx_any {w : World} {ad : Option Addr} {l : List Int} (cap : Nat) (hl : NumsAt w ad l) (hm : l.length ≤ 100000) (x : Int) : Calls Tryd.prog 41 #[.slice ad l.length cap, .int .i64 x] w fun e w' => (∃ r : Int, e = .returned (.int .i64 r) ∧ (0 ≤ r ↔ x ∈ l)) ∧ w' = w := by
  have HL := hid hl
  clear hl
  go_enter Tryd.func41, Tryd.ntmps41
  go_wp2
  go_loopw [5, 8] (fun _ i wr => ∃ j : Nat, j ≤ l.length ∧ i = .int .i64 j ∧ wr = w ∧ ∀ q (hq : q < j) (hl : q < l.length), l[q] ≠ x) (fun _ i _ => l.length - (intOf i).toNat)
  case atStart => exact ⟨0, by omega, rfl, rfl, fun q hq => by omega⟩
  case round =>
    obtain ⟨j, hj, rfl, hwr, hno⟩ := hrel
    obtain rfl := hwr.symm
    have HN := hid hno
    clear hwr hno
    by_cases hlt : j < l.length
    · obtain ⟨bb, off, rfl, hb, hc⟩ := HL.out j hlt
      have HY : Hid (l[j] = l[j]) := rfl
      by_cases hx : x = l[j]
      · have HE : Hid (x ∈ l) := by show _ ∈ _; rw [hx]; exact List.getElem_mem hlt
        rw [← hx] at hc
        clear hx HY
        go_wp2
        go_ret
        exact ⟨⟨j, by simp, fun _ => HE.out, fun _ => by omega⟩, rfl⟩
      · have HE : Hid (∀ q (hq : q < j + 1) (hl : q < l.length), l[q] ≠ x) := fun q hq hl => by
          by_cases e : q = j
          · subst e; exact fun e => hx e.symm
          · exact HN.out q (by omega) hl
        have hb0 : (x == l[j]) = false := by simpa using hx
        clear hx HY HN
        generalize l[j] = y at *
        go_wp2
        go_roundw
        case rel => exact ⟨j + 1, by omega, by go_num, trivial, HE.out⟩
        case measure => simp [intOf]; omega
    · have HE : Hid (x ∉ l) := fun hx => by
        obtain ⟨q, hq, e⟩ := List.getElem_of_mem hx
        exact HN.out q (by omega) hq e
      clear HN
      go_wp2
      go_ret
      exact ⟨⟨-1, by simp, fun h => by omega, fun h => (HE.out h).elim⟩, rfl⟩
theorem has_any {w : World} {ad : Option Addr} {l : List Int} (cap : Nat) (hl : NumsAt w ad l) (hm : l.length ≤ 100000) (x : Int) : Calls Tryd.prog 32 #[.slice ad l.length cap, .int .i64 x] w fun e w' => e = .returned (.bool (decide (x ∈ l))) ∧ w' = w := by
  have H1 := hid (idx_any cap hl hm x)
  clear hl
  go_enter Tryd.func32, Tryd.ntmps32
  go_wp2_with fail
  refine H1.out.mono ?_
  rintro e w1 ⟨⟨r, rfl, hr⟩, hw⟩
  obtain rfl := hw.symm
  have HR := hid hr
  clear hr hw
  go_wp2
  go_ret
  refine ⟨?_, rfl⟩
  have := HR.out
  by_cases hx : x ∈ l
  · simp [hx, this.2 hx]
  · have h2 : ¬ 0 ≤ r := fun h => hx (this.1 h)
    simp [hx, h2]
section
variable {w w' : World} {a : Nat} {Z : Nat → Prop} {own : List Int}
theorem nums_of {base : Nat} {v : Value} {l : List Int} (h : w.ownsRow base 3 1 v l.length (ic l)) : ∃ ad cap, v = .slice ad l.length cap ∧ NumsAt w ad l := by
  obtain ⟨ad, cap, h1, h2, _⟩ := row_list h
  exact ⟨ad, cap, h1, h2⟩
theorem p_free (h : Pm w a Z own) : Calls Tryd.prog 13 #[.pointer (some ⟨a, 0, none⟩)] w fun e w' => e = .returned (.int .i64 ((wN own (-1)).length : Nat)) ∧ Fr (fun _ => False) w w' := by
  obtain ⟨sa, sb, V, h1, h2, h3, h4⟩ := h
  have c0 := h1.c0
  have H1 := hid (Sf.s_free h1.sh)
  rw [free_all] at H1
  clear h1 h2 h3 h4
  go_enter Tryd.func13, Tryd.ntmps13
  go_wp2_with fail
  refine H1.out.mono ?_
  rintro e w1 ⟨rfl, hw⟩
  obtain rfl := hw.symm
  clear hw
  go_wp2
  go_ret
  exact ⟨by simp, Fr.refl _ _⟩
theorem p_free_nil (w : World) : Calls Tryd.prog 13 #[.pointer none] w fun e w' => e = .returned (.int .i64 0) ∧ Fr (fun _ => False) w w' := by
  go_enter Tryd.func13, Tryd.ntmps13
  go_wp2
  go_ret
  exact ⟨by simp, Fr.refl _ _⟩
theorem p_window_nil (o : Int) (w : World) : Calls Tryd.prog 18 #[.pointer none, .int .i64 o] w fun e w' => Ls w w' [] e ∧ Fr (fun _ => False) w w' := by
  go_enter Tryd.func18, Tryd.ntmps18
  go_wp2
  go_ret
  exact ⟨⟨none, 0, by simp, nums_none _ _, fun b off e => by cases e⟩, Fr.refl _ _⟩
theorem p_window (h : Pm w a Z own) (o : Int) : Calls Tryd.prog 18 #[.pointer (some ⟨a, 0, none⟩), .int .i64 o] w fun e w' => LsW w w' Z (nI (wiL own o)) e ∧ Fr (fun _ => False) w w' := by
  have HM := hid (own_any o w)
  by_cases ho : Ow o
  · obtain ⟨sa, sb, V, h1, h2, h3, h4⟩ := h
    rw [decide_eq_true ho] at HM
    have e1 : wiL own o = wN own o := if_pos ho
    have h8 : o.toNat < 8 := by unfold Ow at ho; omega
    obtain ⟨n, rfl⟩ : ∃ n : Nat, o = n := ⟨o.toNat, by unfold Ow at ho; omega⟩
    rw [Int.toNat_natCast] at h8
    rw [e1]
    have cv := h1.cv h8
    have hr := h1.row n h8
    rw [← nI_length] at hr
    obtain ⟨ad, cap, e2, hn⟩ := nums_of hr
    rw [e2] at cv
    have H1 := hid (cl_any cap hn (by rw [nI_length]; have := wN_le own n; have := h2.most; omega))
    have HZ := hid h4
    clear e1 hr hn h1 h2 h3 h4 e2 ho
    go_enter Tryd.func18, Tryd.ntmps18
    go_wp2_with (go_at_call 24; refine HM.out.mono ?_; rintro e w1 ⟨rfl, hw⟩; obtain rfl := hw.symm; clear hw)
    refine H1.out.mono ?_
    rintro e w1 ⟨⟨v, rfl, hv⟩, f1⟩
    have HV := hid hv
    have HF := hid f1
    clear hv f1
    go_wp2
    go_ret
    obtain ⟨vad, vcap, rfl, hn, hnew⟩ := row_list HV.out
    refine ⟨⟨vad, vcap, by simp, ⟨hn, fun b off e h0 hb => ?_⟩, hnew, ?_⟩, HF.out⟩
    · have := hnew b off e; have := HZ.out b hb; omega
    · rcases HV.out.2 with ⟨e1, e2⟩ | ⟨g, cap2, cur, e1, _, _, h5, _⟩
      · rw [e2]; omega
      · cases e1; exact h5
  · rw [decide_eq_false ho] at HM
    have e1 : wiL own o = [] := if_neg ho
    rw [e1]
    clear h ho e1
    go_enter Tryd.func18, Tryd.ntmps18
    go_wp2_with (go_at_call 24; refine HM.out.mono ?_; rintro e w1 ⟨rfl, hw⟩; obtain rfl := hw.symm; clear hw)
    go_ret
    exact ⟨⟨none, 0, by simp [nI], ⟨nums_none _ _, fun b off e => by cases e⟩, (fun b off e => by cases e), by simp [nI]⟩, Fr.refl _ _⟩
theorem p_owner_nil (c : Int) (w : World) : Calls Tryd.prog 15 #[.pointer none, .int .i64 c] w fun e w' => e = .returned (.int .i64 (-1)) ∧ Fr (fun _ => False) w w' := by
  go_enter Tryd.func15, Tryd.ntmps15
  go_wp2
  go_ret
  exact ⟨by simp, (Fr.refl _ _).alloc _⟩
theorem p_copy_nil (w : World) : Calls Tryd.prog 10 #[.pointer none] w fun e w' => e = .returned (.pointer none) ∧ Fr (fun _ => False) w w' := by
  go_enter Tryd.func10, Tryd.ntmps10
  go_wp2
  go_ret
  exact ⟨by simp, Fr.refl _ _⟩
theorem p_grant_nil (o k : Int) (w : World) : Calls Tryd.prog 11 #[.pointer none, .int .i64 o, .int .i64 k] w fun e w' => LsE w w' [] 11 e ∧ Fr (fun _ => False) w w' := by
  go_enter Tryd.func11, Tryd.ntmps11
  go_wp2
  go_ret2
  exact ⟨⟨none, 0, by simp, nums_none _ _, fun b off e => by cases e⟩, Fr.refl _ _⟩
theorem p_shrink_nil (o k : Int) (w : World) : Calls Tryd.prog 19 #[.pointer none, .int .i64 o, .int .i64 k] w fun e w' => LsE w w' [] 11 e ∧ Fr (fun _ => False) w w' := by
  go_enter Tryd.func19, Tryd.ntmps19
  go_wp2
  go_ret2
  exact ⟨⟨none, 0, by simp, nums_none _ _, fun b off e => by cases e⟩, Fr.refl _ _⟩
theorem p_drop_nil (o : Int) (w : World) : Calls Tryd.prog 20 #[.pointer none, .int .i64 o] w fun e w' => LsE w w' [] 11 e ∧ Fr (fun _ => False) w w' := by
  have H1 := hid (p_shrink_nil o 0 w)
  go_enter Tryd.func20, Tryd.ntmps20
  go_wp2_with fail
  refine H1.out.mono ?_
  rintro e w1 ⟨⟨ad, cap, rfl, h2, h3⟩, f1⟩
  have HH := hid (And.intro h2 (And.intro h3 f1))
  clear h2 h3 f1 H1
  go_wp2
  go_ret2
  exact ⟨⟨ad, cap, by simp, HH.out.1, HH.out.2.1⟩, HH.out.2.2⟩
/-- The closure: is the colour in this window? -/
theorem look_any {w : World} {B : Nat} {ad : Option Addr} {l : List Int} (cap : Nat) (c : Int) (hc : w.cell? ⟨B, 0, none⟩ = some (.int .i64 c)) (hl : NumsAt w ad l) (hm : l.length ≤ 100000) : Calls Tryd.prog 31 #[.slice ad l.length cap, .pointer (some ⟨B, 0, none⟩)] w fun e w' => e = .returned (.bool (decide (c ∈ l))) ∧ w' = w := by
  have H1 := hid (has_any cap hl hm c)
  clear hl
  go_enter Tryd.func31, Tryd.ntmps31
  go_wp2_with fail
  refine H1.out.mono ?_
  rintro e w1 ⟨rfl, hw⟩
  obtain rfl := hw.symm
  clear hw
  go_wp2
  go_ret
  exact ⟨by simp, rfl⟩
theorem find_any {w : World} {base a sa sb : Nat} {V : Nat → Value} {has : List Bool} {own : List Int} (h : Pj w base a sa sb V has (fun o => wN own o)) (ho : Own own) {B : Nat} {c : Int} (hB : w.cell? ⟨B, 0, none⟩ = some (.int .i64 c)) : Calls Tryd.prog 30 #[.slice (some ⟨a, 1, none⟩) 8 8, .func (.func 31) #[] #[.pointer (some ⟨B, 0, none⟩)]] w fun e w' => e = .returned (.int .i64 (owI own c)) ∧ w' = w := by
  have HP := hid h
  have HO := hid ho
  have HB := hid hB
  clear h ho hB
  go_enter Tryd.func30, Tryd.ntmps30
  go_wp2
  go_loopw [5, 8] (fun _ i wr => ∃ j : Nat, j ≤ 8 ∧ i = .int .i64 j ∧ wr = w ∧ ∀ q : Nat, q < j → c ∉ nI (wN own q)) (fun _ i _ => 8 - (intOf i).toNat)
  case atStart => exact ⟨0, by omega, rfl, rfl, fun q hq => by omega⟩
  case round =>
    obtain ⟨j, hj, rfl, hwr, hno⟩ := hrel
    obtain rfl := hwr.symm
    have HN := hid hno
    clear hwr hno
    by_cases hlt : j < 8
    · have cv := HP.out.cv hlt
      have hr := HP.out.row j hlt
      rw [← nI_length] at hr
      obtain ⟨ad, cap, e2, hn⟩ := nums_of hr
      rw [e2] at cv
      have H1 := hid (look_any cap c HB.out hn (by rw [nI_length]; have := wN_le own j; have := HO.out.most; omega))
      clear hr hn e2
      by_cases hx : c ∈ nI (wN own j)
      · rw [decide_eq_true hx] at H1
        have HE := hid (ow_hit hx)
        clear hx
        go_wp2_with fail
        refine H1.out.mono ?_
        rintro e w1 ⟨rfl, hw⟩
        obtain rfl := hw.symm
        clear hw
        go_wp2
        go_ret
        exact ⟨by rw [HE.out]; simp, rfl⟩
      · rw [decide_eq_false hx] at H1
        have HE : Hid (∀ q : Nat, q < j + 1 → c ∉ nI (wN own q)) := fun q hq => by
          by_cases e : q = j
          · subst e; exact hx
          · exact HN.out q (by omega)
        clear hx HN
        go_wp2_with fail
        refine H1.out.mono ?_
        rintro e w1 ⟨rfl, hw⟩
        obtain rfl := hw.symm
        clear hw
        go_wp2
        go_roundw
        case rel => exact ⟨j + 1, by omega, by go_num, trivial, HE.out⟩
        case measure => simp [intOf]; omega
    · have HE := hid (ow_miss HO.out (c := c) fun o h => HN.out o (by omega))
      clear HN
      go_wp2
      go_ret
      exact ⟨by rw [HE.out]; simp, rfl⟩
theorem p_owner (h : Pm w a Z own) (c : Int) : Calls Tryd.prog 15 #[.pointer (some ⟨a, 0, none⟩), .int .i64 c] w fun e w' => e = .returned (.int .i64 (owI own c)) ∧ Fr (fun _ => False) w w' := by
  obtain ⟨sa, sb, V, h1, h2, h3, h4⟩ := h
  have H1 := hid (find_any (h1.kept ((Fr.refl _ _).alloc (.cells #[.int .i64 c] 3))) h2 (B := w.heap.size) (c := c) (by simp))
  clear h1 h2 h3 h4
  go_enter Tryd.func15, Tryd.ntmps15
  go_wp2_with fail
  refine H1.out.mono ?_
  rintro e w1 ⟨rfl, hw⟩
  obtain rfl := hw.symm
  clear hw
  go_wp2
  go_ret
  exact ⟨by simp, (Fr.refl _ _).alloc _⟩
end
end Go.Proofs.YthamfljooapkoaaDoor
