/-
  The walks of the law ArenaNotes, one for each way.
-/
import Derived.Test.YtlikfcdlgkbnoaaWant
namespace Go.Proofs.Ytlikfcdlgkbnoaa
open Go.RowKit

theorem MW.row {W w : World} {T : TypeId} {B a b : Nat} {bs : List UInt8} {ss : List Sp} {vw : Value} {ks : List Sp} (h : MW W w T B a b bs ss vw ks) : w.ownsRow W.heap.size 58 3 vw ks.length (spcs ks) := by
  obtain ⟨v, h1, h2, h3, h4, h5, h6⟩ := h
  exact h5
theorem MW.size {W w : World} {T : TypeId} {B a b : Nat} {bs : List UInt8} {ss : List Sp} {vw : Value} {ks : List Sp} (h : MW W w T B a b bs ss vw ks) : W.heap.size ≤ w.heap.size := by
  obtain ⟨v, h1, h2, h3, h4, h5, h6⟩ := h
  exact h4.size

/-- One more span of the call's own. -/
theorem wpList_want {W w : World} {T : TypeId} {B a b : Nat} {bs : List UInt8} {ss : List Sp} {vw : Value} {ks : List Sp} (s : Sp) (h : MW W w T B a b bs ss vw ks) (hk : ks.length ≤ 1000)
    {ops : Array Oper} {rest : List Oper} {o : Oper} {ac : Act} {Q : Exit → Act → World → Prop} (hgd : o.guard = none) (t1 t2 : Operand)
    (ho : o.op = .call { callee := .builtin .append, args := #[t1, t2], argTypes := #[37, 37] })
    (hs : ac.eval t1 = vw) (hx : ac.eval t2 = .slice (some ⟨w.heap.size, 0, none⟩) 1 1)
    (K : ∀ g cap w', MW W w' T B a b bs ss (.slice (some ⟨g, 0, none⟩) (ks.length + 1) cap) (ks ++ [s]) → wpList Try.prog ops Q rest (ac.put o.dst (.slice (some ⟨g, 0, none⟩) (ks.length + 1) cap)) w') :
    wpList Try.prog ops Q (o :: rest) ac (w.alloc (.cells #[.int .i64 s.1, .int .i64 s.2.1, .bool s.2.2] 58)) := by
  obtain ⟨i0, hi, hz0, hz1, hz2⟩ := info_parts Try.info58
  refine wpList_append_sep hgd t1 t2 37 ho W.heap.size 58 i0 (.agg #[.int .i64 0, .int .i64 0, .bool false]) 3 24 Try.underlying37 hi hz0 hz1 hz2 rfl (by decide) vw _ _ hs (h.row.alloc _) ⟨w.heap.size, 0, none⟩ 1 1 (by decide) [.int .i64 s.1, .int .i64 s.2.1, .bool s.2.2] hx rfl ?_ ?_ (by unfold maxLen; omega) (by omega) (by have := h.size; simp; omega) ?_
  · intro j u hj
    match j, hj with
    | 0, hj => simp at hj; subst hj; simp [Addr.add]
    | 1, hj => simp at hj; subst hj; simp [Addr.add]
    | 2, hj => simp at hj; subst hj; simp [Addr.add]
  · intro u hu; simp at hu; rcases hu with rfl | rfl | rfl <;> rfl
  · intro g cap w1 hown hgrow hsep
    exact K g cap w1 (h.append hown hgrow (by simpa using hsep))

theorem all_noted {p m : Nat} {wr : Bool} {ss : List Sp} (h : 0 < m) : noted ss p m wr = ss ++ [((p : Int), (m : Int), wr)] := by
  unfold noted; rw [if_pos (by omega)]
theorem none_noted {p : Int} {m : Int} {wr : Bool} {ss : List Sp} (h : ¬ 0 < m) : noted ss p m wr = ss := by
  unfold noted; rw [if_neg h]

set_option maxHeartbeats 1000000 in
theorem notes_long (z x n : Int) (d : ByteArray) (w : World) (N : Nat) (hN : N < 2048) (hz : wrap64 ((IntKind.u64.wrap z).tmod 2048) = (N : Int)) (hd : d.size ≤ maxLen) (h : 4096 < d.size ∨ (d.size ≤ 4096 ∧ 65536 < n)) :
    Calls Try.prog 8 #[.int .i64 z, .int .i64 x, .int .i64 n, .string d] w fun e w' => e = .returned (.bool true) ∧ Fr (fun _ => False) w w' := by
  have HZ : Hid (wrap64 ((IntKind.u64.wrap z).tmod 2048) = (N : Int)) := hz
  unfold maxLen at hd
  clear hz
  rcases h with h | ⟨h0, h⟩
  all_goals
    go_enter Try.func8, Try.ntmps8
    go_wp2_with fail
    rw [HZ.out]
    refine (m_new N w w (Fr.refl _ _) (by omega)).mono ?_
    rintro e w1 ⟨a, b, B, rfl, hm⟩
    have HF : Hid (Fr (fun _ => False) w w1) := hm.frame
    clear hm
    go_wp2_with fail
    refine (awake_any w1).mono ?_
    rintro e w2 ⟨rfl, hf⟩
    have HF2 : Hid (Fr (fun _ => False) w1 w2) := hf
    clear hf
    go_wp2_with fail
    refine (awake_any w2).mono ?_
    rintro e w3 ⟨rfl, hf⟩
    have HF3 : Hid (Fr (fun _ => False) w2 w3) := hf
    clear hf
    go_wp2
    go_ret
    exact ⟨rfl, (HF.out.trans HF2.out).trans HF3.out⟩

set_option maxHeartbeats 2000000 in
theorem notes_pos_pos (z : Int) (p : Nat) (m : Nat) (d : ByteArray) (w : World) (N : Nat) (hN : N < 2048) (hz : wrap64 ((IntKind.u64.wrap z).tmod 2048) = (N : Int)) (hd : d.size ≤ 4096) (hm0 : 0 < m) (hinA : p + m ≤ N) (hmn : m ≤ 65536) (hd0 : 0 < d.size) (hinB : p + d.size ≤ N) :
    Calls Try.prog 8 #[.int .i64 z, .int .i64 p, .int .i64 m, .string d] w fun e w' => e = .returned (.bool true) ∧ Fr (fun _ => False) w w' := by
  have HZ : Hid (wrap64 ((IntKind.u64.wrap z).tmod 2048) = (N : Int)) := hz
  have hne : d.toList.isEmpty = false := by
    have := len_list d
    rw [ByteArray.toList_eq]
    cases hl : d.data.toList with
    | nil => rw [hl] at this; simp at this; omega
    | cons _ _ => rfl
  clear hz
  go_enter Try.func8, Try.ntmps8
  go_wp2_with fail
  rw [HZ.out]
  refine (m_new N w w (Fr.refl _ _) (by omega)).mono ?_
  rintro e w1 ⟨a, b, B, rfl, hm⟩
  have HM : Hid (Mine w w1 61 B a b (List.replicate N 0) []) := hm
  clear hm
  go_wp2_with fail
  refine (awake_any w1).mono ?_
  rintro e w2 ⟨rfl, hf⟩
  have hm := MW.start (HM.out.fr hf)
  have hbl : (List.replicate N (0 : UInt8)).length = N := List.length_replicate
  generalize List.replicate N (0 : UInt8) = bs at *
  have HR : Hid (Calls Try.prog 16 #[.pointer (some ⟨a, 0, none⟩), .int .i64 p, .int .i64 m] w2 fun e w' => ∃ r, e = .returned (.tuple #[.string r, .int .i64 0]) ∧ MW w w' 61 B a b bs [((p : Int), (m : Int), false)] (.slice none 0 0) []) := by
    have := w_read hm p m (by omega) (by simp)
    rw [all_noted hm0] at this
    exact this
  have HBL : Hid (bs.length = N) := hbl
  clear hm hf HM hbl
  go_wp2_with fail
  refine HR.out.mono ?_
  rintro e w3 ⟨r, rfl, hm⟩
  have HMW : Hid (MW w w3 61 B a b bs [((p : Int), (m : Int), false)] (.slice none 0 0) []) := hm
  clear hm HR
  go_wp2_with (at_builtin; refine wpList_want ((p : Int), (m : Int), false) HMW.out (by simp) rfl (.tmp 56) (.tmp 60) rfl rfl rfl ?_; intro g1 cap1 w4 hm4)
  have HZr : Hid (Calls Try.prog 22 #[.pointer (some ⟨a, 0, none⟩), .int .i64 p, .int .i64 m] w4 fun e w' => e = .returned (.int .i64 0) ∧ ∃ bs', bs'.length = N ∧ MW w w' 61 B a b bs' [((p : Int), (m : Int), false), ((p : Int), (m : Int), true)] (.slice (some ⟨g1, 0, none⟩) 1 cap1) [((p : Int), (m : Int), false)]) := by
    have := w_zero hm4 p m (by rw [HBL.out]; omega) (by simp)
    rw [all_noted hm0, HBL.out] at this
    exact this
  clear hm4 HMW HBL
  refine HZr.out.mono ?_
  rintro e w5 ⟨rfl, bs', hbl', hm⟩
  have HMW : Hid (MW w w5 61 B a b bs' [((p : Int), (m : Int), false), ((p : Int), (m : Int), true)] (.slice (some ⟨g1, 0, none⟩) 1 cap1) [((p : Int), (m : Int), false)]) := hm
  have HBL : Hid (bs'.length = N) := hbl'
  clear hm HZr hbl'
  go_wp2_with (at_builtin; refine wpList_want ((p : Int), (m : Int), true) HMW.out (by simp) rfl (.tmp 71) (.tmp 75) rfl rfl rfl ?_; intro g2 cap2 w6 hm)
  clear HMW
  have HW : Hid (Calls Try.prog 19 #[.pointer (some ⟨a, 0, none⟩), .int .i64 p, .string d] w6 fun e w' => e = .returned (.int .i64 0) ∧ ∃ bs2, MW w w' 61 B a b bs2 [((p : Int), (m : Int), false), ((p : Int), (m : Int), true), ((p : Int), (d.size : Int), true)] (.slice (some ⟨g2, 0, none⟩) 2 cap2) [((p : Int), (m : Int), false), ((p : Int), (m : Int), true)]) := by
    have := w_write hm p d (by rw [HBL.out]; omega) (by simp)
    rw [all_noted hd0] at this
    exact this
  clear hm HBL
  refine HW.out.mono ?_
  rintro e w7 ⟨rfl, bs2, hm⟩
  have HMW : Hid (MW w w7 61 B a b bs2 [((p : Int), (m : Int), false), ((p : Int), (m : Int), true), ((p : Int), (d.size : Int), true)] (.slice (some ⟨g2, 0, none⟩) 2 cap2) [((p : Int), (m : Int), false), ((p : Int), (m : Int), true)]) := hm
  clear hm HW
  go_wp2_with (at_builtin; refine wpList_want ((p : Int), (d.size : Int), true) HMW.out (by simp) rfl (.tmp 86) (.tmp 91) rfl rfl rfl ?_; intro g3 cap3 w8 hm)
  have HMW2 : Hid (MW w w8 61 B a b bs2 [((p : Int), (m : Int), false), ((p : Int), (m : Int), true), ((p : Int), (d.size : Int), true)] (.slice (some ⟨g3, 0, none⟩) 3 cap3) [((p : Int), (m : Int), false), ((p : Int), (m : Int), true), ((p : Int), (d.size : Int), true)]) := hm
  clear hm HMW
  have HMW := HMW2
  clear HMW2
  have HT : Hid (Calls Try.prog 15 #[.pointer (some ⟨a, 0, none⟩)] w8 fun e w' => ∃ ad cap, e = .returned (.slice ad 3 cap) ∧ w'.ownsRow w8.heap.size 58 3 (.slice ad 3 cap) 3 (spcs [((p : Int), (m : Int), false), ((p : Int), (m : Int), true), ((p : Int), (d.size : Int), true)]) ∧
      w'.ownsRow w.heap.size 58 3 (.slice (some ⟨g3, 0, none⟩) 3 cap3) 3 (spcs [((p : Int), (m : Int), false), ((p : Int), (m : Int), true), ((p : Int), (d.size : Int), true)]) ∧ Mine w w' 61 B a b bs2 [((p : Int), (m : Int), false), ((p : Int), (m : Int), true), ((p : Int), (d.size : Int), true)]) := w_touched HMW.out (by simp)
  clear HMW
  refine HT.out.mono ?_
  rintro e w9 ⟨ad, cap, rfl, ho1, ho2, hm⟩
  have HS : Hid (Calls Try.prog 14 #[.slice ad 3 cap, .slice (some ⟨g3, 0, none⟩) 3 cap3] w9 fun e w' => e = .returned (.bool true) ∧ Fr (fun _ => False) w9 w') := same_any (ss := [((p : Int), (m : Int), false), ((p : Int), (m : Int), true), ((p : Int), (d.size : Int), true)]) ho1 ho2 (by simp)
  have HM2 : Hid (Mine w w9 61 B a b bs2 [((p : Int), (m : Int), false), ((p : Int), (m : Int), true), ((p : Int), (d.size : Int), true)]) := hm
  clear hm ho1 ho2 HT
  go_wp2_with fail
  refine HS.out.mono ?_
  rintro e w10 ⟨rfl, hf⟩
  have HFg : Hid (Calls Try.prog 21 #[.pointer (some ⟨a, 0, none⟩)] w10 fun e w' => e = .returned (.tuple #[]) ∧ Mine w w' 61 B a b bs2 []) := m_forget (HM2.out.fr hf)
  clear hf HS HM2
  go_wp2_with fail
  refine HFg.out.mono ?_
  rintro e w11 ⟨rfl, hm⟩
  have HT2 : Hid (Calls Try.prog 15 #[.pointer (some ⟨a, 0, none⟩)] w11 fun e w' => ∃ ad cap, e = .returned (.slice ad 0 cap) ∧ Fr (fun _ => False) w w') := (m_touched hm (by simp)).mono fun e w' ⟨ad, cap, he, _, hm⟩ => ⟨ad, cap, he, hm.frame⟩
  clear hm HFg
  go_wp2_with fail
  refine HT2.out.mono ?_
  rintro e w12 ⟨ad2, cap2', rfl, hf⟩
  have HF : Hid (Fr (fun _ => False) w w12) := hf
  clear hf HT2
  go_wp2
  go_ret
  exact ⟨rfl, HF.out⟩

set_option maxHeartbeats 2000000 in
theorem notes_pos_none (z : Int) (p : Nat) (m : Nat) (d : ByteArray) (w : World) (N : Nat) (hN : N < 2048) (hz : wrap64 ((IntKind.u64.wrap z).tmod 2048) = (N : Int)) (_hd : d.size ≤ 4096) (hm0 : 0 < m) (hinA : p + m ≤ N) (hmn : m ≤ 65536) (hd0 : d.size = 0) (hinB : p ≤ N) :
    Calls Try.prog 8 #[.int .i64 z, .int .i64 p, .int .i64 m, .string d] w fun e w' => e = .returned (.bool true) ∧ Fr (fun _ => False) w w' := by
  have HZ : Hid (wrap64 ((IntKind.u64.wrap z).tmod 2048) = (N : Int)) := hz
  have hne : d.toList.isEmpty = true := by
    have := len_list d
    rw [ByteArray.toList_eq]
    cases hl : d.data.toList with
    | nil => rfl
    | cons _ _ => rw [hl] at this; simp at this; omega
  clear hz
  go_enter Try.func8, Try.ntmps8
  go_wp2_with fail
  rw [HZ.out]
  refine (m_new N w w (Fr.refl _ _) (by omega)).mono ?_
  rintro e w1 ⟨a, b, B, rfl, hm⟩
  have HM : Hid (Mine w w1 61 B a b (List.replicate N 0) []) := hm
  clear hm
  go_wp2_with fail
  refine (awake_any w1).mono ?_
  rintro e w2 ⟨rfl, hf⟩
  have hm := MW.start (HM.out.fr hf)
  have hbl : (List.replicate N (0 : UInt8)).length = N := List.length_replicate
  generalize List.replicate N (0 : UInt8) = bs at *
  have HR : Hid (Calls Try.prog 16 #[.pointer (some ⟨a, 0, none⟩), .int .i64 p, .int .i64 m] w2 fun e w' => ∃ r, e = .returned (.tuple #[.string r, .int .i64 0]) ∧ MW w w' 61 B a b bs [((p : Int), (m : Int), false)] (.slice none 0 0) []) := by
    have := w_read hm p m (by omega) (by simp)
    rw [all_noted hm0] at this
    exact this
  have HBL : Hid (bs.length = N) := hbl
  clear hm hf HM hbl
  go_wp2_with fail
  refine HR.out.mono ?_
  rintro e w3 ⟨r, rfl, hm⟩
  have HMW : Hid (MW w w3 61 B a b bs [((p : Int), (m : Int), false)] (.slice none 0 0) []) := hm
  clear hm HR
  go_wp2_with (at_builtin; refine wpList_want ((p : Int), (m : Int), false) HMW.out (by simp) rfl (.tmp 56) (.tmp 60) rfl rfl rfl ?_; intro g1 cap1 w4 hm4)
  have HZr : Hid (Calls Try.prog 22 #[.pointer (some ⟨a, 0, none⟩), .int .i64 p, .int .i64 m] w4 fun e w' => e = .returned (.int .i64 0) ∧ ∃ bs', bs'.length = N ∧ MW w w' 61 B a b bs' [((p : Int), (m : Int), false), ((p : Int), (m : Int), true)] (.slice (some ⟨g1, 0, none⟩) 1 cap1) [((p : Int), (m : Int), false)]) := by
    have := w_zero hm4 p m (by rw [HBL.out]; omega) (by simp)
    rw [all_noted hm0, HBL.out] at this
    exact this
  clear hm4 HMW HBL
  refine HZr.out.mono ?_
  rintro e w5 ⟨rfl, bs', hbl', hm⟩
  have HMW : Hid (MW w w5 61 B a b bs' [((p : Int), (m : Int), false), ((p : Int), (m : Int), true)] (.slice (some ⟨g1, 0, none⟩) 1 cap1) [((p : Int), (m : Int), false)]) := hm
  have HBL : Hid (bs'.length = N) := hbl'
  clear hm HZr hbl'
  go_wp2_with (at_builtin; refine wpList_want ((p : Int), (m : Int), true) HMW.out (by simp) rfl (.tmp 71) (.tmp 75) rfl rfl rfl ?_; intro g2 cap2 w6 hm)
  clear HMW
  have HW : Hid (Calls Try.prog 19 #[.pointer (some ⟨a, 0, none⟩), .int .i64 p, .string d] w6 fun e w' => e = .returned (.int .i64 0) ∧ ∃ bs2, MW w w' 61 B a b bs2 [((p : Int), (m : Int), false), ((p : Int), (m : Int), true)] (.slice (some ⟨g2, 0, none⟩) 2 cap2) [((p : Int), (m : Int), false), ((p : Int), (m : Int), true)]) := by
    have := w_write hm p d (by rw [HBL.out]; omega) (by simp)
    rw [none_noted (by omega)] at this
    exact this
  clear hm HBL
  refine HW.out.mono ?_
  rintro e w7 ⟨rfl, bs2, hm⟩
  have HMW : Hid (MW w w7 61 B a b bs2 [((p : Int), (m : Int), false), ((p : Int), (m : Int), true)] (.slice (some ⟨g2, 0, none⟩) 2 cap2) [((p : Int), (m : Int), false), ((p : Int), (m : Int), true)]) := hm
  clear hm HW
  have HT : Hid (Calls Try.prog 15 #[.pointer (some ⟨a, 0, none⟩)] w7 fun e w' => ∃ ad cap, e = .returned (.slice ad 2 cap) ∧ w'.ownsRow w7.heap.size 58 3 (.slice ad 2 cap) 2 (spcs [((p : Int), (m : Int), false), ((p : Int), (m : Int), true)]) ∧
      w'.ownsRow w.heap.size 58 3 (.slice (some ⟨g2, 0, none⟩) 2 cap2) 2 (spcs [((p : Int), (m : Int), false), ((p : Int), (m : Int), true)]) ∧ Mine w w' 61 B a b bs2 [((p : Int), (m : Int), false), ((p : Int), (m : Int), true)]) := w_touched HMW.out (by simp)
  clear HMW
  go_wp2_with fail
  refine HT.out.mono ?_
  rintro e w9 ⟨ad, cap, rfl, ho1, ho2, hm⟩
  have HS : Hid (Calls Try.prog 14 #[.slice ad 2 cap, .slice (some ⟨g2, 0, none⟩) 2 cap2] w9 fun e w' => e = .returned (.bool true) ∧ Fr (fun _ => False) w9 w') := same_any (ss := [((p : Int), (m : Int), false), ((p : Int), (m : Int), true)]) ho1 ho2 (by simp)
  have HM2 : Hid (Mine w w9 61 B a b bs2 [((p : Int), (m : Int), false), ((p : Int), (m : Int), true)]) := hm
  clear hm ho1 ho2 HT
  go_wp2_with fail
  refine HS.out.mono ?_
  rintro e w10 ⟨rfl, hf⟩
  have HFg : Hid (Calls Try.prog 21 #[.pointer (some ⟨a, 0, none⟩)] w10 fun e w' => e = .returned (.tuple #[]) ∧ Mine w w' 61 B a b bs2 []) := m_forget (HM2.out.fr hf)
  clear hf HS HM2
  go_wp2_with fail
  refine HFg.out.mono ?_
  rintro e w11 ⟨rfl, hm⟩
  have HT2 : Hid (Calls Try.prog 15 #[.pointer (some ⟨a, 0, none⟩)] w11 fun e w' => ∃ ad cap, e = .returned (.slice ad 0 cap) ∧ Fr (fun _ => False) w w') := (m_touched hm (by simp)).mono fun e w' ⟨ad, cap, he, _, hm⟩ => ⟨ad, cap, he, hm.frame⟩
  clear hm HFg
  go_wp2_with fail
  refine HT2.out.mono ?_
  rintro e w12 ⟨ad2, cap2', rfl, hf⟩
  have HF : Hid (Fr (fun _ => False) w w12) := hf
  clear hf HT2
  go_wp2
  go_ret
  exact ⟨rfl, HF.out⟩

set_option maxHeartbeats 2000000 in
theorem notes_pos_no (z : Int) (p : Nat) (m : Nat) (d : ByteArray) (w : World) (N : Nat) (hN : N < 2048) (hz : wrap64 ((IntKind.u64.wrap z).tmod 2048) = (N : Int)) (hd : d.size ≤ 4096) (hm0 : 0 < m) (hinA : p + m ≤ N) (hmn : m ≤ 65536) (hinB : inB (p : Int) d.size N = false) :
    Calls Try.prog 8 #[.int .i64 z, .int .i64 p, .int .i64 m, .string d] w fun e w' => e = .returned (.bool true) ∧ Fr (fun _ => False) w w' := by
  have HZ : Hid (wrap64 ((IntKind.u64.wrap z).tmod 2048) = (N : Int)) := hz
  have HB : Hid (inB (p : Int) d.size N = false) := hinB
  clear hinB
  clear hz
  go_enter Try.func8, Try.ntmps8
  go_wp2_with fail
  rw [HZ.out]
  refine (m_new N w w (Fr.refl _ _) (by omega)).mono ?_
  rintro e w1 ⟨a, b, B, rfl, hm⟩
  have HM : Hid (Mine w w1 61 B a b (List.replicate N 0) []) := hm
  clear hm
  go_wp2_with fail
  refine (awake_any w1).mono ?_
  rintro e w2 ⟨rfl, hf⟩
  have hm := MW.start (HM.out.fr hf)
  have hbl : (List.replicate N (0 : UInt8)).length = N := List.length_replicate
  generalize List.replicate N (0 : UInt8) = bs at *
  have HR : Hid (Calls Try.prog 16 #[.pointer (some ⟨a, 0, none⟩), .int .i64 p, .int .i64 m] w2 fun e w' => ∃ r, e = .returned (.tuple #[.string r, .int .i64 0]) ∧ MW w w' 61 B a b bs [((p : Int), (m : Int), false)] (.slice none 0 0) []) := by
    have := w_read hm p m (by omega) (by simp)
    rw [all_noted hm0] at this
    exact this
  have HBL : Hid (bs.length = N) := hbl
  clear hm hf HM hbl
  go_wp2_with fail
  refine HR.out.mono ?_
  rintro e w3 ⟨r, rfl, hm⟩
  have HMW : Hid (MW w w3 61 B a b bs [((p : Int), (m : Int), false)] (.slice none 0 0) []) := hm
  clear hm HR
  go_wp2_with (at_builtin; refine wpList_want ((p : Int), (m : Int), false) HMW.out (by simp) rfl (.tmp 56) (.tmp 60) rfl rfl rfl ?_; intro g1 cap1 w4 hm4)
  have HZr : Hid (Calls Try.prog 22 #[.pointer (some ⟨a, 0, none⟩), .int .i64 p, .int .i64 m] w4 fun e w' => e = .returned (.int .i64 0) ∧ ∃ bs', bs'.length = N ∧ MW w w' 61 B a b bs' [((p : Int), (m : Int), false), ((p : Int), (m : Int), true)] (.slice (some ⟨g1, 0, none⟩) 1 cap1) [((p : Int), (m : Int), false)]) := by
    have := w_zero hm4 p m (by rw [HBL.out]; omega) (by simp)
    rw [all_noted hm0, HBL.out] at this
    exact this
  clear hm4 HMW HBL
  refine HZr.out.mono ?_
  rintro e w5 ⟨rfl, bs', hbl', hm⟩
  have HMW : Hid (MW w w5 61 B a b bs' [((p : Int), (m : Int), false), ((p : Int), (m : Int), true)] (.slice (some ⟨g1, 0, none⟩) 1 cap1) [((p : Int), (m : Int), false)]) := hm
  have HBL : Hid (bs'.length = N) := hbl'
  clear hm HZr hbl'
  go_wp2_with (at_builtin; refine wpList_want ((p : Int), (m : Int), true) HMW.out (by simp) rfl (.tmp 71) (.tmp 75) rfl rfl rfl ?_; intro g2 cap2 w6 hm)
  clear HMW
  have HW : Hid (Calls Try.prog 19 #[.pointer (some ⟨a, 0, none⟩), .int .i64 p, .string d] w6 fun e w' => e = .returned (.int .i64 4) ∧ w' = w6) := m_write_no hm.mine p d (by omega) (by rw [HBL.out]; exact HB.out)
  have HMW : Hid (MW w w6 61 B a b bs' [((p : Int), (m : Int), false), ((p : Int), (m : Int), true)] (.slice (some ⟨g2, 0, none⟩) 2 cap2) [((p : Int), (m : Int), false), ((p : Int), (m : Int), true)]) := hm
  clear hm HBL
  refine HW.out.mono ?_
  rintro e w' ⟨rfl, hw⟩
  obtain rfl := hw.symm
  clear HW
  have HT : Hid (Calls Try.prog 15 #[.pointer (some ⟨a, 0, none⟩)] w6 fun e w' => ∃ ad cap, e = .returned (.slice ad 2 cap) ∧ w'.ownsRow w6.heap.size 58 3 (.slice ad 2 cap) 2 (spcs [((p : Int), (m : Int), false), ((p : Int), (m : Int), true)]) ∧
      w'.ownsRow w.heap.size 58 3 (.slice (some ⟨g2, 0, none⟩) 2 cap2) 2 (spcs [((p : Int), (m : Int), false), ((p : Int), (m : Int), true)]) ∧ Mine w w' 61 B a b bs' [((p : Int), (m : Int), false), ((p : Int), (m : Int), true)]) := w_touched HMW.out (by simp)
  clear HMW
  go_wp2_with fail
  refine HT.out.mono ?_
  rintro e w9 ⟨ad, cap, rfl, ho1, ho2, hm⟩
  have HS : Hid (Calls Try.prog 14 #[.slice ad 2 cap, .slice (some ⟨g2, 0, none⟩) 2 cap2] w9 fun e w' => e = .returned (.bool true) ∧ Fr (fun _ => False) w9 w') := same_any (ss := [((p : Int), (m : Int), false), ((p : Int), (m : Int), true)]) ho1 ho2 (by simp)
  have HM2 : Hid (Mine w w9 61 B a b bs' [((p : Int), (m : Int), false), ((p : Int), (m : Int), true)]) := hm
  clear hm ho1 ho2 HT
  go_wp2_with fail
  refine HS.out.mono ?_
  rintro e w10 ⟨rfl, hf⟩
  have HFg : Hid (Calls Try.prog 21 #[.pointer (some ⟨a, 0, none⟩)] w10 fun e w' => e = .returned (.tuple #[]) ∧ Mine w w' 61 B a b bs' []) := m_forget (HM2.out.fr hf)
  clear hf HS HM2
  go_wp2_with fail
  refine HFg.out.mono ?_
  rintro e w11 ⟨rfl, hm⟩
  have HT2 : Hid (Calls Try.prog 15 #[.pointer (some ⟨a, 0, none⟩)] w11 fun e w' => ∃ ad cap, e = .returned (.slice ad 0 cap) ∧ Fr (fun _ => False) w w') := (m_touched hm (by simp)).mono fun e w' ⟨ad, cap, he, _, hm⟩ => ⟨ad, cap, he, hm.frame⟩
  clear hm HFg
  go_wp2_with fail
  refine HT2.out.mono ?_
  rintro e w12 ⟨ad2, cap2', rfl, hf⟩
  have HF : Hid (Fr (fun _ => False) w w12) := hf
  clear hf HT2
  go_wp2
  go_ret
  exact ⟨rfl, HF.out⟩

set_option maxHeartbeats 2000000 in
theorem notes_none_pos (z : Int) (p : Nat) (d : ByteArray) (w : World) (N : Nat) (hN : N < 2048) (hz : wrap64 ((IntKind.u64.wrap z).tmod 2048) = (N : Int)) (hd : d.size ≤ 4096) (hinA : p ≤ N) (hd0 : 0 < d.size) (hinB : p + d.size ≤ N) :
    Calls Try.prog 8 #[.int .i64 z, .int .i64 p, .int .i64 0, .string d] w fun e w' => e = .returned (.bool true) ∧ Fr (fun _ => False) w w' := by
  have HZ : Hid (wrap64 ((IntKind.u64.wrap z).tmod 2048) = (N : Int)) := hz
  have hne : d.toList.isEmpty = false := by
    have := len_list d
    rw [ByteArray.toList_eq]
    cases hl : d.data.toList with
    | nil => rw [hl] at this; simp at this; omega
    | cons _ _ => rfl
  clear hz
  go_enter Try.func8, Try.ntmps8
  go_wp2_with fail
  rw [HZ.out]
  refine (m_new N w w (Fr.refl _ _) (by omega)).mono ?_
  rintro e w1 ⟨a, b, B, rfl, hm⟩
  have HM : Hid (Mine w w1 61 B a b (List.replicate N 0) []) := hm
  clear hm
  go_wp2_with fail
  refine (awake_any w1).mono ?_
  rintro e w2 ⟨rfl, hf⟩
  have hm := MW.start (HM.out.fr hf)
  have hbl : (List.replicate N (0 : UInt8)).length = N := List.length_replicate
  generalize List.replicate N (0 : UInt8) = bs at *
  have HR : Hid (Calls Try.prog 16 #[.pointer (some ⟨a, 0, none⟩), .int .i64 p, .int .i64 0] w2 fun e w' => ∃ r, e = .returned (.tuple #[.string r, .int .i64 0]) ∧ MW w w' 61 B a b bs [] (.slice none 0 0) []) := by
    have := w_read hm p 0 (by omega) (by simp)
    rw [none_noted (by omega)] at this
    exact this
  have HBL : Hid (bs.length = N) := hbl
  clear hm hf HM hbl
  go_wp2_with fail
  refine HR.out.mono ?_
  rintro e w3 ⟨r, rfl, hm⟩
  have HZr : Hid (Calls Try.prog 22 #[.pointer (some ⟨a, 0, none⟩), .int .i64 p, .int .i64 0] w3 fun e w' => e = .returned (.int .i64 0) ∧ ∃ bs', bs'.length = N ∧ MW w w' 61 B a b bs' [] (.slice none 0 0) []) := by
    have := w_zero hm p 0 (by rw [HBL.out]; omega) (by simp)
    rw [none_noted (by omega), HBL.out] at this
    exact this
  clear hm HR HBL
  go_wp2_with fail
  refine HZr.out.mono ?_
  rintro e w4 ⟨rfl, bs', hbl', hm⟩
  have HBL : Hid (bs'.length = N) := hbl'
  clear HZr hbl'
  have HW : Hid (Calls Try.prog 19 #[.pointer (some ⟨a, 0, none⟩), .int .i64 p, .string d] w4 fun e w' => e = .returned (.int .i64 0) ∧ ∃ bs2, MW w w' 61 B a b bs2 [((p : Int), (d.size : Int), true)] (.slice none 0 0) []) := by
    have := w_write hm p d (by rw [HBL.out]; omega) (by simp)
    rw [all_noted hd0] at this
    exact this
  clear hm HBL
  go_wp2_with fail
  refine HW.out.mono ?_
  rintro e w7 ⟨rfl, bs2, hm⟩
  have HMW : Hid (MW w w7 61 B a b bs2 [((p : Int), (d.size : Int), true)] (.slice none 0 0) []) := hm
  clear hm HW
  go_wp2_with (at_builtin; refine wpList_want ((p : Int), (d.size : Int), true) HMW.out (by simp) rfl (.tmp 86) (.tmp 91) rfl rfl rfl ?_; intro g3 cap3 w8 hm)
  have HMW2 : Hid (MW w w8 61 B a b bs2 [((p : Int), (d.size : Int), true)] (.slice (some ⟨g3, 0, none⟩) 1 cap3) [((p : Int), (d.size : Int), true)]) := hm
  clear hm HMW
  have HMW := HMW2
  clear HMW2
  have HT : Hid (Calls Try.prog 15 #[.pointer (some ⟨a, 0, none⟩)] w8 fun e w' => ∃ ad cap, e = .returned (.slice ad 1 cap) ∧ w'.ownsRow w8.heap.size 58 3 (.slice ad 1 cap) 1 (spcs [((p : Int), (d.size : Int), true)]) ∧
      w'.ownsRow w.heap.size 58 3 (.slice (some ⟨g3, 0, none⟩) 1 cap3) 1 (spcs [((p : Int), (d.size : Int), true)]) ∧ Mine w w' 61 B a b bs2 [((p : Int), (d.size : Int), true)]) := w_touched HMW.out (by simp)
  clear HMW
  refine HT.out.mono ?_
  rintro e w9 ⟨ad, cap, rfl, ho1, ho2, hm⟩
  have HS : Hid (Calls Try.prog 14 #[.slice ad 1 cap, .slice (some ⟨g3, 0, none⟩) 1 cap3] w9 fun e w' => e = .returned (.bool true) ∧ Fr (fun _ => False) w9 w') := same_any (ss := [((p : Int), (d.size : Int), true)]) ho1 ho2 (by simp)
  have HM2 : Hid (Mine w w9 61 B a b bs2 [((p : Int), (d.size : Int), true)]) := hm
  clear hm ho1 ho2 HT
  go_wp2_with fail
  refine HS.out.mono ?_
  rintro e w10 ⟨rfl, hf⟩
  have HFg : Hid (Calls Try.prog 21 #[.pointer (some ⟨a, 0, none⟩)] w10 fun e w' => e = .returned (.tuple #[]) ∧ Mine w w' 61 B a b bs2 []) := m_forget (HM2.out.fr hf)
  clear hf HS HM2
  go_wp2_with fail
  refine HFg.out.mono ?_
  rintro e w11 ⟨rfl, hm⟩
  have HT2 : Hid (Calls Try.prog 15 #[.pointer (some ⟨a, 0, none⟩)] w11 fun e w' => ∃ ad cap, e = .returned (.slice ad 0 cap) ∧ Fr (fun _ => False) w w') := (m_touched hm (by simp)).mono fun e w' ⟨ad, cap, he, _, hm⟩ => ⟨ad, cap, he, hm.frame⟩
  clear hm HFg
  go_wp2_with fail
  refine HT2.out.mono ?_
  rintro e w12 ⟨ad2, cap2', rfl, hf⟩
  have HF : Hid (Fr (fun _ => False) w w12) := hf
  clear hf HT2
  go_wp2
  go_ret
  exact ⟨rfl, HF.out⟩

set_option maxHeartbeats 2000000 in
theorem notes_none_none (z : Int) (p : Nat) (d : ByteArray) (w : World) (N : Nat) (hN : N < 2048) (hz : wrap64 ((IntKind.u64.wrap z).tmod 2048) = (N : Int)) (_hd : d.size ≤ 4096) (hinA : p ≤ N) (hd0 : d.size = 0) (hinB : p ≤ N) :
    Calls Try.prog 8 #[.int .i64 z, .int .i64 p, .int .i64 0, .string d] w fun e w' => e = .returned (.bool true) ∧ Fr (fun _ => False) w w' := by
  have HZ : Hid (wrap64 ((IntKind.u64.wrap z).tmod 2048) = (N : Int)) := hz
  have hne : d.toList.isEmpty = true := by
    have := len_list d
    rw [ByteArray.toList_eq]
    cases hl : d.data.toList with
    | nil => rfl
    | cons _ _ => rw [hl] at this; simp at this; omega
  clear hz
  go_enter Try.func8, Try.ntmps8
  go_wp2_with fail
  rw [HZ.out]
  refine (m_new N w w (Fr.refl _ _) (by omega)).mono ?_
  rintro e w1 ⟨a, b, B, rfl, hm⟩
  have HM : Hid (Mine w w1 61 B a b (List.replicate N 0) []) := hm
  clear hm
  go_wp2_with fail
  refine (awake_any w1).mono ?_
  rintro e w2 ⟨rfl, hf⟩
  have hm := MW.start (HM.out.fr hf)
  have hbl : (List.replicate N (0 : UInt8)).length = N := List.length_replicate
  generalize List.replicate N (0 : UInt8) = bs at *
  have HR : Hid (Calls Try.prog 16 #[.pointer (some ⟨a, 0, none⟩), .int .i64 p, .int .i64 0] w2 fun e w' => ∃ r, e = .returned (.tuple #[.string r, .int .i64 0]) ∧ MW w w' 61 B a b bs [] (.slice none 0 0) []) := by
    have := w_read hm p 0 (by omega) (by simp)
    rw [none_noted (by omega)] at this
    exact this
  have HBL : Hid (bs.length = N) := hbl
  clear hm hf HM hbl
  go_wp2_with fail
  refine HR.out.mono ?_
  rintro e w3 ⟨r, rfl, hm⟩
  have HZr : Hid (Calls Try.prog 22 #[.pointer (some ⟨a, 0, none⟩), .int .i64 p, .int .i64 0] w3 fun e w' => e = .returned (.int .i64 0) ∧ ∃ bs', bs'.length = N ∧ MW w w' 61 B a b bs' [] (.slice none 0 0) []) := by
    have := w_zero hm p 0 (by rw [HBL.out]; omega) (by simp)
    rw [none_noted (by omega), HBL.out] at this
    exact this
  clear hm HR HBL
  go_wp2_with fail
  refine HZr.out.mono ?_
  rintro e w4 ⟨rfl, bs', hbl', hm⟩
  have HBL : Hid (bs'.length = N) := hbl'
  clear HZr hbl'
  have HW : Hid (Calls Try.prog 19 #[.pointer (some ⟨a, 0, none⟩), .int .i64 p, .string d] w4 fun e w' => e = .returned (.int .i64 0) ∧ ∃ bs2, MW w w' 61 B a b bs2 [] (.slice none 0 0) []) := by
    have := w_write hm p d (by rw [HBL.out]; omega) (by simp)
    rw [none_noted (by omega)] at this
    exact this
  clear hm HBL
  go_wp2_with fail
  refine HW.out.mono ?_
  rintro e w7 ⟨rfl, bs2, hm⟩
  have HMW : Hid (MW w w7 61 B a b bs2 [] (.slice none 0 0) []) := hm
  clear hm HW
  have HT : Hid (Calls Try.prog 15 #[.pointer (some ⟨a, 0, none⟩)] w7 fun e w' => ∃ ad cap, e = .returned (.slice ad 0 cap) ∧ w'.ownsRow w7.heap.size 58 3 (.slice ad 0 cap) 0 (spcs []) ∧
      w'.ownsRow w.heap.size 58 3 (.slice none 0 0) 0 (spcs []) ∧ Mine w w' 61 B a b bs2 []) := w_touched HMW.out (by simp)
  clear HMW
  go_wp2_with fail
  refine HT.out.mono ?_
  rintro e w9 ⟨ad, cap, rfl, ho1, ho2, hm⟩
  have HS : Hid (Calls Try.prog 14 #[.slice ad 0 cap, .slice none 0 0] w9 fun e w' => e = .returned (.bool true) ∧ Fr (fun _ => False) w9 w') := same_any (ss := []) ho1 ho2 (by simp)
  have HM2 : Hid (Mine w w9 61 B a b bs2 []) := hm
  clear hm ho1 ho2 HT
  go_wp2_with fail
  refine HS.out.mono ?_
  rintro e w10 ⟨rfl, hf⟩
  have HFg : Hid (Calls Try.prog 21 #[.pointer (some ⟨a, 0, none⟩)] w10 fun e w' => e = .returned (.tuple #[]) ∧ Mine w w' 61 B a b bs2 []) := m_forget (HM2.out.fr hf)
  clear hf HS HM2
  go_wp2_with fail
  refine HFg.out.mono ?_
  rintro e w11 ⟨rfl, hm⟩
  have HT2 : Hid (Calls Try.prog 15 #[.pointer (some ⟨a, 0, none⟩)] w11 fun e w' => ∃ ad cap, e = .returned (.slice ad 0 cap) ∧ Fr (fun _ => False) w w') := (m_touched hm (by simp)).mono fun e w' ⟨ad, cap, he, _, hm⟩ => ⟨ad, cap, he, hm.frame⟩
  clear hm HFg
  go_wp2_with fail
  refine HT2.out.mono ?_
  rintro e w12 ⟨ad2, cap2', rfl, hf⟩
  have HF : Hid (Fr (fun _ => False) w w12) := hf
  clear hf HT2
  go_wp2
  go_ret
  exact ⟨rfl, HF.out⟩

set_option maxHeartbeats 2000000 in
theorem notes_none_no (z : Int) (p : Nat) (d : ByteArray) (w : World) (N : Nat) (hN : N < 2048) (hz : wrap64 ((IntKind.u64.wrap z).tmod 2048) = (N : Int)) (hd : d.size ≤ 4096) (hinA : p ≤ N) (hinB : inB (p : Int) d.size N = false) :
    Calls Try.prog 8 #[.int .i64 z, .int .i64 p, .int .i64 0, .string d] w fun e w' => e = .returned (.bool true) ∧ Fr (fun _ => False) w w' := by
  have HZ : Hid (wrap64 ((IntKind.u64.wrap z).tmod 2048) = (N : Int)) := hz
  have HB : Hid (inB (p : Int) d.size N = false) := hinB
  clear hinB
  clear hz
  go_enter Try.func8, Try.ntmps8
  go_wp2_with fail
  rw [HZ.out]
  refine (m_new N w w (Fr.refl _ _) (by omega)).mono ?_
  rintro e w1 ⟨a, b, B, rfl, hm⟩
  have HM : Hid (Mine w w1 61 B a b (List.replicate N 0) []) := hm
  clear hm
  go_wp2_with fail
  refine (awake_any w1).mono ?_
  rintro e w2 ⟨rfl, hf⟩
  have hm := MW.start (HM.out.fr hf)
  have hbl : (List.replicate N (0 : UInt8)).length = N := List.length_replicate
  generalize List.replicate N (0 : UInt8) = bs at *
  have HR : Hid (Calls Try.prog 16 #[.pointer (some ⟨a, 0, none⟩), .int .i64 p, .int .i64 0] w2 fun e w' => ∃ r, e = .returned (.tuple #[.string r, .int .i64 0]) ∧ MW w w' 61 B a b bs [] (.slice none 0 0) []) := by
    have := w_read hm p 0 (by omega) (by simp)
    rw [none_noted (by omega)] at this
    exact this
  have HBL : Hid (bs.length = N) := hbl
  clear hm hf HM hbl
  go_wp2_with fail
  refine HR.out.mono ?_
  rintro e w3 ⟨r, rfl, hm⟩
  have HZr : Hid (Calls Try.prog 22 #[.pointer (some ⟨a, 0, none⟩), .int .i64 p, .int .i64 0] w3 fun e w' => e = .returned (.int .i64 0) ∧ ∃ bs', bs'.length = N ∧ MW w w' 61 B a b bs' [] (.slice none 0 0) []) := by
    have := w_zero hm p 0 (by rw [HBL.out]; omega) (by simp)
    rw [none_noted (by omega), HBL.out] at this
    exact this
  clear hm HR HBL
  go_wp2_with fail
  refine HZr.out.mono ?_
  rintro e w4 ⟨rfl, bs', hbl', hm⟩
  have HBL : Hid (bs'.length = N) := hbl'
  clear HZr hbl'
  have HW : Hid (Calls Try.prog 19 #[.pointer (some ⟨a, 0, none⟩), .int .i64 p, .string d] w4 fun e w' => e = .returned (.int .i64 4) ∧ w' = w4) := m_write_no hm.mine p d (by omega) (by rw [HBL.out]; exact HB.out)
  have HMW : Hid (MW w w4 61 B a b bs' [] (.slice none 0 0) []) := hm
  clear hm HBL
  go_wp2_with fail
  refine HW.out.mono ?_
  rintro e w' ⟨rfl, hw⟩
  obtain rfl := hw.symm
  clear HW
  have HT : Hid (Calls Try.prog 15 #[.pointer (some ⟨a, 0, none⟩)] w4 fun e w' => ∃ ad cap, e = .returned (.slice ad 0 cap) ∧ w'.ownsRow w4.heap.size 58 3 (.slice ad 0 cap) 0 (spcs []) ∧
      w'.ownsRow w.heap.size 58 3 (.slice none 0 0) 0 (spcs []) ∧ Mine w w' 61 B a b bs' []) := w_touched HMW.out (by simp)
  clear HMW
  go_wp2_with fail
  refine HT.out.mono ?_
  rintro e w9 ⟨ad, cap, rfl, ho1, ho2, hm⟩
  have HS : Hid (Calls Try.prog 14 #[.slice ad 0 cap, .slice none 0 0] w9 fun e w' => e = .returned (.bool true) ∧ Fr (fun _ => False) w9 w') := same_any (ss := []) ho1 ho2 (by simp)
  have HM2 : Hid (Mine w w9 61 B a b bs' []) := hm
  clear hm ho1 ho2 HT
  go_wp2_with fail
  refine HS.out.mono ?_
  rintro e w10 ⟨rfl, hf⟩
  have HFg : Hid (Calls Try.prog 21 #[.pointer (some ⟨a, 0, none⟩)] w10 fun e w' => e = .returned (.tuple #[]) ∧ Mine w w' 61 B a b bs' []) := m_forget (HM2.out.fr hf)
  clear hf HS HM2
  go_wp2_with fail
  refine HFg.out.mono ?_
  rintro e w11 ⟨rfl, hm⟩
  have HT2 : Hid (Calls Try.prog 15 #[.pointer (some ⟨a, 0, none⟩)] w11 fun e w' => ∃ ad cap, e = .returned (.slice ad 0 cap) ∧ Fr (fun _ => False) w w') := (m_touched hm (by simp)).mono fun e w' ⟨ad, cap, he, _, hm⟩ => ⟨ad, cap, he, hm.frame⟩
  clear hm HFg
  go_wp2_with fail
  refine HT2.out.mono ?_
  rintro e w12 ⟨ad2, cap2', rfl, hf⟩
  have HF : Hid (Fr (fun _ => False) w w12) := hf
  clear hf HT2
  go_wp2
  go_ret
  exact ⟨rfl, HF.out⟩

set_option maxHeartbeats 2000000 in
theorem notes_no_pos (z : Int) (p : Nat) (n : Int) (d : ByteArray) (w : World) (N : Nat) (hN : N < 2048) (hz : wrap64 ((IntKind.u64.wrap z).tmod 2048) = (N : Int)) (hd : d.size ≤ 4096) (hn : n ≤ 65536) (hinA : inB (p : Int) n N = false) (hd0 : 0 < d.size) (hinB : p + d.size ≤ N) :
    Calls Try.prog 8 #[.int .i64 z, .int .i64 p, .int .i64 n, .string d] w fun e w' => e = .returned (.bool true) ∧ Fr (fun _ => False) w w' := by
  have HZ : Hid (wrap64 ((IntKind.u64.wrap z).tmod 2048) = (N : Int)) := hz
  have HA : Hid (inB (p : Int) n N = false) := hinA
  clear hinA
  have hne : d.toList.isEmpty = false := by
    have := len_list d
    rw [ByteArray.toList_eq]
    cases hl : d.data.toList with
    | nil => rw [hl] at this; simp at this; omega
    | cons _ _ => rfl
  clear hz
  go_enter Try.func8, Try.ntmps8
  go_wp2_with fail
  rw [HZ.out]
  refine (m_new N w w (Fr.refl _ _) (by omega)).mono ?_
  rintro e w1 ⟨a, b, B, rfl, hm⟩
  have HM : Hid (Mine w w1 61 B a b (List.replicate N 0) []) := hm
  clear hm
  go_wp2_with fail
  refine (awake_any w1).mono ?_
  rintro e w2 ⟨rfl, hf⟩
  have hm := MW.start (HM.out.fr hf)
  have hbl : (List.replicate N (0 : UInt8)).length = N := List.length_replicate
  generalize List.replicate N (0 : UInt8) = bs at *
  have HR : Hid (Calls Try.prog 16 #[.pointer (some ⟨a, 0, none⟩), .int .i64 p, .int .i64 n] w2 fun e w' => e = .returned (.tuple #[.string ⟨#[]⟩, .int .i64 4]) ∧ w' = w2) := m_read_no hm.mine p n (by omega) (by rw [hbl]; exact HA.out)
  have HZr : Hid (Calls Try.prog 22 #[.pointer (some ⟨a, 0, none⟩), .int .i64 p, .int .i64 n] w2 fun e w' => e = .returned (.int .i64 4) ∧ w' = w2) := m_zero_no hm.mine p n (by omega) (by rw [hbl]; exact HA.out)
  have HMW : Hid (MW w w2 61 B a b bs [] (.slice none 0 0) []) := hm
  have HBL : Hid (bs.length = N) := hbl
  clear hm hf HM hbl
  go_wp2_with fail
  refine HR.out.mono ?_
  rintro e w' ⟨rfl, hw⟩
  obtain rfl := hw.symm
  go_wp2_with fail
  refine HZr.out.mono ?_
  rintro e w' ⟨rfl, hw⟩
  obtain rfl := hw.symm
  clear HR HZr
  have hm := HMW.out
  clear HMW
  have HW : Hid (Calls Try.prog 19 #[.pointer (some ⟨a, 0, none⟩), .int .i64 p, .string d] w2 fun e w' => e = .returned (.int .i64 0) ∧ ∃ bs2, MW w w' 61 B a b bs2 [((p : Int), (d.size : Int), true)] (.slice none 0 0) []) := by
    have := w_write hm p d (by rw [HBL.out]; omega) (by simp)
    rw [all_noted hd0] at this
    exact this
  clear hm HBL
  go_wp2_with fail
  refine HW.out.mono ?_
  rintro e w7 ⟨rfl, bs2, hm⟩
  have HMW : Hid (MW w w7 61 B a b bs2 [((p : Int), (d.size : Int), true)] (.slice none 0 0) []) := hm
  clear hm HW
  go_wp2_with (at_builtin; refine wpList_want ((p : Int), (d.size : Int), true) HMW.out (by simp) rfl (.tmp 86) (.tmp 91) rfl rfl rfl ?_; intro g3 cap3 w8 hm)
  have HMW2 : Hid (MW w w8 61 B a b bs2 [((p : Int), (d.size : Int), true)] (.slice (some ⟨g3, 0, none⟩) 1 cap3) [((p : Int), (d.size : Int), true)]) := hm
  clear hm HMW
  have HMW := HMW2
  clear HMW2
  have HT : Hid (Calls Try.prog 15 #[.pointer (some ⟨a, 0, none⟩)] w8 fun e w' => ∃ ad cap, e = .returned (.slice ad 1 cap) ∧ w'.ownsRow w8.heap.size 58 3 (.slice ad 1 cap) 1 (spcs [((p : Int), (d.size : Int), true)]) ∧
      w'.ownsRow w.heap.size 58 3 (.slice (some ⟨g3, 0, none⟩) 1 cap3) 1 (spcs [((p : Int), (d.size : Int), true)]) ∧ Mine w w' 61 B a b bs2 [((p : Int), (d.size : Int), true)]) := w_touched HMW.out (by simp)
  clear HMW
  refine HT.out.mono ?_
  rintro e w9 ⟨ad, cap, rfl, ho1, ho2, hm⟩
  have HS : Hid (Calls Try.prog 14 #[.slice ad 1 cap, .slice (some ⟨g3, 0, none⟩) 1 cap3] w9 fun e w' => e = .returned (.bool true) ∧ Fr (fun _ => False) w9 w') := same_any (ss := [((p : Int), (d.size : Int), true)]) ho1 ho2 (by simp)
  have HM2 : Hid (Mine w w9 61 B a b bs2 [((p : Int), (d.size : Int), true)]) := hm
  clear hm ho1 ho2 HT
  go_wp2_with fail
  refine HS.out.mono ?_
  rintro e w10 ⟨rfl, hf⟩
  have HFg : Hid (Calls Try.prog 21 #[.pointer (some ⟨a, 0, none⟩)] w10 fun e w' => e = .returned (.tuple #[]) ∧ Mine w w' 61 B a b bs2 []) := m_forget (HM2.out.fr hf)
  clear hf HS HM2
  go_wp2_with fail
  refine HFg.out.mono ?_
  rintro e w11 ⟨rfl, hm⟩
  have HT2 : Hid (Calls Try.prog 15 #[.pointer (some ⟨a, 0, none⟩)] w11 fun e w' => ∃ ad cap, e = .returned (.slice ad 0 cap) ∧ Fr (fun _ => False) w w') := (m_touched hm (by simp)).mono fun e w' ⟨ad, cap, he, _, hm⟩ => ⟨ad, cap, he, hm.frame⟩
  clear hm HFg
  go_wp2_with fail
  refine HT2.out.mono ?_
  rintro e w12 ⟨ad2, cap2', rfl, hf⟩
  have HF : Hid (Fr (fun _ => False) w w12) := hf
  clear hf HT2
  go_wp2
  go_ret
  exact ⟨rfl, HF.out⟩

set_option maxHeartbeats 2000000 in
theorem notes_no_none (z : Int) (p : Nat) (n : Int) (d : ByteArray) (w : World) (N : Nat) (hN : N < 2048) (hz : wrap64 ((IntKind.u64.wrap z).tmod 2048) = (N : Int)) (_hd : d.size ≤ 4096) (hn : n ≤ 65536) (hinA : inB (p : Int) n N = false) (hd0 : d.size = 0) (hinB : p ≤ N) :
    Calls Try.prog 8 #[.int .i64 z, .int .i64 p, .int .i64 n, .string d] w fun e w' => e = .returned (.bool true) ∧ Fr (fun _ => False) w w' := by
  have HZ : Hid (wrap64 ((IntKind.u64.wrap z).tmod 2048) = (N : Int)) := hz
  have HA : Hid (inB (p : Int) n N = false) := hinA
  clear hinA
  have hne : d.toList.isEmpty = true := by
    have := len_list d
    rw [ByteArray.toList_eq]
    cases hl : d.data.toList with
    | nil => rfl
    | cons _ _ => rw [hl] at this; simp at this; omega
  clear hz
  go_enter Try.func8, Try.ntmps8
  go_wp2_with fail
  rw [HZ.out]
  refine (m_new N w w (Fr.refl _ _) (by omega)).mono ?_
  rintro e w1 ⟨a, b, B, rfl, hm⟩
  have HM : Hid (Mine w w1 61 B a b (List.replicate N 0) []) := hm
  clear hm
  go_wp2_with fail
  refine (awake_any w1).mono ?_
  rintro e w2 ⟨rfl, hf⟩
  have hm := MW.start (HM.out.fr hf)
  have hbl : (List.replicate N (0 : UInt8)).length = N := List.length_replicate
  generalize List.replicate N (0 : UInt8) = bs at *
  have HR : Hid (Calls Try.prog 16 #[.pointer (some ⟨a, 0, none⟩), .int .i64 p, .int .i64 n] w2 fun e w' => e = .returned (.tuple #[.string ⟨#[]⟩, .int .i64 4]) ∧ w' = w2) := m_read_no hm.mine p n (by omega) (by rw [hbl]; exact HA.out)
  have HZr : Hid (Calls Try.prog 22 #[.pointer (some ⟨a, 0, none⟩), .int .i64 p, .int .i64 n] w2 fun e w' => e = .returned (.int .i64 4) ∧ w' = w2) := m_zero_no hm.mine p n (by omega) (by rw [hbl]; exact HA.out)
  have HMW : Hid (MW w w2 61 B a b bs [] (.slice none 0 0) []) := hm
  have HBL : Hid (bs.length = N) := hbl
  clear hm hf HM hbl
  go_wp2_with fail
  refine HR.out.mono ?_
  rintro e w' ⟨rfl, hw⟩
  obtain rfl := hw.symm
  go_wp2_with fail
  refine HZr.out.mono ?_
  rintro e w' ⟨rfl, hw⟩
  obtain rfl := hw.symm
  clear HR HZr
  have hm := HMW.out
  clear HMW
  have HW : Hid (Calls Try.prog 19 #[.pointer (some ⟨a, 0, none⟩), .int .i64 p, .string d] w2 fun e w' => e = .returned (.int .i64 0) ∧ ∃ bs2, MW w w' 61 B a b bs2 [] (.slice none 0 0) []) := by
    have := w_write hm p d (by rw [HBL.out]; omega) (by simp)
    rw [none_noted (by omega)] at this
    exact this
  clear hm HBL
  go_wp2_with fail
  refine HW.out.mono ?_
  rintro e w7 ⟨rfl, bs2, hm⟩
  have HMW : Hid (MW w w7 61 B a b bs2 [] (.slice none 0 0) []) := hm
  clear hm HW
  have HT : Hid (Calls Try.prog 15 #[.pointer (some ⟨a, 0, none⟩)] w7 fun e w' => ∃ ad cap, e = .returned (.slice ad 0 cap) ∧ w'.ownsRow w7.heap.size 58 3 (.slice ad 0 cap) 0 (spcs []) ∧
      w'.ownsRow w.heap.size 58 3 (.slice none 0 0) 0 (spcs []) ∧ Mine w w' 61 B a b bs2 []) := w_touched HMW.out (by simp)
  clear HMW
  go_wp2_with fail
  refine HT.out.mono ?_
  rintro e w9 ⟨ad, cap, rfl, ho1, ho2, hm⟩
  have HS : Hid (Calls Try.prog 14 #[.slice ad 0 cap, .slice none 0 0] w9 fun e w' => e = .returned (.bool true) ∧ Fr (fun _ => False) w9 w') := same_any (ss := []) ho1 ho2 (by simp)
  have HM2 : Hid (Mine w w9 61 B a b bs2 []) := hm
  clear hm ho1 ho2 HT
  go_wp2_with fail
  refine HS.out.mono ?_
  rintro e w10 ⟨rfl, hf⟩
  have HFg : Hid (Calls Try.prog 21 #[.pointer (some ⟨a, 0, none⟩)] w10 fun e w' => e = .returned (.tuple #[]) ∧ Mine w w' 61 B a b bs2 []) := m_forget (HM2.out.fr hf)
  clear hf HS HM2
  go_wp2_with fail
  refine HFg.out.mono ?_
  rintro e w11 ⟨rfl, hm⟩
  have HT2 : Hid (Calls Try.prog 15 #[.pointer (some ⟨a, 0, none⟩)] w11 fun e w' => ∃ ad cap, e = .returned (.slice ad 0 cap) ∧ Fr (fun _ => False) w w') := (m_touched hm (by simp)).mono fun e w' ⟨ad, cap, he, _, hm⟩ => ⟨ad, cap, he, hm.frame⟩
  clear hm HFg
  go_wp2_with fail
  refine HT2.out.mono ?_
  rintro e w12 ⟨ad2, cap2', rfl, hf⟩
  have HF : Hid (Fr (fun _ => False) w w12) := hf
  clear hf HT2
  go_wp2
  go_ret
  exact ⟨rfl, HF.out⟩

set_option maxHeartbeats 2000000 in
theorem notes_no_no (z : Int) (x : Int) (hx : x ≤ 9223372036854775807) (n : Int) (d : ByteArray) (w : World) (N : Nat) (hN : N < 2048) (hz : wrap64 ((IntKind.u64.wrap z).tmod 2048) = (N : Int)) (hd : d.size ≤ 4096) (hn : n ≤ 65536) (hinA : inB x n N = false) (hinB : inB x d.size N = false) :
    Calls Try.prog 8 #[.int .i64 z, .int .i64 x, .int .i64 n, .string d] w fun e w' => e = .returned (.bool true) ∧ Fr (fun _ => False) w w' := by
  have HZ : Hid (wrap64 ((IntKind.u64.wrap z).tmod 2048) = (N : Int)) := hz
  have HA : Hid (inB x n N = false) := hinA
  clear hinA
  have HB : Hid (inB x d.size N = false) := hinB
  clear hinB
  clear hz
  go_enter Try.func8, Try.ntmps8
  go_wp2_with fail
  rw [HZ.out]
  refine (m_new N w w (Fr.refl _ _) (by omega)).mono ?_
  rintro e w1 ⟨a, b, B, rfl, hm⟩
  have HM : Hid (Mine w w1 61 B a b (List.replicate N 0) []) := hm
  clear hm
  go_wp2_with fail
  refine (awake_any w1).mono ?_
  rintro e w2 ⟨rfl, hf⟩
  have hm := MW.start (HM.out.fr hf)
  have hbl : (List.replicate N (0 : UInt8)).length = N := List.length_replicate
  generalize List.replicate N (0 : UInt8) = bs at *
  have HR : Hid (Calls Try.prog 16 #[.pointer (some ⟨a, 0, none⟩), .int .i64 x, .int .i64 n] w2 fun e w' => e = .returned (.tuple #[.string ⟨#[]⟩, .int .i64 4]) ∧ w' = w2) := m_read_no hm.mine x n (by omega) (by rw [hbl]; exact HA.out)
  have HZr : Hid (Calls Try.prog 22 #[.pointer (some ⟨a, 0, none⟩), .int .i64 x, .int .i64 n] w2 fun e w' => e = .returned (.int .i64 4) ∧ w' = w2) := m_zero_no hm.mine x n (by omega) (by rw [hbl]; exact HA.out)
  have HMW : Hid (MW w w2 61 B a b bs [] (.slice none 0 0) []) := hm
  have HBL : Hid (bs.length = N) := hbl
  clear hm hf HM hbl
  go_wp2_with fail
  refine HR.out.mono ?_
  rintro e w' ⟨rfl, hw⟩
  obtain rfl := hw.symm
  go_wp2_with fail
  refine HZr.out.mono ?_
  rintro e w' ⟨rfl, hw⟩
  obtain rfl := hw.symm
  clear HR HZr
  have hm := HMW.out
  clear HMW
  have HW : Hid (Calls Try.prog 19 #[.pointer (some ⟨a, 0, none⟩), .int .i64 x, .string d] w2 fun e w' => e = .returned (.int .i64 4) ∧ w' = w2) := m_write_no hm.mine x d (by omega) (by rw [HBL.out]; exact HB.out)
  have HMW : Hid (MW w w2 61 B a b bs [] (.slice none 0 0) []) := hm
  clear hm HBL
  go_wp2_with fail
  refine HW.out.mono ?_
  rintro e w' ⟨rfl, hw⟩
  obtain rfl := hw.symm
  clear HW
  have HT : Hid (Calls Try.prog 15 #[.pointer (some ⟨a, 0, none⟩)] w2 fun e w' => ∃ ad cap, e = .returned (.slice ad 0 cap) ∧ w'.ownsRow w2.heap.size 58 3 (.slice ad 0 cap) 0 (spcs []) ∧
      w'.ownsRow w.heap.size 58 3 (.slice none 0 0) 0 (spcs []) ∧ Mine w w' 61 B a b bs []) := w_touched HMW.out (by simp)
  clear HMW
  go_wp2_with fail
  refine HT.out.mono ?_
  rintro e w9 ⟨ad, cap, rfl, ho1, ho2, hm⟩
  have HS : Hid (Calls Try.prog 14 #[.slice ad 0 cap, .slice none 0 0] w9 fun e w' => e = .returned (.bool true) ∧ Fr (fun _ => False) w9 w') := same_any (ss := []) ho1 ho2 (by simp)
  have HM2 : Hid (Mine w w9 61 B a b bs []) := hm
  clear hm ho1 ho2 HT
  go_wp2_with fail
  refine HS.out.mono ?_
  rintro e w10 ⟨rfl, hf⟩
  have HFg : Hid (Calls Try.prog 21 #[.pointer (some ⟨a, 0, none⟩)] w10 fun e w' => e = .returned (.tuple #[]) ∧ Mine w w' 61 B a b bs []) := m_forget (HM2.out.fr hf)
  clear hf HS HM2
  go_wp2_with fail
  refine HFg.out.mono ?_
  rintro e w11 ⟨rfl, hm⟩
  have HT2 : Hid (Calls Try.prog 15 #[.pointer (some ⟨a, 0, none⟩)] w11 fun e w' => ∃ ad cap, e = .returned (.slice ad 0 cap) ∧ Fr (fun _ => False) w w') := (m_touched hm (by simp)).mono fun e w' ⟨ad, cap, he, _, hm⟩ => ⟨ad, cap, he, hm.frame⟩
  clear hm HFg
  go_wp2_with fail
  refine HT2.out.mono ?_
  rintro e w12 ⟨ad2, cap2', rfl, hf⟩
  have HF : Hid (Fr (fun _ => False) w w12) := hf
  clear hf HT2
  go_wp2
  go_ret
  exact ⟨rfl, HF.out⟩

theorem notes_any (z x n : Int) (d : ByteArray) (w : World) (hd : d.size ≤ maxLen) (hx : x ≤ 9223372036854775807) :
    Calls Try.prog 8 #[.int .i64 z, .int .i64 x, .int .i64 n, .string d] w fun e w' => e = .returned (.bool true) ∧ Fr (fun _ => False) w w' := by
  obtain ⟨N, hN, hz⟩ := size_mod z 2048 (by omega) (by omega)
  by_cases h1 : d.size ≤ 4096
  · by_cases h2 : n ≤ 65536
    · by_cases hA : inB x n N = true
      · rw [inB_true] at hA
        obtain ⟨a1, a2, a3⟩ := hA
        obtain ⟨p, rfl⟩ := Int.eq_ofNat_of_zero_le a1
        obtain ⟨m, rfl⟩ := Int.eq_ofNat_of_zero_le a2
        by_cases hB : inB p d.size N = true
        · rw [inB_true] at hB
          by_cases hm : 0 < m
          · by_cases hs : 0 < d.size
            · exact notes_pos_pos z p m d w N (by omega) hz h1 hm (by omega) (by omega) hs (by omega)
            · exact notes_pos_none z p m d w N (by omega) hz h1 hm (by omega) (by omega) (by omega) (by omega)
          · obtain rfl : m = 0 := by omega
            by_cases hs : 0 < d.size
            · exact notes_none_pos z p d w N (by omega) hz h1 (by omega) hs (by omega)
            · exact notes_none_none z p d w N (by omega) hz h1 (by omega) (by omega) (by omega)
        · by_cases hm : 0 < m
          · exact notes_pos_no z p m d w N (by omega) hz h1 hm (by omega) (by omega) (by simpa using hB)
          · obtain rfl : m = 0 := by omega
            exact notes_none_no z p d w N (by omega) hz h1 (by omega) (by simpa using hB)
      · have hA' : inB x n N = false := by simpa using hA
        by_cases hB : inB x d.size N = true
        · rw [inB_true] at hB
          obtain ⟨b1, b2, b3⟩ := hB
          obtain ⟨p, rfl⟩ := Int.eq_ofNat_of_zero_le b1
          by_cases hs : 0 < d.size
          · exact notes_no_pos z p n d w N (by omega) hz h1 h2 hA' hs (by omega)
          · exact notes_no_none z p n d w N (by omega) hz h1 h2 hA' (by omega) (by omega)
        · exact notes_no_no z x hx n d w N (by omega) hz h1 h2 hA' (by simpa using hB)
    · exact notes_long z x n d w N (by omega) hz hd (.inr ⟨h1, by omega⟩)
  · exact notes_long z x n d w N (by omega) hz hd (.inl (by omega))
end Go.Proofs.Ytlikfcdlgkbnoaa
