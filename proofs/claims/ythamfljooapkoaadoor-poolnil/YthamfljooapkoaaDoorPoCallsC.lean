/-
  Grant, Shrink, Drop.
-/
import Derived.Test.YthamfljooapkoaaDoorPoCallsB
namespace Go.Proofs.YthamfljooapkoaaDoor
open Go.RowKit

theorem app_zero {P : Program} {w : World} (t ty e : TypeId) (i : TypeInfo) (ht : P.underlying t = some (.slice e)) (hi : P.info? e = some i) (p : Option Addr) (n cap : Nat) (hn : n ≤ cap) (ad : Option Addr) (c : Nat) (hp : p = none → n = 0 ∧ cap = 0) :
    (Builtin.append_ #[t, t] ty #[.slice p n cap, .slice ad 0 c]).run P w = .ok (.slice p n cap) w := by
  cases p with
  | none => obtain ⟨rfl, rfl⟩ := hp rfl; cases ad <;> simp [Builtin.append_, run_underlying ht, sizeOf, typeInfo, hi, Builtin.lenOf, Builtin.firstCells, loadCells, loadCellsFrom]
  | some a => cases ad <;> simp [Builtin.append_, run_underlying ht, sizeOf, typeInfo, hi, Builtin.lenOf, Builtin.firstCells, loadCells, loadCellsFrom, storeCells, hn]
/-- Numbers are put behind a row of the call's own: in its block, or in a new one. -/
theorem run_app {w : World} {base : Nat} (ty : TypeId) {v : Value} {ys zs : List Int} (hown : w.ownsRow base 3 1 v ys.length (ic ys)) (B c : Nat) (hz : NumsAt w (some ⟨B, 0, none⟩) zs) (hlen : ys.length + zs.length ≤ 100000) (hbase : base ≤ w.heap.size) :
    ∃ v' w', (Builtin.append_ #[34, 34] ty #[v, .slice (some ⟨B, 0, none⟩) zs.length c]).run Tryd.prog w = .ok v' w' ∧ w'.ownsRow base 3 1 v' (ys ++ zs).length (ic (ys ++ zs)) ∧ Fr (fun x => v.ownBlock = some x) w w' ∧ ∀ x, v'.ownBlock = some x → v.ownBlock = some x ∨ w.heap.size ≤ x := by
  obtain ⟨i0, hi, hz0, hz1, hz2⟩ := info_parts Tryd.infoInt
  by_cases h0 : zs.length = 0
  · obtain rfl : zs = [] := List.eq_nil_of_length_eq_zero h0
    rw [List.append_nil]
    refine ⟨v, w, ?_, hown, Fr.refl _ _, fun x hx => .inl hx⟩
    rcases hown.2 with ⟨rfl, h2⟩ | ⟨g, cap, cur, rfl, _, _, h3, _⟩
    · exact app_zero _ _ _ i0 Tryd.underlying34 hi none 0 0 (Nat.le_refl _) _ c (fun _ => ⟨rfl, rfl⟩)
    · exact app_zero _ _ _ i0 Tryd.underlying34 hi _ _ cap h3 _ c (fun e => by cases e)
  · obtain ⟨g, cap, w', hr, h2, h3, h4⟩ := run_append_sep (P := Tryd.prog) w base 34 ty 3 i0 (.int .i64 0) 1 8 Tryd.underlying34 hi hz0 hz1 hz2 rfl (by decide) v ys.length (ic ys) hown ⟨B, 0, none⟩ zs.length c (by omega) (ic zs) (by rw [ic_length]; simp) (fun j u hj => by
        have hj2 : j < zs.length := by have := (List.getElem?_eq_some_iff.1 hj).1; simpa [ic] using this
        obtain ⟨b, off, h1, h2, h3⟩ := hz j hj2
        cases h1
        rw [add_plain, h3, ← hj]
        simp [ic, hj2]) (ic_one zs) (by unfold maxLen; omega) (by omega) hbase
    refine ⟨_, w', hr, ?_, (Fr.refl _ w).grown h3 (fun k e => .inl e), fun x hx => ?_⟩
    · rw [show ic (ys ++ zs) = ic ys ++ ic zs by simp [ic], List.length_append]; exact h2
    · simp only [Value.ownBlock, Option.some.injEq] at hx
      subst hx
      rcases h4 with h4 | h4
      · exact .inl h4
      · exact .inr (by omega)
theorem wpList_app {w : World} {ops : Array Oper} {rest : List Oper} {o : Oper} {a : Act} {Q : Exit → Act → World → Prop} (hgd : o.guard = none) (s x : Operand)
    (ho : o.op = .call { callee := .builtin .append, args := #[s, x], argTypes := #[34, 34] })
    {base : Nat} {v : Value} {ys zs : List Int} (hs : a.eval s = v) (hown : w.ownsRow base 3 1 v ys.length (ic ys)) (B c : Nat) (hx : a.eval x = .slice (some ⟨B, 0, none⟩) zs.length c) (hz : NumsAt w (some ⟨B, 0, none⟩) zs) (hlen : ys.length + zs.length ≤ 100000) (hbase : base ≤ w.heap.size)
    (h : ∀ v' w', w'.ownsRow base 3 1 v' (ys ++ zs).length (ic (ys ++ zs)) → Fr (fun x => v.ownBlock = some x) w w' → (∀ x, v'.ownBlock = some x → v.ownBlock = some x ∨ w.heap.size ≤ x) → wpList Tryd.prog ops Q rest (a.put o.dst v') w') : wpList Tryd.prog ops Q (o :: rest) a w := by
  refine wpList_plain hgd fun K hK => ?_
  obtain ⟨v', w', hr, h2, h3, h4⟩ := run_app o.type hown B c hz hlen hbase
  unfold Oper.wp
  simp [execOp, ho, resolve, invoke, builtin, hs, hx, hr, Result.andThen]
  exact hK _ _ (h v' w' h2 h3 h4)
theorem slice_of {w : World} {base n : Nat} {v : Value} {xs : List Value} (h : w.ownsRow base 3 1 v n xs) : ∃ ad m cap, v = .slice ad m cap := by
  rcases h.2 with ⟨e1, _⟩ | ⟨g, cap, cur, e1, _⟩
  · exact ⟨_, _, _, e1⟩
  · exact ⟨_, _, _, e1⟩
section
variable {w w' : World} {a : Nat} {Z : Nat → Prop} {own : List Int}
theorem free_eq (h : Pm w a Z own) : Calls Tryd.prog 13 #[.pointer (some ⟨a, 0, none⟩)] w fun e w' => e = .returned (.int .i64 ((wN own (-1)).length : Nat)) ∧ w' = w := by
  obtain ⟨sa, sb, V, h1, h2, h3, h4⟩ := h
  have c0 := h1.c0
  have H1 := hid (Sf.s_free h1.sh)
  rw [free_all] at H1
  clear h1 h2 h3 h4
  go_enter Tryd.func13, Tryd.ntmps13
  go_wp2_with fail
  refine H1.out.mono ?_
  rintro e w1 ⟨rfl, hw⟩
  obtain rfl := hw.symm
  clear hw
  go_wp2
  go_ret
  exact ⟨by simp, rfl⟩
theorem grL_none {o k : Int} (h : ¬ ((Ow o ∧ 0 ≤ k) ∧ k ≤ (wN own (-1)).length)) : grL own o k = [] := if_neg h
theorem grS_none {o k : Int} (h : ¬ ((Ow o ∧ 0 ≤ k) ∧ k ≤ (wN own (-1)).length)) : grS own o k = own := by unfold grS; rw [grL_none h]; rfl
/-- Who is refused has no list, and nothing turns. -/
theorem refused (h : Pm w a Z own) (E : Int) : ∃ Z' : Nat → Prop, LsK w w Z' (nI []) E (.returned (.tuple #[.slice none 0 0, .int .i64 E])) ∧ Pm w a Z' own ∧ (∀ i, Z' i → Z i ∨ w.heap.size ≤ i) ∧ Fr Z w w :=
  ⟨Z, ⟨none, 0, by simp [nI], ⟨nums_none _ _, fun b off e => by cases e⟩, fun b off e => by cases e⟩, h, fun i hi => .inl hi, Fr.refl _ _⟩
theorem grant_no {o k : Int} (hn : ¬ (Ow o ∧ 0 ≤ k)) : Calls Tryd.prog 11 #[.pointer (some ⟨a, 0, none⟩), .int .i64 o, .int .i64 k] w fun e w' => e = .returned (.tuple #[.slice none 0 0, .int .i64 12]) ∧ w' = w := by
  have HM := hid (own_any o w)
  by_cases ho : Ow o
  · have hk : k < 0 := by have : ¬ 0 ≤ k := fun e => hn ⟨ho, e⟩
                          omega
    rw [decide_eq_true ho] at HM
    clear hn ho
    go_enter Tryd.func11, Tryd.ntmps11
    go_wp2_with (go_at_call 24; refine HM.out.mono ?_; rintro e w1 ⟨rfl, hw⟩; obtain rfl := hw.symm; clear hw)
    go_ret2
    exact ⟨by simp, rfl⟩
  · rw [decide_eq_false ho] at HM
    clear hn ho
    go_enter Tryd.func11, Tryd.ntmps11
    go_wp2_with (go_at_call 24; refine HM.out.mono ?_; rintro e w1 ⟨rfl, hw⟩; obtain rfl := hw.symm; clear hw)
    go_ret2
    exact ⟨by simp, rfl⟩
theorem grant_few (h : Pm w a Z own) {o k : Int} (ho : Ow o) (hk : 0 ≤ k) (hf : ¬ k ≤ (wN own (-1)).length) : Calls Tryd.prog 11 #[.pointer (some ⟨a, 0, none⟩), .int .i64 o, .int .i64 k] w fun e w' => e = .returned (.tuple #[.slice none 0 0, .int .i64 9]) ∧ w' = w := by
  have HM := hid (own_any o w)
  have HF := hid (free_eq h)
  rw [decide_eq_true ho] at HM
  have hf2 : ((wN own (-1)).length : Int) < k := by omega
  generalize ((wN own (-1)).length) = q at *
  clear h hf ho
  go_enter Tryd.func11, Tryd.ntmps11
  go_wp2_with (first | (go_at_call 24; refine HM.out.mono ?_; rintro e w1 ⟨rfl, hw⟩; obtain rfl := hw.symm; clear hw) | (go_at_call 13; refine HF.out.mono ?_; rintro e w1 ⟨rfl, hw⟩; obtain rfl := hw.symm; clear hw))
  go_ret2
  exact ⟨by simp, rfl⟩
set_option maxHeartbeats 1000000 in
theorem grant_ok (h : Pm w a Z own) {o k : Nat} (ho : o < 8) (hk : k ≤ (wN own (-1)).length) : Calls Tryd.prog 11 #[.pointer (some ⟨a, 0, none⟩), .int .i64 (o : Int), .int .i64 (k : Int)] w fun e w' => ∃ Z', LsK w w' Z' (nI ((wN own (-1)).take k)) 0 e ∧ Pm w' a Z' (setAll own ((wN own (-1)).take k) o) ∧ (∀ i, Z' i → Z i ∨ w.heap.size ≤ i) ∧ Fr Z w w' := by
  have HM := hid (own_any o w)
  have HF := hid (free_eq h)
  rw [decide_eq_true (show Ow (o : Int) from ⟨by omega, by omega⟩)] at HM
  obtain ⟨sa, sb, V, h1, h2, h3, h4⟩ := h
  have HT := hid (take_any h1 h2 (o := (o : Int)) (by omega) hk)
  have HO2 := hid h2
  have HZ := hid h3
  have hk2 : ¬ ((wN own (-1)).length : Int) < (k : Int) := by omega
  have HK := hid hk
  have HP := hid h1
  clear h1 h2 h3 hk h4
  go_enter Tryd.func11, Tryd.ntmps11
  go_wp2_with (first | (go_at_call 24; refine HM.out.mono ?_; rintro e w1 ⟨rfl, hw⟩; obtain rfl := hw.symm; clear hw) | (go_at_call 13; refine HF.out.mono ?_; rintro e w1 ⟨rfl, hw⟩; obtain rfl := hw.symm; clear hw))
  refine HT.out.mono ?_
  rintro e w1 ⟨rfl, hg1, hp1, f1⟩
  have hgl : ((nI ((wN own (-1)).take k)).length) = k := by rw [nI_length, List.length_take]; have := HK.out; omega
  have hr := hp1.row o ho
  rw [← nI_length] at hr
  have HR := hid hr
  have HP1 := hid hp1
  have HG := hid hg1
  have HF1 := hid f1
  have HL := hid hgl
  have hsz := f1.size
  have hs1 := (Array.getElem?_eq_some_iff.1 hg1).1
  have cv := hp1.cv ho
  have HN := hid (nums_new hg1 (Fr.refl _ w1))
  have h32 : (nI (wN own o)).length + (nI ((wN own (-1)).take k)).length ≤ 100000 := by
    rw [nI_length, nI_length, List.length_take]
    have := wN_le own o; have := wN_le own (-1); have := HO2.out.most
    omega
  clear hg1 hp1 f1 hr hgl HT HM HF
  go_wp2_with (at_builtin; refine wpList_app rfl (.tmp 34) (.tmp 35) rfl rfl HR.out w.heap.size k (zs := nI ((wN own (-1)).take k)) (by rw [HL.out]; rfl) HN.out h32 (by omega) ?_; intro v2 w2 hv2 f2 hsep; obtain ⟨vad, vn, vcap, rfl⟩ := slice_of hv2; have HV := hid hv2; have HF2 := hid f2; have HS := hid hsep; clear hv2 f2 hsep)
  refine (srt_any HV.out (by rw [List.length_append]; exact h32)).mono ?_
  rintro e w3 ⟨rfl, hr3, f3⟩
  have HF3 : Hid (Fr (fun x => (V o).ownBlock = some x) w1 w3) := HF2.out.trans' f3 fun x hx e => by
    rcases HS.out x e with e2 | e2
    · exact e2
    · omega
  have hr4 : w3.ownsRow 1 3 1 (.slice vad vn vcap) (wN (setAll own ((wN own (-1)).take k) o) o).length (ic (nI (wN (setAll own ((wN own (-1)).take k) o) o))) := by
    rw [← nI_append] at hr3
    have e1 := gr_sorted (own := own) (o := (o : Int)) (by omega) k
    have e2 := congrArg List.length e1
    rw [List.length_mergeSort] at e2
    rw [e1, e2, nI_length] at hr3
    exact hr3
  have HQ := hid (HP1.out.put ho HF3.out hr4 HS.out)
  have hst := (HF3.out.block a HP1.out.lta (HP1.out.nv o ho).1).trans HP1.out.st
  have c3 : w3.cell? ⟨a, 1 + o, none⟩ = some (V o) := by rw [World.cell?_of_block (hst.trans HP1.out.st.symm)]; exact cv
  have z3 : w3.frozen? ⟨a, 1 + o, none⟩ = false := by simp [World.frozen?, hst]
  clear hr3 f3 hr4 hst cv
  go_wp2
  go_ret2
  obtain ⟨q1, q2⟩ := HQ.out
  have hlow : ∀ x, Blk a sa sb V x → x < w.heap.size := fun x hx => (HP.out.low hx).2
  have hZ : ∀ i, Blk a sa sb (upd V o (.slice vad vn vcap)) i → Z i ∧ i < w.heap.size ∨ w1.heap.size ≤ i := by
    rintro i (e | e | e | ⟨q, hq, e⟩)
    · exact .inl ⟨HZ.out i (.inl e), hlow i (.inl e)⟩
    · exact .inl ⟨HZ.out i (.inr (.inl e)), hlow i (.inr (.inl e))⟩
    · exact .inl ⟨HZ.out i (.inr (.inr (.inl e))), hlow i (.inr (.inr (.inl e)))⟩
    · by_cases e2 : q = o
      · subst e2
        rw [upd_same] at e
        rcases HS.out i e with e3 | e3
        · exact .inl ⟨HZ.out i (.inr (.inr (.inr ⟨q, hq, e3⟩))), hlow i (.inr (.inr (.inr ⟨q, hq, e3⟩)))⟩
        · exact .inr e3
      · rw [upd_else _ _ e2] at e
        exact .inl ⟨HZ.out i (.inr (.inr (.inr ⟨q, hq, e⟩))), hlow i (.inr (.inr (.inr ⟨q, hq, e⟩)))⟩
  have hgL : grL own o k = (wN own (-1)).take k := if_pos ⟨⟨⟨by omega, by omega⟩, by omega⟩, by omega⟩
  have hO := grS_own HO2.out (o : Int) (k : Int)
  unfold grS at hO
  rw [hgL] at hO
  refine ⟨Blk a sa sb (upd V o (.slice vad vn vcap)), ⟨some ⟨w.heap.size, 0, none⟩, k, by rw [HL.out]; simp, ⟨?_, ?_⟩, ?_⟩, ⟨sa, sb, upd V o (.slice vad vn vcap), q1.congr ?_, hO, fun _ h => h, fun x hx => (q1.low hx).2⟩, ?_, ?_⟩
  · refine HN.out.carry q2 ?_
    rintro b off e _ (e2 | e2)
    · cases e; have := hlow a (.inl rfl); omega
    · cases e; have := hlow _ (.inr (.inr (.inr ⟨o, ho, e2⟩))); omega
  · intro b off e _ hb
    cases e
    rcases hZ _ hb with e2 | e2
    · omega
    · omega
  · intro b off e; cases e; exact Nat.le_refl _
  · intro i hi
    by_cases e2 : i = o
    · subst e2; rw [upd_same]
    · rw [upd_else _ _ e2]; exact (gr_other k (by omega) (by omega)).symm
  · intro i hi
    rcases hZ i hi with e2 | e2
    · exact .inl e2.1
    · exact .inr (by omega)
  · refine (HF1.out.mono fun i _ e => HZ.out i (.inr (.inr (.inl e)))).trans' q2 ?_
    rintro i _ (e2 | e2)
    · exact HZ.out i (.inl e2)
    · exact HZ.out i (.inr (.inr (.inr ⟨o, ho, e2⟩)))
theorem p_grant (h : Pm w a Z own) (o k : Int) : Calls Tryd.prog 11 #[.pointer (some ⟨a, 0, none⟩), .int .i64 o, .int .i64 k] w fun e w' => ∃ Z', LsK w w' Z' (nI (grL own o k)) (grE own o k) e ∧ Pm w' a Z' (grS own o k) ∧ (∀ i, Z' i → Z i ∨ w.heap.size ≤ i) ∧ Fr Z w w' := by
  by_cases h1 : Ow o ∧ 0 ≤ k
  · by_cases h2 : k ≤ (wN own (-1)).length
    · obtain ⟨⟨h3, h4⟩, h5⟩ := h1
      obtain ⟨n, rfl⟩ : ∃ n : Nat, o = n := ⟨o.toNat, by omega⟩
      obtain ⟨m, rfl⟩ : ∃ m : Nat, k = m := ⟨k.toNat, by omega⟩
      have e1 : grL own n m = (wN own (-1)).take m := if_pos ⟨⟨⟨h3, h4⟩, h5⟩, h2⟩
      have e2 : grE own n m = 0 := by unfold grE; rw [if_pos ⟨⟨h3, h4⟩, h5⟩, if_pos h2]
      unfold grS
      rw [e1, e2]
      exact grant_ok h (by omega) (by omega)
    · have e0 : ¬ ((Ow o ∧ 0 ≤ k) ∧ k ≤ (wN own (-1)).length) := fun e => h2 e.2
      have e2 : grE own o k = 9 := by unfold grE; rw [if_pos h1, if_neg h2]
      rw [grL_none e0, grS_none e0, e2]
      refine (grant_few h h1.1 h1.2 h2).mono ?_
      rintro e w1 ⟨rfl, rfl⟩
      exact refused h 9
  · have e0 : ¬ ((Ow o ∧ 0 ≤ k) ∧ k ≤ (wN own (-1)).length) := fun e => h1 e.1
    have e2 : grE own o k = 12 := by unfold grE; rw [if_neg h1]
    rw [grL_none e0, grS_none e0, e2]
    refine (grant_no h1).mono ?_
    rintro e w1 ⟨rfl, rfl⟩
    exact refused h 12
end
end Go.Proofs.YthamfljooapkoaaDoor
