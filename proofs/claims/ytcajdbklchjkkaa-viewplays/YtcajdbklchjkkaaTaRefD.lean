/-
  What the document's own table does: Map.
-/
import Derived.Test.YtcajdbklchjkkaaTaRefC
namespace Go.Proofs.Ytcajdbklchjkkaa
open Go.RowKit

theorem tbI_split : ∀ (T : Tb) (v p : Int) (j : Nat), j ≤ T.length → (∀ y ∈ T.take j, y.1 < v) → (∀ h : j < T.length, ¬ T[j].1 < v) → tbI T v p = T.take j ++ [(v, p)] ++ T.drop j
  | [], v, p, j, hj, _, _ => by simp [tbI]
  | x :: r, v, p, 0, _, _, h2 => by
    have h3 : ¬ x.1 < v := h2 (by simp)
    unfold tbI
    rw [if_neg h3]
    rfl
  | x :: r, v, p, j + 1, hj, h1, h2 => by
    unfold tbI
    rw [if_pos (h1 x (by simp)), tbI_split r v p j (by simpa using hj) (fun y hy => h1 y (by simp [hy])) (fun h => h2 (by simpa using h))]
    rfl
theorem own_low' {w : World} {base base' : Nat} {v : Value} {e : TypeId} {size n : Nat} {xs : List Value} (h : w.ownsRow base e size v n xs) (hb : base' ≤ base) : w.ownsRow base' e size v n xs := own_low h hb
theorem wpList_firstP {w : World} {L : Tb} {ad ao : Option Addr} {o : Oper} {a : Act} {Q : Exit → Act → World → Prop} {ops : Array Oper} {rest : List Oper} {y : Int × Int} (hgd : o.guard = none) (s x : Operand)
    (ho : o.op = .call { callee := .builtin .append, args := #[s, x], argTypes := #[28, 28] })
    (hL : PairsAt w ao L) (hnone : ao = none → L = []) (c : Nat) (hy : PairsAt w ad [y]) (hlen : L.length ≤ 10000) (hs : a.eval s = .slice ao L.length L.length) (hx : a.eval x = .slice ad 1 c)
    (h : ∀ g cap w' M, M = L ++ [y] → M.length = L.length + 1 → w'.ownsRow w.heap.size 106 2 (.slice (some ⟨g, 0, none⟩) (L.length + 1) cap) M.length (pc M) → Fr (fun _ => False) w w' → w.heap.size ≤ g → wpList Try.prog ops Q rest (a.put o.dst (.slice (some ⟨g, 0, none⟩) (L.length + 1) cap)) w') : wpList Try.prog ops Q (o :: rest) a w :=
  wpList_plain hgd fun _ hK => by
    obtain ⟨g, cap, w', hr, h2, h3⟩ := run_firstP o.type hL hnone c hy hlen
    unfold Oper.wp execOp
    simp only [ho, resolve, invoke, builtin, Sem.run_bind, Sem.run_pure, Result.andThen_ok, List.map_toArray, List.map_cons, List.map_nil, hs, hx, hr]
    exact hK _ _ (h g cap w' _ rfl (by simp) h2 h3 (h2.lt g rfl).1)
section
variable {w : World} {base q : Nat} {v : Value} {T : Tb}
set_option maxRecDepth 20000 in
set_option maxHeartbeats 4000000 in
theorem f_map (h : Rtb w base q v T) (hl5 : T.length < 5000) (x p : Int) : Calls Try.prog 29 #[.pointer (some ⟨q, 0, none⟩), .int .i64 x, .int .i64 p] w fun e w' => e = .returned (.int .i64 (tbME T x p)) ∧ ∃ v', Rtb w' base q v' (tbM T x p) ∧ Fr (fun k => k = q ∨ v.ownBlock = some k) w w' ∧ Fv w v v' := by
  have HR := hid h
  have hlen := h.len
  have H1 := hid (f_find h x)
  have H2 : Hid (∀ w0, Fr (fun _ => False) w w0 → Calls Try.prog 54 #[.pointer (some ⟨q, 0, none⟩), .int .i64 p] w0 fun e w' => e = .returned (.int .i64 (tbH T p)) ∧ Fr (fun _ => False) w w') := fun w0 f => (f_holder (h.kept f) p).mono fun _ _ ⟨he, f2⟩ => ⟨he, f.trans f2⟩
  clear h
  by_cases hvp : VOk x ∧ POk p
  case neg =>
    have e1 : tbME T x p = 12 := if_neg hvp
    have e2 : tbM T x p = T := if_neg fun e => hvp e.1
    rw [e1, e2]
    clear e1 e2 H1 H2
    obtain k1 | ⟨k1, k2⟩ | ⟨k1, k2, k3⟩ | ⟨k1, k2, k3, k4⟩ : x < 256 ∨ (¬ x < 256 ∧ 6399 < x) ∨ (¬ x < 256 ∧ ¬ 6399 < x ∧ p < 0) ∨ (¬ x < 256 ∧ ¬ 6399 < x ∧ ¬ p < 0 ∧ 1048576 < p) := by omega
    all_goals
      clear hvp
      go_enter Try.func29, Try.ntmps29
      go_wp2
      go_ret
      exact ⟨by simp, v, HR.out, Fr.refl _ _, .inl rfl⟩
  by_cases hf : tbF T x < 0
  case neg =>
    have e1 : tbME T x p = 7 := by unfold tbME; rw [if_pos hvp, if_neg fun e => hf e.1]
    have e2 : tbM T x p = T := if_neg fun e => hf e.2.1
    rw [e1, e2]
    clear e1 e2 H2
    generalize tbF T x = fx at *
    go_enter Try.func29, Try.ntmps29
    go_wp2_with fail
    refine H1.out.mono ?_
    rintro e w1 ⟨rfl, f⟩
    have HF := hid f
    clear f H1
    go_wp2
    go_ret
    exact ⟨by simp, v, HR.out.kept HF.out, HF.out.mono fun _ _ e => e.elim, .inl rfl⟩
  by_cases hh : tbH T p < 0
  case neg =>
    have e1 : tbME T x p = 7 := by unfold tbME; rw [if_pos hvp, if_neg fun e => hh e.2]
    have e2 : tbM T x p = T := if_neg fun e => hh e.2.2
    rw [e1, e2]
    clear e1 e2
    generalize tbF T x = fx at *
    generalize tbH T p = hx at *
    go_enter Try.func29, Try.ntmps29
    go_wp2_with fail
    refine H1.out.mono ?_
    rintro e w1 ⟨rfl, f⟩
    have HF := hid f
    clear f H1
    go_wp2_with fail
    refine (H2.out _ HF.out).mono ?_
    rintro e w2 ⟨rfl, f⟩
    have HF2 := hid f
    clear f H2 HF
    go_wp2
    go_ret
    exact ⟨by simp, v, HR.out.kept HF2.out, HF2.out.mono fun _ _ e => e.elim, .inl rfl⟩
  have e1 : tbME T x p = 0 := by unfold tbME; rw [if_pos hvp, if_pos ⟨hf, hh⟩]
  have E2 : Hid (tbM T x p = tbI T x p) := if_pos ⟨hvp, hf, hh⟩
  rw [e1]
  clear e1
  generalize tbF T x = fx at *
  generalize tbH T p = hx at *
  go_enter Try.func29, Try.ntmps29
  go_wp2_with fail
  refine H1.out.mono ?_
  rintro e w1 ⟨rfl, f⟩
  have HF := hid f
  clear f H1
  go_wp2_with fail
  refine (H2.out _ HF.out).mono ?_
  rintro e w2 ⟨rfl, f⟩
  have HF2 := hid f
  have HR2 := hid (HR.out.kept f)
  clear f H2 HF
  go_wp2
  go_loopw [7] (fun i wr => ∃ m : Nat, m ≤ T.length ∧ i = .int .i64 m ∧ Hid (∀ y ∈ T.take m, y.1 < x) ∧ Hid (Fr (fun _ => False) w wr)) (fun i _ => T.length - (intOf i).toNat)
  case atStart => exact ⟨0, by omega, rfl, fun y hy => by simp at hy, HF2⟩
  case round =>
    clear HF2 HR2
    obtain ⟨m, hm, rfl, HN, HF⟩ := hrel
    have HR2 := hid (HR.out.kept HF.out)
    obtain ⟨ad, cap, rfl, hcap, hg, hn⟩ := HR2.out.form
    have c0 := HR2.out.c0
    by_cases hlt : m < T.length
    · obtain ⟨g, cap', e, x0, x1⟩ := HR2.out.cells m hlt
      simp only [Value.slice.injEq] at e
      obtain ⟨rfl, _, rfl⟩ := e
      by_cases hx2 : T[m].1 < x
      · have HN2 : Hid (∀ y ∈ T.take (m + 1), y.1 < x) := fun y hy => by
          rw [List.take_succ_eq_append_getElem hlt, List.mem_append, List.mem_singleton] at hy
          rcases hy with hy | rfl
          · exact HN.out y hy
          · exact hx2
        have HF3 := hid (fun n => HF.out.drewN n)
        clear HN HF HR2 HR
        generalize T[m].1 = y1 at *
        generalize T[m].2 = y2 at *
        go_wp2
        go_roundw
        case rel => exact ⟨m + 1, by omega, by go_num, HN2, HF3.out 0⟩
        case measure => simp [intOf]; omega
      · have HSP := hid (tbI_split T x p m hm HN.out fun _ => hx2)
        generalize T[m].1 = y1 at *
        generalize T[m].2 = y2 at *
        obtain ⟨ad2, cap2, hr2, hM, hMne⟩ := HR2.out.tail hm
        obtain ⟨ad1, hr1, hP, hPne, hPn⟩ := HR2.out.head hm
        have hPl : (T.take m).length ≤ 5000 := by rw [List.length_take]; omega
        have hMl : (T.drop m).length ≤ 5000 := by rw [List.length_drop]; omega
        have hTl : (T.take m).length + 1 + (T.drop m).length ≤ 5000 := by rw [List.length_take, List.length_drop]; omega
        generalize T.drop m = M at *
        generalize T.take m = P at *
        have HM := hid (And.intro hM hMne)
        have HP := hid (And.intro hP (And.intro hPne hPn))
        have hql := HR2.out.ltr
        have hlo := HR2.out.lo
        have hws := HF.out.size
        have HQ0 := hid HR.out.ltr
        have HO2 : Hid ((wr.alloc (.cells #[] 106)).ownsRow wr.heap.size 106 2 (.slice (some ⟨wr.heap.size, 0, none⟩) 0 0) ([] : Tb).length (pc [])) :=
          ⟨rfl, .inr ⟨wr.heap.size, 0, #[], rfl, Nat.le_refl _, heap_alloc_new wr (.cells #[] 106), Nat.le_refl _, by simp [maxLen], rfl, rfl⟩⟩
        have HM2 := hid (hM.fr ((Fr.refl _ wr).alloc (.cells #[] 106)))
        have HP2 := hid (hP.fr ((Fr.refl _ wr).alloc (.cells #[] 106)))
        have c0a : (wr.alloc (.cells #[] 106)).cell? ⟨q, 0, none⟩ = some (.slice (some ⟨g, 0, none⟩) T.length cap) := by
          have e := (Below.heap_alloc wr (.cells #[] 106) q hql).trans HR2.out.st
          simp [World.cell?, e]
        clear hM hMne hP hPne hPn
        go_wp2_with (at_builtin; refine wpList_pairs rfl (.tmp 54) (.tmp 60) rfl HO2.out (.inl ⟨_, _, _, rfl⟩) cap2 HM2.out (by simp; omega) (by simp) rfl rfl ?_)
        intro g3 cap3 w3 ho3 hf3 hs3
        try simp only [List.length_nil, Nat.zero_add, List.nil_append] at ho3
        try simp only [List.length_nil, Nat.zero_add, List.nil_append]
        have HO3 := hid ho3
        have HF3 := hid hf3
        have hs3' : wr.heap.size ≤ g3 := by
          rcases hs3 with e | e
          · simp [Value.ownBlock] at e; omega
          · (try simp at e); omega
        clear ho3 hf3 hs3
        have HF3a : Hid (Fr (fun k => k = wr.heap.size) (wr.alloc (.cells #[] 106)) w3) := HF3.out.mono fun k _ e => by simpa [Value.ownBlock] using e.symm
        have HS3 : Hid (w3.heap[q]? = some (.cells #[.slice (some ⟨g, 0, none⟩) T.length cap] 30 (0, 0))) := by
          show _ = _
          rw [HF3a.out.block q (by show q < (wr.alloc _).heap.size; simp; omega) (by omega)]
          exact (Below.heap_alloc wr _ q hql).trans HR2.out.st
        have HP3 : Hid (PairsAt w3 ad1 P) := HP2.out.carry HF3a.out (fun b off e h0 e2 => by
          obtain ⟨b', off', e', hb', _⟩ := HP.out.1 h0
          rw [e] at e'
          simp only [Option.some.injEq, Addr.mk.injEq, and_true] at e'
          omega)
        have HM3 := hid (pairs_row HO3.out)
        have hw3 : wr.heap.size + 1 ≤ w3.heap.size := by have := HF3a.out.size; simp at this; omega
        have HFA : Hid (Fr (fun _ => False) w w3) := Fr.new (Fr.trans' ((HF.out.mono fun _ _ e => e.elim).alloc _) HF3a.out (fun i hi e => by omega))
        clear HF3 HO2 HM2 HP2 c0 c0a hr2
        have d0 : w3.cell? ⟨q, 0, none⟩ = some (.slice (some ⟨g, 0, none⟩) T.length cap) := by simp [World.cell?, HS3.out]
        have d0a : (w3.alloc (.cells #[.int .i64 x, .int .i64 p] 106)).cell? ⟨q, 0, none⟩ = some (.slice (some ⟨g, 0, none⟩) T.length cap) := by
          have e := (Below.heap_alloc w3 (.cells #[.int .i64 x, .int .i64 p] 106) q (by omega)).trans HS3.out
          simp [World.cell?, e]
        go_wp2_with (first | (at_builtin; refine wpList_pairs rfl (.tmp 74) (.tmp 75) rfl HO4.out (.inl ⟨g4, _, _, rfl⟩) cap3 HM4.out (by omega) hB4 rfl rfl ?_; intro g5 cap5 w5 ho5 hf5 hs5; have HO5 := hid ho5; have HF5 : Hid (Fr (fun k => k = g4) w4 w5) := (hf5.mono fun k _ e => by simpa [Value.ownBlock] using e.symm); have hg5 : w3.heap.size + 1 ≤ g5 := (by have := HF4.out.size; rcases hs5 with e | e; (simp [Value.ownBlock] at e; omega); (have hb := hB4; simp at hb; omega)); clear ho5 hf5 hs5; have HS5 : Hid (w5.heap[q]? = some (.cells #[.slice (some ⟨g, 0, none⟩) T.length cap] 30 (0, 0))) := (by show _ = _; rw [HF5.out.block q (by have := HF4.out.size; omega) (by omega), HF4.out.block q (by omega) id]; exact HS3.out); have d25 : w5.cell? ⟨q, 0, none⟩ = some (.slice (some ⟨g, 0, none⟩) T.length cap) := (by simp [World.cell?, HS5.out]); have f25 : w5.frozen? ⟨q, 0, none⟩ = false := (by simp [World.frozen?, HS5.out])) | (at_builtin; refine wpList_firstP (y := (x, p)) rfl (.tmp 69) (.tmp 73) rfl (HP3.out.fr ((Fr.refl (fun _ => False) w3).alloc _)) HP.out.2.2 1 (pairs_one (x := (x, p)) (heap_alloc_new _ _)) (by omega) rfl rfl ?_; intro g4 cap4 w4 Q hQ hQl ho4 hf4 hg4; have HQ := hid hQ; have HF4 := hid (((Fr.refl (fun _ => False) w3).alloc _).trans hf4); have hB4 := hf4.size; have HO4 := hid ho4; have HM4 := hid (HM3.out.fr HF4.out); have hg4' : w3.heap.size + 1 ≤ g4 := (by simpa using hg4); have hQM : Q.length + M.length ≤ 5000 := (by omega); clear hQ hf4 ho4 hg4; rw [← hQl] at HO4 ⊢; clear hQl))
        all_goals
          have HEQ : Hid (Q ++ M = tbI T x p) := by
            show _ = _
            rw [HSP.out, HQ.out]
          have HFB : Hid (Fr (fun _ => False) w w5) := Fr.new (Fr.trans' ((HFA.out.trans HF4.out).mono fun _ _ e => e.elim) HF5.out (fun i hi e => by omega))
          have HL := hid (Rtb.laid (N := Q ++ M) (y := .slice (some ⟨g5, 0, none⟩) (Q.length + M.length) cap5) ⟨own_low' HO5.out (by have := HFA.out.size; simp only [World.size_alloc]; omega), HFB.out.mono fun _ _ e => e.elim⟩ HR.out (by rw [List.length_append]; exact hQM))
          clear HO5 HS5 HF5 HM4 HO4 HF4 HS3 HP3 HM3 HO3 HM HP d0 d0a HFB
          go_ret
          exact ⟨by simp, _, by rw [E2.out, ← HEQ.out]; exact HL.out.1, HL.out.2.1, HL.out.2.2⟩
    · have HSP := hid (tbI_split T x p m hm HN.out fun h => absurd h hlt)
      obtain ⟨ad2, cap2, hr2, hM, hMne⟩ := HR2.out.tail hm
      obtain ⟨ad1, hr1, hP, hPne, hPn⟩ := HR2.out.head hm
      have hPl : (T.take m).length ≤ 5000 := by rw [List.length_take]; omega
      have hMl : (T.drop m).length ≤ 5000 := by rw [List.length_drop]; omega
      have hTl : (T.take m).length + 1 + (T.drop m).length ≤ 5000 := by rw [List.length_take, List.length_drop]; omega
      generalize T.drop m = M at *
      generalize T.take m = P at *
      have HM := hid (And.intro hM hMne)
      have HP := hid (And.intro hP (And.intro hPne hPn))
      have hql := HR2.out.ltr
      have hlo := HR2.out.lo
      have hws := HF.out.size
      have HQ0 := hid HR.out.ltr
      have HO2 : Hid ((wr.alloc (.cells #[] 106)).ownsRow wr.heap.size 106 2 (.slice (some ⟨wr.heap.size, 0, none⟩) 0 0) ([] : Tb).length (pc [])) :=
        ⟨rfl, .inr ⟨wr.heap.size, 0, #[], rfl, Nat.le_refl _, heap_alloc_new wr (.cells #[] 106), Nat.le_refl _, by simp [maxLen], rfl, rfl⟩⟩
      have HM2 := hid (hM.fr ((Fr.refl _ wr).alloc (.cells #[] 106)))
      have HP2 := hid (hP.fr ((Fr.refl _ wr).alloc (.cells #[] 106)))
      have c0a : (wr.alloc (.cells #[] 106)).cell? ⟨q, 0, none⟩ = some (.slice ad T.length cap) := by
        have e := (Below.heap_alloc wr (.cells #[] 106) q hql).trans HR2.out.st
        simp [World.cell?, e]
      clear hM hMne hP hPne hPn
      go_wp2_with (at_builtin; refine wpList_pairs rfl (.tmp 54) (.tmp 60) rfl HO2.out (.inl ⟨_, _, _, rfl⟩) cap2 HM2.out (by simp; omega) (by simp) rfl rfl ?_)
      intro g3 cap3 w3 ho3 hf3 hs3
      try simp only [List.length_nil, Nat.zero_add, List.nil_append] at ho3
      try simp only [List.length_nil, Nat.zero_add, List.nil_append]
      have HO3 := hid ho3
      have HF3 := hid hf3
      have hs3' : wr.heap.size ≤ g3 := by
        rcases hs3 with e | e
        · simp [Value.ownBlock] at e; omega
        · (try simp at e); omega
      clear ho3 hf3 hs3
      have HF3a : Hid (Fr (fun k => k = wr.heap.size) (wr.alloc (.cells #[] 106)) w3) := HF3.out.mono fun k _ e => by simpa [Value.ownBlock] using e.symm
      have HS3 : Hid (w3.heap[q]? = some (.cells #[.slice ad T.length cap] 30 (0, 0))) := by
        show _ = _
        rw [HF3a.out.block q (by show q < (wr.alloc _).heap.size; simp; omega) (by omega)]
        exact (Below.heap_alloc wr _ q hql).trans HR2.out.st
      have HP3 : Hid (PairsAt w3 ad1 P) := HP2.out.carry HF3a.out (fun b off e h0 e2 => by
        obtain ⟨b', off', e', hb', _⟩ := HP.out.1 h0
        rw [e] at e'
        simp only [Option.some.injEq, Addr.mk.injEq, and_true] at e'
        omega)
      have HM3 := hid (pairs_row HO3.out)
      have hw3 : wr.heap.size + 1 ≤ w3.heap.size := by have := HF3a.out.size; simp at this; omega
      have HFA : Hid (Fr (fun _ => False) w w3) := Fr.new (Fr.trans' ((HF.out.mono fun _ _ e => e.elim).alloc _) HF3a.out (fun i hi e => by omega))
      clear HF3 HO2 HM2 HP2 c0 c0a hr2
      have d0 : w3.cell? ⟨q, 0, none⟩ = some (.slice ad T.length cap) := by simp [World.cell?, HS3.out]
      have d0a : (w3.alloc (.cells #[.int .i64 x, .int .i64 p] 106)).cell? ⟨q, 0, none⟩ = some (.slice ad T.length cap) := by
        have e := (Below.heap_alloc w3 (.cells #[.int .i64 x, .int .i64 p] 106) q (by omega)).trans HS3.out
        simp [World.cell?, e]
      go_wp2_with (first | (at_builtin; refine wpList_pairs rfl (.tmp 74) (.tmp 75) rfl HO4.out (.inl ⟨g4, _, _, rfl⟩) cap3 HM4.out (by omega) hB4 rfl rfl ?_; intro g5 cap5 w5 ho5 hf5 hs5; have HO5 := hid ho5; have HF5 : Hid (Fr (fun k => k = g4) w4 w5) := (hf5.mono fun k _ e => by simpa [Value.ownBlock] using e.symm); have hg5 : w3.heap.size + 1 ≤ g5 := (by have := HF4.out.size; rcases hs5 with e | e; (simp [Value.ownBlock] at e; omega); (have hb := hB4; simp at hb; omega)); clear ho5 hf5 hs5; have HS5 : Hid (w5.heap[q]? = some (.cells #[.slice ad T.length cap] 30 (0, 0))) := (by show _ = _; rw [HF5.out.block q (by have := HF4.out.size; omega) (by omega), HF4.out.block q (by omega) id]; exact HS3.out); have d25 : w5.cell? ⟨q, 0, none⟩ = some (.slice ad T.length cap) := (by simp [World.cell?, HS5.out]); have f25 : w5.frozen? ⟨q, 0, none⟩ = false := (by simp [World.frozen?, HS5.out])) | (at_builtin; refine wpList_firstP (y := (x, p)) rfl (.tmp 69) (.tmp 73) rfl (HP3.out.fr ((Fr.refl (fun _ => False) w3).alloc _)) HP.out.2.2 1 (pairs_one (x := (x, p)) (heap_alloc_new _ _)) (by omega) rfl rfl ?_; intro g4 cap4 w4 Q hQ hQl ho4 hf4 hg4; have HQ := hid hQ; have HF4 := hid (((Fr.refl (fun _ => False) w3).alloc _).trans hf4); have hB4 := hf4.size; have HO4 := hid ho4; have HM4 := hid (HM3.out.fr HF4.out); have hg4' : w3.heap.size + 1 ≤ g4 := (by simpa using hg4); have hQM : Q.length + M.length ≤ 5000 := (by omega); clear hQ hf4 ho4 hg4; rw [← hQl] at HO4 ⊢; clear hQl))
      all_goals
        have HEQ : Hid (Q ++ M = tbI T x p) := by
          show _ = _
          rw [HSP.out, HQ.out]
        have HFB : Hid (Fr (fun _ => False) w w5) := Fr.new (Fr.trans' ((HFA.out.trans HF4.out).mono fun _ _ e => e.elim) HF5.out (fun i hi e => by omega))
        have HL := hid (Rtb.laid (N := Q ++ M) (y := .slice (some ⟨g5, 0, none⟩) (Q.length + M.length) cap5) ⟨own_low' HO5.out (by have := HFA.out.size; simp only [World.size_alloc]; omega), HFB.out.mono fun _ _ e => e.elim⟩ HR.out (by rw [List.length_append]; exact hQM))
        clear HO5 HS5 HF5 HM4 HO4 HF4 HS3 HP3 HM3 HO3 HM HP d0 d0a HFB
        go_ret
        exact ⟨by simp, _, by rw [E2.out, ← HEQ.out]; exact HL.out.1, HL.out.2.1, HL.out.2.2⟩
end
end Go.Proofs.Ytcajdbklchjkkaa
