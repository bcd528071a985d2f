/-
  What the calls of package line do: New, Push, Remove, Copy; the nil ones.
-/
import Derived.Test.YtihaifnenjngpaaGreatDoorLiCallsA
namespace Go.Proofs.YtihaifnenjngpaaGreatDoor
open Go.RowKit

section
variable {w : World} {p : Nat} {Z : Nat → Prop} {L : List Int}
set_option maxRecDepth 20000 in
theorem n_new (w : World) : Calls Tryz.prog 157 #[] w fun e w' => ∃ p Z, e = .returned (.pointer (some ⟨p, 0, none⟩)) ∧ Lm p [] w' Z ∧ Fr (fun _ => False) w w' ∧ ∀ i, Z i → w.heap.size ≤ i ∧ i < w'.heap.size := by
  go_enter Tryz.func157, Tryz.ntmps157
  go_wp2
  go_ret
  exact ⟨w.heap.size, fun i => i = w.heap.size, by simp, ⟨none, 0, 0, heap_alloc_new w _, .inl ⟨rfl, rfl⟩, fun e => (e rfl).elim, rfl, (fun B e => by cases e), (fun i e => by subst e; simp)⟩, (Fr.refl _ _).alloc _, fun i e => by subst e; simp⟩
set_option maxRecDepth 20000 in
set_option maxHeartbeats 1000000 in
theorem n_push (h : Lm p L w Z) (ok : LiOk L) (hl : L.length ≤ 5000) {k : Int} (hk : I64 k) : Calls Tryz.prog 138 #[.pointer (some ⟨p, 0, none⟩), .int .i64 k] w fun e w' => e = .returned (.int .i64 (liPE L k)) ∧ ∃ Z', Lm p (liP L k) w' Z' ∧ Gw w w' Z Z' := by
  obtain ⟨m, fi, la, h⟩ := h
  unfold liPE liP
  by_cases h0 : k < 0
  · have HR : Hid (∃ Z', Lm p L w Z' ∧ Gw w w Z Z') := ⟨Z, ⟨m, fi, la, h⟩, Gw.same h.lt (Fr.refl _ _)⟩
    rw [if_pos h0, if_pos (.inl h0)]
    clear h ok hk
    go_enter Tryz.func138, Tryz.ntmps138
    go_wp2
    go_ret
    exact ⟨by simp, HR.out⟩
  have H1 := hid (m_has h.c h.o hk)
  rw [if_neg h0]
  by_cases h1 : k ∈ L
  · have HR : Hid (∃ Z', Lm p L w Z' ∧ Gw w w Z Z') := ⟨Z, ⟨m, fi, la, h⟩, Gw.same h.lt (Fr.refl _ _)⟩
    rw [if_pos h1, if_pos (.inr h1)]
    rw [decide_eq_true h1] at H1
    clear h ok hk h1
    go_enter Tryz.func138, Tryz.ntmps138
    go_wp2_with fail
    refine H1.out.mono ?_
    rintro e w1 ⟨rfl, hw⟩
    obtain rfl := hw.symm
    go_wp2
    go_ret
    exact ⟨by simp, HR.out⟩
  have H2 := hid (m_len h.c h.o)
  rw [if_neg h1, if_neg (by rintro (e | e); exact h0 e; exact h1 e)]
  rw [decide_eq_false h1] at H1
  have hwf := wf_small hk.1 hk.2
  cases hL : L with
  | nil =>
    subst hL
    have hne : w.heap.size ≠ p := by have := h.c.lt; omega
    have L1 := h.c.carry (S := fun _ => False) ((Fr.refl _ w).alloc (.map #[] 0)) id
    have L2 := (L1.set0 (some w.heap.size)).set1 k
    have O2 : Oi (((w.alloc (.map #[] 0)).setCell ⟨p, 0, none⟩ (.map (some w.heap.size))).setCell ⟨p, 1, none⟩ (.int .i64 k)) w.heap.size 0 (fun _ => none) 0 := (Oi.new w).carry (S := fun i => i = p) (Fr.setCell (S := fun i => i = p) (Fr.setCell (S := fun i => i = p) (Fr.refl _ _) (p := ⟨p, 0, none⟩) rfl _) (p := ⟨p, 1, none⟩) rfl _) hne
    obtain ⟨w3, hrun, O3, F3⟩ := O2.store (by decide) hwf (wf_small (x := -1) (by decide) (by decide))
    have L3 := L2.carry F3 (fun e => hne e.symm)
    have F4 : Fr Z w (w3.setCell ⟨p, 2, none⟩ (.int .i64 k)) := Fr.setCell (Fr.trans' (Fr.setCell (Fr.setCell ((Fr.refl _ _).alloc _) (p := ⟨p, 0, none⟩) h.zp _) (p := ⟨p, 1, none⟩) h.zp _) F3 fun i hi e => by omega) (p := ⟨p, 2, none⟩) h.zp _
    have hs3 : w.heap.size < w3.heap.size := O3.lt
    have HR : Hid (∃ Z', Lm p ([] ++ [k]) (w3.setCell ⟨p, 2, none⟩ (.int .i64 k)) Z' ∧ Gw w (w3.setCell ⟨p, 2, none⟩ (.int .i64 k)) Z Z') := by
      have hlt : ∀ i, (Z i ∨ i = w.heap.size) → i < (w3.setCell ⟨p, 2, none⟩ (.int .i64 k)).heap.size := fun i e => by
        rcases e with e | e
        · exact Nat.lt_of_lt_of_le (h.lt i e) F4.size
        · subst e; simpa using hs3
      refine ⟨fun i => Z i ∨ i = w.heap.size, ⟨some w.heap.size, k, k, L3.set2 k, .inr ⟨w.heap.size, rfl, ?_⟩, fun _ => ⟨rfl, rfl⟩, .inl h.zp, fun B e => ?_, hlt⟩, fun i e => .inl e, fun i e => ?_, hlt, F4⟩
      · exact ((O3.carry (S := fun i => i = p) (Fr.setCell (S := fun i => i = p) (Fr.refl _ _) (p := ⟨p, 2, none⟩) rfl _) hne).same fun z => (lk_one k z).symm).count rfl
      · cases e; exact ⟨.inr rfl, hne⟩
      · rcases e with e | e
        · exact .inl e
        · exact .inr (by omega)
    have c0 := L1.c0
    have c1 := L1.c1
    have f1 := L1.fz
    have c0' := L2.c0
    have c2 := L3.c2
    have f3 := L3.fz
    have hmm := @run_makeMap Tryz.prog
    clear h L1 L2 O2 O3 F3 L3 F4 hs3 ok hk hwf h1
    go_enter Tryz.func138, Tryz.ntmps138
    go_wp2_with fail
    refine H1.out.mono ?_
    rintro e w1 ⟨rfl, hw⟩
    obtain rfl := hw.symm
    go_wp2_with fail
    refine H2.out.mono ?_
    rintro e w1 ⟨rfl, hw⟩
    obtain rfl := hw.symm
    go_wp2
    go_ret
    exact ⟨by simp, HR.out⟩
  | cons y r =>
    have hne : L ≠ [] := by rw [hL]; simp
    have hn0 : (L.length : Int) ≠ 0 := by rw [hL]; simp; omega
    rw [← hL]
    clear hL
    obtain ⟨rfl, rfl⟩ := h.ends hne
    rcases h.o with ⟨_, e⟩ | ⟨B, rfl, O⟩
    · exact (hne e).elim
    obtain ⟨zB, hBp⟩ := h.zm B rfl
    have hla := ok.last
    have F0 : Fr (fun _ => False) w w.drew := (Fr.refl _ _).drew
    obtain ⟨w1, hrun1, O1, F1⟩ := (O.carry F0 id).store (by unfold maxLen; omega) (wf_small hla.1 hla.2) hwf
    rw [lk_some, decide_eq_true (liL_mem hne), if_pos rfl] at O1
    obtain ⟨w2, hrun2, O2, F2⟩ := O1.tight.store (by unfold maxLen; omega) hwf (wf_small (x := -1) (by decide) (by decide))
    have hkl : k ≠ liL L := fun e => h1 (e ▸ liL_mem hne)
    rw [if_neg hkl, lk_some, decide_eq_false h1, if_neg (by simp)] at O2
    have L0 := h.c.carry F0 id
    have L1 := L0.carry F1 (fun e => hBp e.symm)
    have L2 := L1.carry F2 (fun e => hBp e.symm)
    have F3 : Fr Z w (w2.setCell ⟨p, 2, none⟩ (.int .i64 k)) := Fr.setCell (Fr.trans' (Fr.trans' (F0.mono fun _ _ e => e.elim) F1 fun i _ e => e ▸ zB) F2 fun i _ e => e ▸ zB) (p := ⟨p, 2, none⟩) h.zp _
    have HR : Hid (∃ Z', Lm p (L ++ [k]) (w2.setCell ⟨p, 2, none⟩ (.int .i64 k)) Z' ∧ Gw w (w2.setCell ⟨p, 2, none⟩ (.int .i64 k)) Z Z') := by
      refine ⟨Z, ⟨some B, liF L, k, L2.set2 k, .inr ⟨B, rfl, ?_⟩, fun _ => ⟨(liF_app hne _).symm, (liL_snoc _ _).symm⟩, h.zp, h.zm, fun i hi => Nat.lt_of_lt_of_le (h.lt i hi) F3.size⟩, Gw.same h.lt F3⟩
      exact ((O2.carry (S := fun i => i = p) (Fr.setCell (S := fun i => i = p) (Fr.refl _ _) (p := ⟨p, 2, none⟩) rfl _) hBp).same fun z => (lk_snoc ok.nd hne h1 z).symm).count (by simp)
    have c0 := L0.c0
    have c2 := L0.c2
    have c10 := L1.c0
    have c12 := L1.c2
    have c22 := L2.c2
    have f2 := L2.fz
    clear h O O1 O2 F0 F1 F2 F3 L0 L1 L2 ok hk hwf h1 hla hkl hne
    generalize liL L = la at *
    generalize L.length = NL at *
    go_enter Tryz.func138, Tryz.ntmps138
    go_wp2_with fail
    refine H1.out.mono ?_
    rintro e w1 ⟨rfl, hw⟩
    obtain rfl := hw.symm
    go_wp2_with fail
    refine H2.out.mono ?_
    rintro e w1 ⟨rfl, hw⟩
    obtain rfl := hw.symm
    go_wp2_with fail
    go_region_held3 (fun w' => w'.cell? ⟨p, 0, none⟩ = some (.map (some B)) ∧ w'.cell? ⟨p, 2, none⟩ = some (.int .i64 la)) (first | go_keep | exact ⟨by assumption, by assumption⟩) (fail)
    go_wp2
    go_ret
    exact ⟨by simp, HR.out⟩
/-- Numbers are left in its map. -/
theorem Ln.out {L' : List Int} {w' : World} {B n cnt : Nat} {fi la fi' la' : Int} (h : Ln p L w Z (some B) fi la) (c : Lw w' p (some B) fi' la') (o : Oi w' B n (lk L') cnt) (hc : cnt = L'.length) (ends : L' ≠ [] → fi' = liF L' ∧ la' = liL L') (f : Fr Z w w') : ∃ Z', Lm p L' w' Z' ∧ Gw w w' Z Z' :=
  ⟨Z, ⟨some B, fi', la', c, .inr ⟨B, rfl, o.count hc⟩, ends, h.zp, h.zm, fun i hi => Nat.lt_of_lt_of_le (h.lt i hi) f.size⟩, Gw.same h.lt f⟩
theorem split_one {k : Int} : ∀ {a b c d : List Int}, a ++ k :: b = c ++ k :: d → k ∉ a → k ∉ c → a = c ∧ b = d
  | [], b, [], d, h, _, _ => ⟨rfl, by simpa using h⟩
  | [], b, x :: c, d, h, _, h2 => by simp at h h2; exact (h2.1 h.1).elim
  | x :: a, b, [], d, h, h1, _ => by simp at h h1; exact (h1.1 h.1.symm).elim
  | x :: a, b, y :: c, d, h, h1, h2 => by
    simp at h h1 h2
    obtain ⟨e1, e2⟩ := split_one (k := k) h.2 h1.2 h2.2
    exact ⟨by rw [h.1, e1], e2⟩
set_option maxHeartbeats 2000000 in
set_option maxRecDepth 20000 in
theorem n_remove (h : Lm p L w Z) (ok : LiOk L) (hl : L.length ≤ 5000) {k : Int} (hk : I64 k) : Calls Tryz.prog 134 #[.pointer (some ⟨p, 0, none⟩), .int .i64 k] w fun e w' => e = .returned (.int .i64 (liRE L k)) ∧ ∃ Z', Lm p (liR L k) w' Z' ∧ Gw w w' Z Z' := by
  obtain ⟨m, fi, la, h⟩ := h
  have H1 := hid (m_has h.c h.o hk)
  unfold liRE
  by_cases h1 : k ∈ L
  case neg =>
    have HR : Hid (∃ Z', Lm p L w Z' ∧ Gw w w Z Z') := ⟨Z, ⟨m, fi, la, h⟩, Gw.same h.lt (Fr.refl _ _)⟩
    rw [if_neg h1, liR_none h1]
    rw [decide_eq_false h1] at H1
    clear h ok hk h1
    go_enter Tryz.func134, Tryz.ntmps134
    go_wp2_with fail
    refine H1.out.mono ?_
    rintro e w1 ⟨rfl, hw⟩
    obtain rfl := hw.symm
    go_wp2
    go_ret
    exact ⟨by simp, HR.out⟩
  rw [if_pos h1]
  rw [decide_eq_true h1] at H1
  obtain ⟨pre, post, hL⟩ := List.append_of_mem h1
  have nd := ok.nd
  rw [hL] at nd
  have hkp : k ∉ pre := fun e => (List.nodup_append.1 nd).2.2 k e k (by simp) rfl
  have HA : Hid (∀ w0, Fr (fun _ => False) w w0 → Calls Tryz.prog 187 #[.pointer (some ⟨p, 0, none⟩), .int .i64 k] w0 fun e w' => e = .returned (.int .i64 (liL pre)) ∧ Fr (fun _ => False) w0 w') := fun w0 f => by
    refine (m_ahead (h.c.carry f id) (h.o.carry f fun _ _ => id) ok hl (fun e => (h.ends e).1) h1).mono ?_
    rintro e w' ⟨⟨pre', post', hL', he⟩, hf⟩
    have hkp' : k ∉ pre' := fun e => by
      have := ok.nd
      rw [hL'] at this
      exact (List.nodup_append.1 this).2.2 k e k (by simp) rfl
    obtain ⟨rfl, rfl⟩ := split_one (hL.symm.trans hL') hkp hkp'
    exact ⟨he, hf⟩
  have HC : Hid (∀ w0, Fr (fun _ => False) w w0 → w0.cell? ⟨p, 0, none⟩ = some (.map m)) := fun w0 f => (h.c.carry f id).c0
  have HLK : Hid (∀ w0, Fr (fun _ => False) w w0 → (Instr.lookup 114 (.map m) (.int .i64 k) false).run Tryz.prog w0 = .ok (.int .i64 (liF post)) w0) := fun w0 f => by
    have := (h.o.carry f fun _ _ => id).look hk
    rw [hL, lk_at hkp, Option.getD_some] at this
    exact this
  have HH := hid h
  have HOK := hid ok
  have HND := hid (And.intro hL (And.intro nd hkp))
  rw [show liR L k = pre ++ post by rw [hL]; exact liR_split nd]
  clear h ok h1 hL nd hkp
  go_enter Tryz.func134, Tryz.ntmps134
  go_wp2_with fail
  refine H1.out.mono ?_
  rintro e w1 ⟨rfl, hw⟩
  obtain rfl := hw.symm
  have c0 := HC.out w.drew (Fr.refl _ _).drew
  have k0 := HLK.out w.drew (Fr.refl _ _).drew
  go_wp2_with fail
  go_region_held3 (fun w' => w'.cell? ⟨p, 0, none⟩ = some (.map m) ∧ (Instr.lookup 114 (.map m) (.int .i64 k) false).run Tryz.prog w' = .ok (.int .i64 (liF post)) w') (first | go_keep | exact ⟨by assumption, by assumption⟩) (first | (go_at_call 187; refine (HA.out _ (Fr.refl _ _).drew).mono ?_; rintro e w1 ⟨rfl, hf1⟩; have F1 := hid (Fr.trans ((Fr.refl (fun _ => False) w).drew) hf1); have b0 := HC.out w1 F1.out; have k1 := HLK.out w1 F1.out; clear hf1))
  all_goals
    clear HA HC HLK H1 c0 k0 k1
    obtain ⟨hL, nd, hkp⟩ := HND.out
    have ok := HOK.out
    have hne : L ≠ [] := by rw [hL]; simp
    have h := HH.out
    obtain ⟨rfl, rfl⟩ := h.ends hne
    rcases h.o with ⟨_, e⟩ | ⟨B, rfl, O⟩
    · exact (hne e).elim
    obtain ⟨zB, hBp⟩ := h.zm B rfl
    have HO1 := hid (O.carry F1.out id)
    have hwf := wf_small hk.1 hk.2
    obtain ⟨w2, hdel, O2, F2⟩ := HO1.out.drop hwf 0
    rw [lk_some, decide_eq_true (by rw [hL]; simp), if_pos rfl] at O2
    have L2 := (h.c.carry F1.out id).carry F2 (fun e => hBp e.symm)
    have FF : Fr Z w w2 := Fr.trans' (F1.out.mono fun _ _ e => e.elim) F2 fun i _ e => e ▸ zB
    have hlen : L.length - 1 = (pre ++ post).length := by rw [hL, List.length_append, List.length_append, List.length_cons]; omega
    have okp : LiOk pre := by rw [hL] at ok; exact ok.left
    have okq : LiOk post := by rw [hL] at ok; have := ok.right; exact LiOk.right (pre := [k]) this
    have hfi : pre ≠ [] → liF L = liF (pre ++ post) := fun e => by rw [hL, liF_app e, liF_app e]
    have hla : post ≠ [] → liL L = liL (pre ++ post) := fun e => by rw [hL, liL_app _ e, show pre ++ k :: post = (pre ++ [k]) ++ post by simp, liL_app _ e]
    have hqn := okq.first_none
    have f0 := L2.fz
    have c1 := L2.c1
    have c2 := L2.c2
    have c0 := L2.c0
    have zp := h.zp
    have hS : ∀ {w1 : World} {n cnt : Nat} {f : Int → Option Int} (o : Oi w1 B n f cnt) (j : Nat) (v : Value), Oi (w1.setCell ⟨p, j, none⟩ v) B n f cnt := fun o j v => o.carry (S := fun i => i = p) (Fr.setCell (S := fun i => i = p) (Fr.refl _ _) (p := ⟨p, j, none⟩) rfl _) hBp
    by_cases hp : pre = []
    · subst hp
      have O3 : Oi (w2.setCell ⟨p, 1, none⟩ (.int .i64 (liF post))) B L.length (lk ([] ++ post)) (L.length - 1) := hS (O2.same fun z => by rw [lk_less nd z, if_neg (fun e : ([] : List Int) ≠ [] ∧ z = liL [] => e.1 rfl), ← hL]) 1 _
      by_cases hq : post = []
      · subst hq
        have HR : Hid (∃ Z', Lm p ([] ++ []) ((w2.setCell ⟨p, 1, none⟩ (.int .i64 (-1))).setCell ⟨p, 2, none⟩ (.int .i64 (-1))) Z' ∧ Gw w ((w2.setCell ⟨p, 1, none⟩ (.int .i64 (-1))).setCell ⟨p, 2, none⟩ (.int .i64 (-1))) Z Z') := h.out ((L2.set1 _).set2 _) (hS O3 2 _) hlen (fun e => (e rfl).elim) (Fr.setCell (Fr.setCell FF (p := ⟨p, 1, none⟩) zp _) (p := ⟨p, 2, none⟩) zp _)
        clear HH HOK HND hL nd hkp ok hne h O HO1 O2 F2 F1 L2 FF hlen okp okq hfi hla O3 hS zB zp
        go_wp2
        go_ret
        exact ⟨by simp, HR.out⟩
      · have HR := hid (h.out (L2.set1 _) O3 hlen (fun e => ⟨rfl, hla hq⟩) (Fr.setCell FF (p := ⟨p, 1, none⟩) zp _))
        have hq1 : liF post ≠ -1 := fun e => hq (hqn.1 e)
        clear HH HOK HND hL nd hkp ok hne h O HO1 O2 F2 F1 L2 FF hlen okp okq hfi hla O3 hS zB zp hqn
        go_wp2
        go_ret
        exact ⟨by simp, HR.out⟩
    · have hpn : liL pre ≠ -1 := fun e => hp (okp.last_none.1 e)
      have hpw := okp.last
      have hqw := okq.front
      have hmem : liL pre ∈ pre := liL_mem hp
      obtain ⟨w3, hrun, O3, F3⟩ := O2.tight.store (by unfold maxLen; omega) (wf_small hpw.1 hpw.2) (wf_small hqw.1 hqw.2)
      rw [if_neg (fun e : liL pre = k => hkp (e ▸ hmem)), lk_some, decide_eq_true (by rw [hL]; exact List.mem_append_left _ hmem), if_pos rfl] at O3
      have O4 : Oi w3 B (L.length - 1 + 1) (lk (pre ++ post)) (L.length - 1) := O3.same fun z => by
        rw [lk_less nd z, ← hL]
        by_cases e : z = liL pre
        · rw [if_pos e, if_pos ⟨hp, e⟩]
        · rw [if_neg e, if_neg (fun m : pre ≠ [] ∧ z = liL pre => e m.2)]
      have L3 := L2.carry F3 (fun e => hBp e.symm)
      have FF3 : Fr Z w w3 := Fr.trans' FF F3 fun i _ e => e ▸ zB
      have c23 := L3.c2
      have f3 := L3.fz
      by_cases hq : post = []
      · subst hq
        have HR : Hid (∃ Z', Lm p (pre ++ []) (w3.setCell ⟨p, 2, none⟩ (.int .i64 (liL pre))) Z' ∧ Gw w (w3.setCell ⟨p, 2, none⟩ (.int .i64 (liL pre))) Z Z') := h.out (L3.set2 _) (hS O4 2 _) hlen (fun e => ⟨hfi hp, by rw [List.append_nil]⟩) (Fr.setCell FF3 (p := ⟨p, 2, none⟩) zp _)
        clear HH HOK HND hL nd hkp ok hne h O HO1 O2 F2 F1 L2 FF hlen okp okq hfi hla O3 O4 hS zB zp FF3 L3 F3 hmem hp hqn
        generalize liL pre = lp at *
        generalize hz : liF [] = z at *
        obtain rfl : z = -1 := hz.symm
        clear hz
        go_wp2
        go_ret
        exact ⟨by simp, HR.out⟩
      · have HR := hid (h.out L3 O4 hlen (fun e => ⟨hfi hp, hla hq⟩) FF3)
        have hq1 : liF post ≠ -1 := fun e => hq (hqn.1 e)
        clear HH HOK HND hL nd hkp ok hne h O HO1 O2 F2 F1 L2 FF hlen okp okq hfi hla O3 O4 hS zB zp FF3 L3 F3 hmem hp hqn hq
        generalize liL pre = lp at *
        generalize liF post = fp at *
        go_wp2
        go_ret
        exact ⟨by simp, HR.out⟩
theorem n_front (h : Lm p L w Z) (ok : LiOk L) : Calls Tryz.prog 72 #[.pointer (some ⟨p, 0, none⟩)] w fun e w' => e = .returned (.int .i64 (liF L)) ∧ Fr (fun _ => False) w w' := by
  have _ := ok
  obtain ⟨m, fi, la, h⟩ := h
  refine (m_front h.c h.o fun e => (h.ends e).1).mono ?_
  rintro e w' ⟨he, rfl⟩
  exact ⟨he, Fr.refl _ _⟩
end
end Go.Proofs.YtihaifnenjngpaaGreatDoor
