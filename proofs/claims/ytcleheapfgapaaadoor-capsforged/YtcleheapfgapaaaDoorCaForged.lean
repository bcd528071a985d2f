/-
  The walk of the law CapsForged.
-/
import Derived.Test.YtcleheapfgapaaaDoorCaOf
import Derived.Deep.RegionHeld3
namespace Go.Proofs.YtcleheapfgapaaaDoor
open Go.RowKit

set_option maxRecDepth 20000 in
set_option maxHeartbeats 4000000 in
theorem forged_no {t : Int} (h : ¬ (0 ≤ t ∧ t ≤ 7)) (v : Value) (b : Int) (w : World) (g : Gr w) : Calls Tryd.prog 5 #[.int .i64 t, v, .int .u64 b] w fun e w' => e = .returned (.bool true) ∧ Fr (fun _ => False) w w' := by
  have H1 := hid fun w => q_new_no (t := t) (n := 1) (fun x => h x.1) w
  have HA := hid fun w0 (f : Fr (fun _ => False) w w0) => awake_f w0 (g.fr f)
  clear h g
  go_enter Tryd.func5, Tryd.ntmps5
  go_wp2_with fail
  refine (H1.out _).mono ?_
  rintro e w1 ⟨rfl, f1⟩
  have F1 := hid f1
  clear f1 H1
  go_wp2_with fail
  refine (HA.out _ F1.out).mono ?_
  rintro e w2 ⟨rfl, f2⟩
  have F2 := hid (F1.out.trans f2)
  clear f2 F1
  go_wp2_with fail
  refine (HA.out _ F2.out).mono ?_
  rintro e w3 ⟨rfl, f3⟩
  have F3 := hid (F2.out.trans f3)
  clear f3 F2 HA
  go_wp2
  go_ret
  exact ⟨by simp, F3.out⟩
set_option maxRecDepth 20000 in
set_option maxHeartbeats 4000000 in
theorem forged_long {t : Int} (ht : 0 ≤ t ∧ t ≤ 7) (ad : Option Addr) (n cap : Nat) (hn : 300 < n) (hm : n ≤ 9223372036854775807) (b : Int) (w : World) (g : Gr w) : Calls Tryd.prog 5 #[.int .i64 t, .slice ad n cap, .int .u64 b] w fun e w' => e = .returned (.bool true) ∧ Fr (fun _ => False) w w' := by
  have HST := hid (Nw.start w g.pos)
  have H1 := hid fun w0 (nw : Nw w w0) => n_new (t := t) (n := 1) ⟨ht, by decide⟩ nw g
  have HA := hid fun w0 (f : Fr (fun _ => False) w w0) => awake_f w0 (g.fr f)
  clear g ht
  go_enter Tryd.func5, Tryd.ntmps5
  go_wp2_with fail
  refine (H1.out _ HST.out).mono ?_
  rintro e w1 ⟨a, Z1, rfl, _, h1, _⟩
  have K1 := hid h1
  clear h1 H1 HST
  go_wp2_with fail
  refine (HA.out _ K1.out.nw.fr).mono ?_
  rintro e w2 ⟨rfl, f2⟩
  have K2 := hid (K1.out.kept f2)
  clear f2 K1
  go_wp2_with fail
  refine (HA.out _ K2.out.nw.fr).mono ?_
  rintro e w3 ⟨rfl, f3⟩
  have K3 := hid (K2.out.kept f3)
  clear f3 K2 HA
  go_wp2
  go_ret
  exact ⟨by simp, K3.out.nw.fr⟩
set_option maxRecDepth 20000 in
set_option maxHeartbeats 4000000 in
theorem forged_yes {t : Int} (ht : 0 ≤ t ∧ t ≤ 7) (ad : Option Addr) (ops : List (Int × Int × Int × Int × Int)) (cap : Nat) (hn : ¬ 300 < ops.length) {b : Int} (b0 : 0 ≤ b) (b1 : b ≤ 18446744073709551615) (w : World) (hops : OpsAt w ad ops) (g : Gr w) : Calls Tryd.prog 5 #[.int .i64 t, .slice ad ops.length cap, .int .u64 b] w fun e w' => e = .returned (.bool true) ∧ Fr (fun _ => False) w w' := by
  have HST := hid (Nw.start w g.pos)
  have H1 := hid fun w0 (nw : Nw w w0) => n_new (t := t) (n := 1) ⟨ht, by decide⟩ nw g
  have HA := hid fun w0 (f : Fr (fun _ => False) w w0) => awake_f w0 (g.fr f)
  have HO := hid hops
  have HT := hid ht
  clear g ht hops
  go_enter Tryd.func5, Tryd.ntmps5
  go_wp2_with fail
  refine (H1.out _ HST.out).mono ?_
  rintro e w1 ⟨a, Z1, rfl, _, h1, _⟩
  have K1 := hid h1
  clear h1 H1 HST
  go_wp2_with fail
  refine (HA.out _ K1.out.nw.fr).mono ?_
  rintro e w2 ⟨rfl, f2⟩
  have K2 := hid (K1.out.kept f2)
  clear f2 K1
  go_wp2
  go_loopw [9, 11, 12, 40] (fun y _ _ i wr => ∃ (j : Nat) (Z : Nat → Prop) (c : Ct) (l : List Int), j ≤ ops.length ∧ i = .int .i64 j ∧ Kn w wr a Z c ∧ Gv w wr Z y l ∧ l.length ≤ j ∧ Known c l ∧ c.Ok) (fun _ _ _ i _ => ops.length - (intOf i).toNat)
  case atStart => exact ⟨0, Z1, _, [], by omega, rfl, K2.out, Gv.fresh _ _ _, by simp, (fun x hx => by cases hx), K2.out.m.ok⟩
  case round =>
    obtain ⟨j, Z, c, l, hj, rfl, hK, hG, hll, hKn, hOk⟩ := hrel
    have K := hid hK
    have G := hid hG
    have KN0 := hid hKn
    have OK0 := hid hOk
    clear hK hG hKn hOk K2
    by_cases hlt : j < ops.length
    · obtain ⟨bb, off, rfl, hbb, p1, p2, p3, p4, p5, hB, -⟩ := HO.out.fr K.out.nw.fr j hlt
      generalize hop : ops[j] = op5 at p1 p2 p3 p4 p5 hB
      obtain ⟨kd, xa, xr, xp, xt⟩ := op5
      simp only at p1 p2 p3 p4 p5 hB
      clear hop
      have HB := hid hB
      have Kb1 := hid (K.out.alloc (.cells #[.int .i64 kd, .int .i64 xa, .int .i64 xr, .int .i64 xp, .int .u64 xt] 34))
      have Gb1 := hid (G.out.alloc (.cells #[.int .i64 kd, .int .i64 xa, .int .i64 xr, .int .i64 xp, .int .u64 xt] 34))
      have Ob1 := hid (Ob.new wr kd xa xr xp xt)
      have q0 := Ob1.out.c0
      have q1 := Ob1.out.c1
      have q2 := Ob1.out.c2
      have q3 := Ob1.out.c3
      have q4 := Ob1.out.c4
      clear hB K G
      by_cases k1 : kd = 1
      · subst k1
        have H2 := hid (n_grant Kb1.out xa)
        have KN := hid (KN0.out.gave (grS_gave OK0.out xa))
        have C3 := hid (grS_gave OK0.out xa).ok
        have HAV := hid (grV_range (c := c) (x := xa))
        clear KN0 OK0
        generalize grS c xa = c2 at *
        generalize grV c xa = av at *
        go_wp2_with fail
        refine H2.out.mono ?_
        rintro e w3 ⟨Z3, rfl, h3, hz3, f3⟩
        have K3 := hid h3
        have G3 := hid (Gb1.out.on f3 hz3)
        clear h3 hz3 f3 H2 Kb1 Gb1 Ob1 p1 p2 p3 p4 p5 q0 q1 q2 q3 q4
        by_cases hav : av = 0
        · subst hav
          have KN2 : Hid (Known c2 l) := by have := KN.out; rw [if_pos rfl] at this; exact this
          clear KN
          go_wp2
          go_roundw
          case rel => exact ⟨j + 1, Z3, c2, l, by omega, by go_num, K3.out, G3.out, by omega, KN2.out, C3.out⟩
          case measure => simp [intOf]; omega
        · have KN2 : Hid (Known c2 (l ++ [av])) := by have := KN.out; rw [if_neg hav] at this; exact this
          have hb0 : (av == 0) = false := by simpa using hav
          clear KN hav
          go_wp2_with (at_builtin; refine push_g rfl (.tmp 75) (.tmp 77) rfl G3.out K3.out HAV.out (by omega) rfl rfl ?_; intro g4 cap4 w4 hG4 hK4 hF4 hS4; have G4 := hid hG4; have K4 := hid hK4; clear hG4 hK4 hF4 hS4)
          go_roundw
          case rel => exact ⟨j + 1, Z3, c2, l ++ [av], by omega, by go_num, K4.out, by simpa using G4.out, by simp; omega, KN2.out, C3.out⟩
          case measure => simp [intOf]; omega
      · have e1 : (kd == 1) = false := by simpa using k1
        by_cases k3 : kd = 3
        · subst k3
          have HOF := hid fun (w' : World) (y : Value) (h : Gv w w' Z y l) => of_any h (by omega) 3 xa xr xp HB.out
          have HRE := hid fun (w' : World) (h : Kn w w' a Z c) (hb : Int) (h0 : 0 ≤ hb) (h1 : hb ≤ 18446744073709551615) => n_restrict h h0 h1 xr
          have HGV := hid fun hb => reS_gave OK0.out hb xr
          have HRG := hid fun hb => reV_range (c := c) (b := hb) (r := xr)
          clear OK0 k1
          go_wp2
          clear p1 p2 p3 p4 p5
          generalize wr.alloc (.cells #[.int .i64 3, .int .i64 xa, .int .i64 xr, .int .i64 xp, .int .u64 xt] 34) = wb at *
          generalize wr.heap.size = B at *
          go_region_with (first | (go_at_call 12; refine (HOF.out _ _ (Gb1.out.kept (Fr.refl _ _).drew)).mono ?_; rintro e w5 ⟨⟨hb, rfl, hb0, hb1⟩, f5⟩; have K5 := hid (Kb1.out.kept ((Fr.refl (fun _ => False) wb).drew.trans f5)); have G5 := hid (Gb1.out.kept ((Fr.refl (fun _ => False) wb).drew.trans f5)); have Ob5 := hid (Ob1.out.kept ((Fr.refl (fun _ => False) wb).drew.trans f5)); have q25 := Ob5.out.c2; clear f5) | (go_at_call 17; refine (HRE.out _ K5.out hb hb0 hb1).mono ?_; rintro e w3 ⟨Z3, rfl, h3, hz3, f3⟩; have K3 := hid h3; have G3 := hid (G5.out.on f3 hz3); clear h3 hz3 f3))
          all_goals
            have KN := hid (KN0.out.gave (HGV.out hb))
            have C3 := hid (HGV.out hb).ok
            have HAV := hid (HRG.out hb)
            clear KN0 HGV HRG HRE HOF Ob5 q25 K5 G5 hb0 hb1 q0 q1 q2 q3 q4 Ob1 Kb1 Gb1
            generalize reS c hb xr = c2 at *
            generalize reV c hb xr = av at *
            by_cases hav : av = 0
            · subst hav
              have KN2 : Hid (Known c2 l) := by have := KN.out; rw [if_pos rfl] at this; exact this
              clear KN
              go_wp2
              go_roundw
              case rel => exact ⟨j + 1, Z3, c2, l, by omega, by go_num, K3.out, G3.out, by omega, KN2.out, C3.out⟩
              case measure => simp [intOf]; omega
            · have KN2 : Hid (Known c2 (l ++ [av])) := by have := KN.out; rw [if_neg hav] at this; exact this
              have hb0 : (av == 0) = false := by simpa using hav
              clear KN hav
              go_wp2_with (at_builtin; refine push_g rfl (.tmp 75) (.tmp 77) rfl G3.out K3.out HAV.out (by omega) rfl rfl ?_; intro g4 cap4 w4 hG4 hK4 hF4 hS4; have G4 := hid hG4; have K4 := hid hK4; clear hG4 hK4 hF4 hS4)
              go_roundw
              case rel => exact ⟨j + 1, Z3, c2, l ++ [av], by omega, by go_num, K4.out, by simpa using G4.out, by simp; omega, KN2.out, C3.out⟩
              case measure => simp [intOf]; omega
        · have e3 : (kd == 3) = false := by simpa using k3
          by_cases k4 : kd = 4
          · subst k4
            have H2 := hid (n_revoke Kb1.out xa)
            have KN2 := hid (KN0.out.revoke xa)
            have C3 := hid (rvS_ok OK0.out xa)
            clear KN0 OK0 k1 k3
            generalize rvS c xa = c2 at *
            generalize ((rvN c xa : Nat) : Int) = rn at *
            go_wp2_with fail
            refine H2.out.mono ?_
            rintro e w3 ⟨Z3, rfl, h3, hz3, f3⟩
            have K3 := hid h3
            have G3 := hid (Gb1.out.on f3 hz3)
            clear h3 hz3 f3 H2 Kb1 Gb1 Ob1 p1 p2 p3 p4 p5 q0 q1 q2 q3 q4
            go_wp2
            go_roundw
            case rel => exact ⟨j + 1, Z3, c2, l, by omega, by go_num, K3.out, G3.out, by omega, KN2.out, C3.out⟩
            case measure => simp [intOf]; omega
          · have e4 : (kd == 4) = false := by simpa using k4
            clear k1 k3 k4
            go_wp2
            go_roundw
            case rel => exact ⟨j + 1, Z, c, l, by omega, by go_num, Kb1.out, Gb1.out, by omega, KN0.out, OK0.out⟩
            case measure => simp [intOf]; omega
    · obtain rfl : j = ops.length := by omega
      obtain ⟨yad, ycap, rfl, hyc⟩ := G.out.form
      have HY := hid hyc
      clear hyc HO
      go_wp2
      go_loopw [13, 15, 82] (fun y _ i w5 => ∃ q : Nat, q ≤ l.length ∧ i = .int .i64 q ∧ y = .bool (decide (b ∈ l.take q)) ∧ w5 = wr) (fun _ _ i _ => l.length - (intOf i).toNat)
      case atStart => exact ⟨0, by omega, rfl, by simp, rfl⟩
      case round =>
        obtain ⟨q, hq, rfl, rfl, hw5⟩ := hrel
        obtain rfl := hw5.symm
        clear hw5
        by_cases hqt : q < l.length
        · obtain ⟨gg, rfl, hgc⟩ := HY.out q hqt
          have hst : (b ∈ l.take (q + 1)) ↔ (b ∈ l.take q ∨ l[q] = b) := by
            rw [List.take_add_one, List.getElem?_eq_getElem hqt]
            simp only [Option.toList_some, List.mem_append, List.mem_singleton]
            constructor
            · rintro (h | h)
              · exact .inl h
              · exact .inr h.symm
            · rintro (h | h)
              · exact .inl h
              · exact .inr h.symm
          have HST2 := hid hst
          clear hst
          by_cases hb1 : b ∈ l.take q
          · have HE : Hid (decide (b ∈ l.take (q + 1)) = true) := decide_eq_true (HST2.out.2 (.inl hb1))
            rw [decide_eq_true hb1]
            clear hb1 HST2
            generalize l[q] = xq at *
            go_wp2
            go_roundw
            case rel => exact ⟨q + 1, by omega, by go_num, by rw [HE.out], trivial⟩
            case measure => simp [intOf]; omega
          · rw [decide_eq_false hb1]
            by_cases hx : l[q] = b
            · have HE : Hid (decide (b ∈ l.take (q + 1)) = true) := decide_eq_true (HST2.out.2 (.inr hx))
              have hbq : (l[q] == b) = true := by simpa using hx
              clear hb1 HST2 hx
              generalize l[q] = xq at *
              go_wp2
              go_roundw
              case rel => exact ⟨q + 1, by omega, by go_num, by rw [HE.out], trivial⟩
              case measure => simp [intOf]; omega
            · have HE : Hid (decide (b ∈ l.take (q + 1)) = false) := decide_eq_false fun h => by
                rcases HST2.out.1 h with h | h
                · exact hb1 h
                · exact hx h
              have hbq : (l[q] == b) = false := by simpa using hx
              clear hb1 HST2 hx
              generalize l[q] = xq at *
              go_wp2
              go_roundw
              case rel => exact ⟨q + 1, by omega, by go_num, by rw [HE.out], trivial⟩
              case measure => simp [intOf]; omega
        · obtain rfl : q = l.length := by omega
          rw [List.take_length]
          have H2 := hid (n_find K.out b0 b1 (q := 0) (by omega))
          have H3 := hid fun (w' : World) (Z : Nat → Prop) (h : Kn w w' a Z c) => n_count h
          have H4 := hid fun (w' : World) (h : Kn w w' a Z c) => n_restrict h b0 b1 1
          by_cases hbl : b ∈ l
          · rw [decide_eq_true hbl]
            clear hbl KN0 OK0
            generalize fiV c b 0 = fv at *
            generalize fiE c b 0 = fe at *
            generalize reV c b 1 = rv at *
            generalize reE c b 1 = re at *
            generalize reS c b 1 = rs at *
            go_wp2_with fail
            refine H2.out.mono ?_
            rintro e w5 ⟨rfl, h5, _⟩
            have K5 := hid h5
            clear h5 H2 K
            go_wp2_with fail
            refine (H3.out _ _ K5.out).mono ?_
            rintro e w6 ⟨rfl, h6, _⟩
            have K6 := hid h6
            clear h6 H3 K5
            go_wp2_with fail
            refine (H4.out _ K6.out).mono ?_
            rintro e w7 ⟨Z7, rfl, h7, _, _⟩
            have K7 := hid h7
            clear h7 H4 K6
            go_wp2
            go_ret
            exact ⟨by simp, K7.out.nw.fr⟩
          · rw [decide_eq_false hbl]
            have hlk := KN0.out.no hbl
            have e1 : fiE c b 0 = 5 := by unfold fiE; rw [hlk]
            have e2 : reE c b 1 = 5 ∧ reS c b 1 = c := by unfold reE reS; rw [hlk]; exact ⟨rfl, rfl⟩
            rw [e1] at H2
            rw [e2.1, e2.2] at H4
            clear hbl hlk e1 e2 KN0 OK0
            generalize fiV c b 0 = fv at *
            generalize reV c b 1 = rv at *
            generalize (c.L.length : Int) = cl at *
            go_wp2_with fail
            refine H2.out.mono ?_
            rintro e w5 ⟨rfl, h5, _⟩
            have K5 := hid h5
            clear h5 H2 K
            go_wp2_with fail
            refine (H3.out _ _ K5.out).mono ?_
            rintro e w6 ⟨rfl, h6, _⟩
            have K6 := hid h6
            clear h6 K5
            go_wp2_with fail
            refine (H4.out _ K6.out).mono ?_
            rintro e w7 ⟨Z7, rfl, h7, _, _⟩
            have K7 := hid h7
            clear h7 H4 K6
            have H9 := hid (H3.out _ _ K7.out)
            go_wp2_with fail
            refine H9.out.mono ?_
            rintro e w8 ⟨rfl, h8, _⟩
            have K8 := hid h8
            clear h8 H9 K7
            go_wp2
            go_ret
            exact ⟨by simp, K8.out.nw.fr⟩
theorem forged_walk (t : Int) (v : Value) {b : Int} (b0 : 0 ≤ b) (b1 : b ≤ 18446744073709551615) (w : World) (g : Gr w) (h : ∃ ad cap l, v = .slice ad (List.length l) cap ∧ OpsAt w ad l ∧ l.length ≤ maxLen) : Calls Tryd.prog 5 #[.int .i64 t, v, .int .u64 b] w fun e w' => e = .returned (.bool true) ∧ Fr (fun _ => False) w w' := by
  by_cases ht : 0 ≤ t ∧ t ≤ 7
  · obtain ⟨ad, cap, l, rfl, ho, hm⟩ := h
    by_cases hn : 300 < l.length
    · exact forged_long ht ad l.length cap hn hm b w g
    · exact forged_yes ht ad l cap hn b0 b1 w ho g
  · exact forged_no ht v b w g
end Go.Proofs.YtcleheapfgapaaaDoor
