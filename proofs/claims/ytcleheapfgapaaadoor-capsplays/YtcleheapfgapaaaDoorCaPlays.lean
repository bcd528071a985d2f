/-
  The walk of the law CapsPlays.
-/
import Derived.Test.YtcleheapfgapaaaDoorCaBoth
import Derived.Deep.RegionHeld3
namespace Go.Proofs.YtcleheapfgapaaaDoor
open Go.RowKit

set_option maxRecDepth 20000 in
set_option maxHeartbeats 8000000 in
theorem plays_no {t n : Int} (h : ¬ ((0 ≤ t ∧ t ≤ 7) ∧ 1 ≤ n ∧ n ≤ 17592186044416)) (v : Value) (w : World) (g : Gr w) : Calls Tryd.prog 3 #[.int .i64 t, .int .i64 n, v] w fun e w' => e = .returned (.bool true) ∧ Fr (fun _ => False) w w' := by
  have H1 := hid fun w => q_new_no h w
  have H2 := hid fun w => e_new_no h w
  have HA := hid fun w0 (f : Fr (fun _ => False) w w0) => awake_f w0 (g.fr f)
  clear h g
  go_enter Tryd.func3, Tryd.ntmps3
  go_wp2_with fail
  refine (H1.out _).mono ?_
  rintro e w1 ⟨rfl, f1⟩
  have F1 := hid f1
  clear f1 H1
  go_wp2_with fail
  refine (H2.out _).mono ?_
  rintro e w2 ⟨rfl, hw⟩
  obtain rfl := hw.symm
  clear hw H2
  go_wp2_with fail
  refine (HA.out _ F1.out).mono ?_
  rintro e w3 ⟨rfl, f3⟩
  have F3 := hid (F1.out.trans f3)
  clear f3 F1 HA
  go_wp2
  go_ret
  exact ⟨by simp, F3.out⟩
set_option maxRecDepth 20000 in
set_option maxHeartbeats 8000000 in
theorem plays_long {t n : Int} (h : ((0 ≤ t ∧ t ≤ 7) ∧ 1 ≤ n ∧ n ≤ 17592186044416)) (ad : Option Addr) (m cap : Nat) (hm : 400 < m) (hx : m ≤ 9223372036854775807) (w : World) (g : Gr w) : Calls Tryd.prog 3 #[.int .i64 t, .int .i64 n, .slice ad m cap] w fun e w' => e = .returned (.bool true) ∧ Fr (fun _ => False) w w' := by
  have HST := hid (Nw.start w g.pos)
  have H1 := hid fun w0 (nw : Nw w w0) => n_new h nw g
  have H2 := hid fun w => e_new h w
  have HA := hid fun w0 (f : Fr (fun _ => False) w w0) => awake_f w0 (g.fr f)
  have HOK := hid (newC_ok h)
  clear g h
  go_enter Tryd.func3, Tryd.ntmps3
  go_wp2_with fail
  refine (H1.out _ HST.out).mono ?_
  rintro e w1 ⟨a, Z1, rfl, _, h1, _⟩
  have K1 := hid h1
  clear h1 H1 HST
  go_wp2_with fail
  refine (H2.out _).mono ?_
  rintro e w2 ⟨rfl, h2, f2⟩
  have R2 := hid h2
  have F2 := hid f2
  clear h2 f2 H2
  go_wp2_with fail
  refine (HA.out _ (K1.out.nw.fr.trans F2.out)).mono ?_
  rintro e w3 ⟨rfl, f3⟩
  have P3 := hid (Pb.start K1.out R2.out F2.out f3)
  clear f3 F2 R2 K1 HA
  go_wp2
  go_ret
  exact ⟨by simp, P3.out.k.nw.fr⟩
set_option maxRecDepth 20000 in
set_option maxHeartbeats 8000000 in
theorem plays_yes {t n : Int} (h : ((0 ≤ t ∧ t ≤ 7) ∧ 1 ≤ n ∧ n ≤ 17592186044416)) (ad : Option Addr) (ops : List (Int × Int × Int × Int × Int)) (cap : Nat) (hn : ¬ 400 < ops.length) (w : World) (hops : OpsAt w ad ops) (g : Gr w) : Calls Tryd.prog 3 #[.int .i64 t, .int .i64 n, .slice ad ops.length cap] w fun e w' => e = .returned (.bool true) ∧ Fr (fun _ => False) w w' := by
  have HO := hid hops
  have HST := hid (Nw.start w g.pos)
  have H1 := hid fun w0 (nw : Nw w w0) => n_new h nw g
  have H2 := hid fun w => e_new h w
  have HA := hid fun w0 (f : Fr (fun _ => False) w w0) => awake_f w0 (g.fr f)
  have HOK := hid (newC_ok h)
  clear g h hops
  go_enter Tryd.func3, Tryd.ntmps3
  go_wp2_with fail
  refine (H1.out _ HST.out).mono ?_
  rintro e w1 ⟨a, Z1, rfl, _, h1, _⟩
  have K1 := hid h1
  clear h1 H1 HST
  go_wp2_with fail
  refine (H2.out _).mono ?_
  rintro e w2 ⟨rfl, h2, f2⟩
  have R2 := hid h2
  have F2 := hid f2
  clear h2 f2 H2
  go_wp2_with fail
  refine (HA.out _ (K1.out.nw.fr.trans F2.out)).mono ?_
  rintro e w3 ⟨rfl, f3⟩
  have P3 := hid (Pb.start K1.out R2.out F2.out f3)
  clear f3 F2 R2 K1 HA
  generalize newC t n = c0 at *
  generalize w1.heap.size = r at *
  go_wp2
  go_loopw [7, 8, 10, 11, 13, 14, 15, 16, 17, 18, 19, 55] (fun cp _ _ y _ _ _ _ _ _ _ i wr => ∃ (j a : Nat) (Z : Nat → Prop) (v : Value) (c : Ct) (l : List Int), j ≤ ops.length ∧ i = .int .i64 j ∧ cp = .pointer (some ⟨a, 0, none⟩) ∧ Pb w wr a Z r v c c y l ∧ l.length ≤ j ∧ c.Ok) (fun _ _ _ _ _ _ _ _ _ _ _ i _ => ops.length - (intOf i).toNat)
  case atStart => exact ⟨0, a, Z1, _, c0, [], by omega, rfl, rfl, P3.out, by simp, HOK.out⟩
  case round =>
    clear P3 HOK
    obtain ⟨j, a, Z, v0, c, l, hj, rfl, rfl, hP, hll, hOk⟩ := hrel
    have P := hid hP
    have OK0 := hid hOk
    clear hP hOk
    by_cases hlt : j < ops.length
    · obtain ⟨bb, off, rfl, hbb, p1, p2, p3, p4, p5, hB, hB2⟩ := HO.out.fr P.out.k.nw.fr j hlt
      generalize hop : ops[j] = op5 at p1 p2 p3 p4 p5 hB hB2
      obtain ⟨kd, xa, xr, xp, xt⟩ := op5
      simp only at p1 p2 p3 p4 p5 hB hB2
      clear hop HO
      have HB := hid hB
      have HB2 := hid hB2
      have Pb1 := hid (P.out.alloc (.cells #[.int .i64 kd, .int .i64 xa, .int .i64 xr, .int .i64 xp, .int .u64 xt] 34))
      have Ob1 := hid (Ob.new wr kd xa xr xp xt)
      have HBN : Hid (¬ Z wr.heap.size ∧ wr.heap.size ≠ r) := ⟨fun e => by have := P.out.k.m.zlt _ e; omega, by have := P.out.f.ltr; omega⟩
      have HOF := hid fun (w' : World) (y : Value) (h : Gv w w' Z y l) => of_any h (by omega) kd xa xr xp HB.out
      have q0 := Ob1.out.c0
      have q1 := Ob1.out.c1
      have q2 := Ob1.out.c2
      have q3 := Ob1.out.c3
      have q4 := Ob1.out.c4
      clear hB hB2 P HB
      by_cases k1 : kd = 1
      · subst k1
        go_wp2_with fail
        refine (HOF.out _ _ Pb1.out.g).mono ?_
        rintro e w4 ⟨⟨hb, rfl, hb0, hb1⟩, f4⟩
        have P4 := hid (Pb1.out.kept f4)
        have Ob4 := hid (Ob1.out.kept f4)
        have HBn : Hid (¬ Z wr.heap.size ∧ wr.heap.size ≠ r) := HBN.out
        clear f4 HOF Pb1 Ob1 HBN p1 p2 p3 p4 p5 q0 q1 q2 q3 q4
        have q0 := Ob4.out.c0
        have q1 := Ob4.out.c1
        have q2 := Ob4.out.c2
        have H5 := hid (n_grant P4.out.k xa)
        have H6 := hid fun (w' : World) (h : Rc w' w.heap.size r v0 c) => e_grant h xa
        have C3 := hid (grS_gave OK0.out xa).ok
        have HAV := hid (grV_range (c := c) (x := xa))
        clear OK0
        generalize grS c xa = c2 at *
        generalize grV c xa = av at *
        generalize grE c xa = ev at *
        go_wp2_with fail
        refine H5.out.mono ?_
        rintro e w5 ⟨Z5, rfl, h5, hz5, f5⟩
        have PM := hid (P4.out.prog h5 hz5 f5)
        have Ob5 := hid (Ob4.out.carry f5 HBn.out.1)
        clear h5 hz5 f5 H5 P4 Ob4 q0 q1 q2
        have q1 := Ob5.out.c1
        go_wp2_with fail
        refine (H6.out _ PM.out.f).mono ?_
        rintro e w6 ⟨rfl, ⟨v6, h6, hv6⟩, f6⟩
        have P5 := hid (PM.out.ref h6 hv6 f6)
        clear h6 hv6 f6 H6 PM Ob5 q1
        obtain ⟨vad, vcap, hvv, _, _, _⟩ := P5.out.f.form
        subst hvv
        have s1 := P5.out.f.c1
        have s2 := P5.out.f.c2
        have HSE := hid fun (w' : World) (h : Pb w w' a Z5 r (.slice vad c2.L.length vcap) c2 c2 u11 l) => b_serial h
        have HCO := hid fun (w' : World) (h : Pb w w' a Z5 r (.slice vad c2.L.length vcap) c2 c2 u11 l) => b_count h
        go_wp2
        go_region_held3 (fun w' => w'.cell? ⟨r, 1, none⟩ = some (.int .i64 c2.nx) ∧ w'.cell? ⟨r, 2, none⟩ = some (.slice vad c2.L.length vcap)) (first | go_keep | exact ⟨by assumption, by assumption⟩) (first | (go_at_call 22; refine (HSE.out _ (P5.out.kept (Fr.refl _ _).drew)).mono ?_; rintro e w6 ⟨rfl, h6⟩; have P6 := hid h6; clear h6; have s16 := P6.out.f.c1; have s26 := P6.out.f.c2) | (go_at_call 23; refine (HCO.out _ P6.out).mono ?_; rintro e w7 ⟨rfl, h7⟩; have P7 := hid h7; clear h7; have s17 := P7.out.f.c1; have s27 := P7.out.f.c2))
        all_goals
          clear s1 s2 s16 s26 s17 s27 HSE HCO P6 P5
          by_cases hav : av = 0
          · subst hav
            go_wp2
            go_roundw
            case rel => exact ⟨j + 1, a, Z5, _, c2, l, by omega, by go_num, rfl, P7.out, by omega, C3.out⟩
            case measure => simp [intOf]; omega
          · have hb0 : (av == 0) = false := by simpa using hav
            clear hav
            go_wp2_with (at_builtin; refine push_g rfl (.tmp 165) (.tmp 167) rfl P7.out.g P7.out.k HAV.out (by omega) rfl rfl ?_; intro g8 cap8 w8 hG8 hK8 hF8 hS8; have P8 := hid (P7.out.pushed hG8 hK8 hF8 hS8); clear hG8 hK8 hF8 hS8)
            go_roundw
            case rel => exact ⟨j + 1, a, Z5, _, c2, l ++ [av], by omega, by go_num, rfl, P8.out, by simp; omega, C3.out⟩
            case measure => simp [intOf]; omega
      by_cases k2 : kd = 2
      · subst k2
        go_wp2_with fail
        refine (HOF.out _ _ Pb1.out.g).mono ?_
        rintro e w4 ⟨⟨hb, rfl, hb0, hb1⟩, f4⟩
        have P4 := hid (Pb1.out.kept f4)
        have Ob4 := hid (Ob1.out.kept f4)
        have HBn : Hid (¬ Z wr.heap.size ∧ wr.heap.size ≠ r) := HBN.out
        clear f4 HOF Pb1 Ob1 HBN p1 p2 p3 p4 p5 q0 q1 q2 q3 q4
        have q0 := Ob4.out.c0
        have q1 := Ob4.out.c1
        have q2 := Ob4.out.c2
        have H5 := hid (n_find P4.out.k hb0 hb1 HB2.out)
        have H6 := hid fun (w' : World) (h : Rc w' w.heap.size r v0 c) => e_findF h hb0 hb1 xr
        have C3 := OK0
        have HC : Hid (c = c) := rfl
        generalize fiV c hb xr = fv at *
        generalize fiE c hb xr = ev at *
        go_wp2_with fail
        refine H5.out.mono ?_
        rintro e w5 ⟨rfl, _, f5⟩
        have PM := hid (P4.out.kept f5)
        have Ob5 := hid (Ob4.out.kept f5)
        clear f5 H5 P4 Ob4 q0 q1 q2
        have q2 := Ob5.out.c2
        go_wp2_with fail
        refine (H6.out _ PM.out.f).mono ?_
        rintro e w6 ⟨rfl, f6⟩
        have P5 := hid (PM.out.kept f6)
        clear f6 H6 PM Ob5 q2
        obtain ⟨vad, vcap, hvv, _, _, _⟩ := P5.out.f.form
        subst hvv
        have s1 := P5.out.f.c1
        have s2 := P5.out.f.c2
        have HSE := hid fun (w' : World) (h : Pb w w' a Z r (.slice vad c.L.length vcap) c c u11 l) => b_serial h
        have HCO := hid fun (w' : World) (h : Pb w w' a Z r (.slice vad c.L.length vcap) c c u11 l) => b_count h
        go_wp2
        go_region_held3 (fun w' => w'.cell? ⟨r, 1, none⟩ = some (.int .i64 c.nx) ∧ w'.cell? ⟨r, 2, none⟩ = some (.slice vad c.L.length vcap)) (first | go_keep | exact ⟨by assumption, by assumption⟩) (first | (go_at_call 22; refine (HSE.out _ (P5.out.kept (Fr.refl _ _).drew)).mono ?_; rintro e w6 ⟨rfl, h6⟩; have P6 := hid h6; clear h6; have s16 := P6.out.f.c1; have s26 := P6.out.f.c2) | (go_at_call 23; refine (HCO.out _ P6.out).mono ?_; rintro e w7 ⟨rfl, h7⟩; have P7 := hid h7; clear h7; have s17 := P7.out.f.c1; have s27 := P7.out.f.c2))
        all_goals
          clear s1 s2 s16 s26 s17 s27 HSE HCO P6 P5
          go_wp2
          go_roundw
          case rel => exact ⟨j + 1, a, Z, _, c, l, by omega, by go_num, rfl, P7.out, by omega, C3.out⟩
          case measure => simp [intOf]; omega
      by_cases k3 : kd = 3
      · subst k3
        go_wp2_with fail
        refine (HOF.out _ _ Pb1.out.g).mono ?_
        rintro e w4 ⟨⟨hb, rfl, hb0, hb1⟩, f4⟩
        have P4 := hid (Pb1.out.kept f4)
        have Ob4 := hid (Ob1.out.kept f4)
        have HBn : Hid (¬ Z wr.heap.size ∧ wr.heap.size ≠ r) := HBN.out
        clear f4 HOF Pb1 Ob1 HBN p1 p2 p3 p4 p5 q0 q1 q2 q3 q4
        have q0 := Ob4.out.c0
        have q1 := Ob4.out.c1
        have q2 := Ob4.out.c2
        have H5 := hid (n_restrict P4.out.k hb0 hb1 xr)
        have H6 := hid fun (w' : World) (h : Rc w' w.heap.size r v0 c) => e_restrict h hb0 hb1 xr
        have C3 := hid (reS_gave OK0.out hb xr).ok
        have HAV := hid (reV_range (c := c) (b := hb) (r := xr))
        clear OK0
        generalize reS c hb xr = c2 at *
        generalize reV c hb xr = av at *
        generalize reE c hb xr = ev at *
        go_wp2_with fail
        refine H5.out.mono ?_
        rintro e w5 ⟨Z5, rfl, h5, hz5, f5⟩
        have PM := hid (P4.out.prog h5 hz5 f5)
        have Ob5 := hid (Ob4.out.carry f5 HBn.out.1)
        clear h5 hz5 f5 H5 P4 Ob4 q0 q1 q2
        have q2 := Ob5.out.c2
        go_wp2_with fail
        refine (H6.out _ PM.out.f).mono ?_
        rintro e w6 ⟨rfl, ⟨v6, h6, hv6⟩, f6⟩
        have P5 := hid (PM.out.ref h6 hv6 f6)
        clear h6 hv6 f6 H6 PM Ob5 q2
        obtain ⟨vad, vcap, hvv, _, _, _⟩ := P5.out.f.form
        subst hvv
        have s1 := P5.out.f.c1
        have s2 := P5.out.f.c2
        have HSE := hid fun (w' : World) (h : Pb w w' a Z5 r (.slice vad c2.L.length vcap) c2 c2 u11 l) => b_serial h
        have HCO := hid fun (w' : World) (h : Pb w w' a Z5 r (.slice vad c2.L.length vcap) c2 c2 u11 l) => b_count h
        go_wp2
        go_region_held3 (fun w' => w'.cell? ⟨r, 1, none⟩ = some (.int .i64 c2.nx) ∧ w'.cell? ⟨r, 2, none⟩ = some (.slice vad c2.L.length vcap)) (first | go_keep | exact ⟨by assumption, by assumption⟩) (first | (go_at_call 22; refine (HSE.out _ (P5.out.kept (Fr.refl _ _).drew)).mono ?_; rintro e w6 ⟨rfl, h6⟩; have P6 := hid h6; clear h6; have s16 := P6.out.f.c1; have s26 := P6.out.f.c2) | (go_at_call 23; refine (HCO.out _ P6.out).mono ?_; rintro e w7 ⟨rfl, h7⟩; have P7 := hid h7; clear h7; have s17 := P7.out.f.c1; have s27 := P7.out.f.c2))
        all_goals
          clear s1 s2 s16 s26 s17 s27 HSE HCO P6 P5
          by_cases hav : av = 0
          · subst hav
            go_wp2
            go_roundw
            case rel => exact ⟨j + 1, a, Z5, _, c2, l, by omega, by go_num, rfl, P7.out, by omega, C3.out⟩
            case measure => simp [intOf]; omega
          · have hb0 : (av == 0) = false := by simpa using hav
            clear hav
            go_wp2_with (at_builtin; refine push_g rfl (.tmp 165) (.tmp 167) rfl P7.out.g P7.out.k HAV.out (by omega) rfl rfl ?_; intro g8 cap8 w8 hG8 hK8 hF8 hS8; have P8 := hid (P7.out.pushed hG8 hK8 hF8 hS8); clear hG8 hK8 hF8 hS8)
            go_roundw
            case rel => exact ⟨j + 1, a, Z5, _, c2, l ++ [av], by omega, by go_num, rfl, P8.out, by simp; omega, C3.out⟩
            case measure => simp [intOf]; omega
      by_cases k4 : kd = 4
      · subst k4
        go_wp2_with fail
        refine (HOF.out _ _ Pb1.out.g).mono ?_
        rintro e w4 ⟨⟨hb, rfl, hb0, hb1⟩, f4⟩
        have P4 := hid (Pb1.out.kept f4)
        have Ob4 := hid (Ob1.out.kept f4)
        have HBn : Hid (¬ Z wr.heap.size ∧ wr.heap.size ≠ r) := HBN.out
        clear f4 HOF Pb1 Ob1 HBN p1 p2 p3 p4 p5 q0 q1 q2 q3 q4
        have q0 := Ob4.out.c0
        have q1 := Ob4.out.c1
        have q2 := Ob4.out.c2
        have H5 := hid fun (w' : World) (h : Kn w w' a Z c) => n_revoke h xa
        have H6 := hid fun (w' : World) (h : Rc w' w.heap.size r v0 c) => e_revoke h xa
        have C3 := hid (rvS_ok OK0.out xa)
        clear OK0
        generalize rvS c xa = c2 at *
        generalize ((rvN c xa : Nat) : Int) = rn at *
        go_wp2_with fail
        go_region_held3 (fun w' => w'.cell? ⟨wr.heap.size, 1, none⟩ = some (.int .i64 xa)) (first | go_keep | assumption) (first | (go_at_call 19; refine (H5.out _ (P4.out.kept (Fr.refl _ _).drew).k).mono ?_; rintro e w5 ⟨Z5, rfl, h5, hz5, f5⟩; have PM := hid ((P4.out.kept (Fr.refl (fun _ => False) w4).drew).prog h5 hz5 f5); have Ob5 := hid (Ob4.out.carry ((Fr.refl (fun i => Z i) w4).drew.trans f5) HBn.out.1); have q15 := Ob5.out.c1; clear h5 hz5 f5) | (go_at_call 20; refine (H6.out _ PM.out.f).mono ?_; rintro e w6 ⟨rfl, ⟨v6, h6, hv6⟩, f6⟩; have P5 := hid (PM.out.ref h6 hv6 f6); have Ob6 := hid (Ob5.out.carry f6 HBn.out.2); have q16 := Ob6.out.c1; clear h6 hv6 f6))
        all_goals
          clear q15 q16 Ob6 Ob5 PM H5 H6 P4 Ob4 q0 q1 q2
          obtain ⟨vad, vcap, hvv, _, _, _⟩ := P5.out.f.form
          subst hvv
          have s1 := P5.out.f.c1
          have s2 := P5.out.f.c2
          have HSE := hid fun (w' : World) (h : Pb w w' a Z5 r (.slice vad c2.L.length vcap) c2 c2 u11 l) => b_serial h
          have HCO := hid fun (w' : World) (h : Pb w w' a Z5 r (.slice vad c2.L.length vcap) c2 c2 u11 l) => b_count h
          go_wp2
          go_region_held3 (fun w' => w'.cell? ⟨r, 1, none⟩ = some (.int .i64 c2.nx) ∧ w'.cell? ⟨r, 2, none⟩ = some (.slice vad c2.L.length vcap)) (first | go_keep | exact ⟨by assumption, by assumption⟩) (first | (go_at_call 22; refine (HSE.out _ (P5.out.kept (Fr.refl _ _).drew)).mono ?_; rintro e w6 ⟨rfl, h6⟩; have P6 := hid h6; clear h6; have s16 := P6.out.f.c1; have s26 := P6.out.f.c2) | (go_at_call 23; refine (HCO.out _ P6.out).mono ?_; rintro e w7 ⟨rfl, h7⟩; have P7 := hid h7; clear h7; have s17 := P7.out.f.c1; have s27 := P7.out.f.c2))
          all_goals
            clear s1 s2 s16 s26 s17 s27 HSE HCO P6 P5
            go_wp2
            go_roundw
            case rel => exact ⟨j + 1, a, Z5, _, c2, l, by omega, by go_num, rfl, P7.out, by omega, C3.out⟩
            case measure => simp [intOf]; omega
      have e1 : (kd == 1) = false := by simpa using k1
      have e2 : (kd == 2) = false := by simpa using k2
      have e3 : (kd == 3) = false := by simpa using k3
      have e4 : (kd == 4) = false := by simpa using k4
      · clear k1 k2 k3 k4
        go_wp2_with fail
        refine (HOF.out _ _ Pb1.out.g).mono ?_
        rintro e w4 ⟨⟨hb, rfl, hb0, hb1⟩, f4⟩
        have P4 := hid (Pb1.out.kept f4)
        have Ob4 := hid (Ob1.out.kept f4)
        have HBn : Hid (¬ Z wr.heap.size ∧ wr.heap.size ≠ r) := HBN.out
        clear f4 HOF Pb1 Ob1 HBN p1 p2 p3 p4 p5 q0 q1 q2 q3 q4
        have q0 := Ob4.out.c0
        have q1 := Ob4.out.c1
        have q2 := Ob4.out.c2
        have H5 := hid (n_copy P4.out.k)
        have H6 := hid fun (w' : World) (h : Kn w w' a Z c) => n_grant h 1
        have C3 := OK0
        generalize grV c 1 = gv at *
        generalize grE c 1 = ge at *
        generalize grS c 1 = gs at *
        go_wp2_with fail
        refine H5.out.mono ?_
        rintro e w5 ⟨a5, Z5, rfl, hz5, h5, f5⟩
        have K5 := hid h5
        have F5 := hid f5
        clear h5 f5 H5
        go_wp2_with fail
        refine (H6.out _ (P4.out.k.kept F5.out)).mono ?_
        rintro e w6 ⟨Z6, rfl, h6, _, f6⟩
        have P5 := hid (P4.out.copied K5.out hz5 F5.out h6 f6)
        clear h6 f6 H6 K5 F5 P4 Ob4 q0 q1 q2 hz5
        obtain ⟨vad, vcap, hvv, _, _, _⟩ := P5.out.f.form
        subst hvv
        have s1 := P5.out.f.c1
        have s2 := P5.out.f.c2
        have HSE := hid fun (w' : World) (h : Pb w w' a5 Z5 r (.slice vad c.L.length vcap) c c u11 l) => b_serial h
        have HCO := hid fun (w' : World) (h : Pb w w' a5 Z5 r (.slice vad c.L.length vcap) c c u11 l) => b_count h
        go_wp2
        go_region_held3 (fun w' => w'.cell? ⟨r, 1, none⟩ = some (.int .i64 c.nx) ∧ w'.cell? ⟨r, 2, none⟩ = some (.slice vad c.L.length vcap)) (first | go_keep | exact ⟨by assumption, by assumption⟩) (first | (go_at_call 22; refine (HSE.out _ (P5.out.kept (Fr.refl _ _).drew)).mono ?_; rintro e w6 ⟨rfl, h6⟩; have P6 := hid h6; clear h6; have s16 := P6.out.f.c1; have s26 := P6.out.f.c2) | (go_at_call 23; refine (HCO.out _ P6.out).mono ?_; rintro e w7 ⟨rfl, h7⟩; have P7 := hid h7; clear h7; have s17 := P7.out.f.c1; have s27 := P7.out.f.c2))
        all_goals
          clear s1 s2 s16 s26 s17 s27 HSE HCO P6 P5
          go_wp2
          go_roundw
          case rel => exact ⟨j + 1, a5, Z5, _, c, l, by omega, by go_num, rfl, P7.out, by omega, C3.out⟩
          case measure => simp [intOf]; omega
    · obtain rfl : j = ops.length := by omega
      go_wp2
      go_ret
      exact ⟨by simp, P.out.k.nw.fr⟩
theorem plays_walk (t n : Int) (v : Value) (w : World) (g : Gr w) (h : ∃ ad cap l, v = .slice ad (List.length l) cap ∧ OpsAt w ad l ∧ l.length ≤ maxLen) : Calls Tryd.prog 3 #[.int .i64 t, .int .i64 n, v] w fun e w' => e = .returned (.bool true) ∧ Fr (fun _ => False) w w' := by
  by_cases ht : ((0 ≤ t ∧ t ≤ 7) ∧ 1 ≤ n ∧ n ≤ 17592186044416)
  · obtain ⟨ad, cap, l, rfl, ho, hm⟩ := h
    by_cases hn : 400 < l.length
    · exact plays_long ht ad l.length cap hn hm w g
    · exact plays_yes ht ad l cap hn w ho g
  · exact plays_no ht v w g
end Go.Proofs.YtcleheapfgapaaaDoor
