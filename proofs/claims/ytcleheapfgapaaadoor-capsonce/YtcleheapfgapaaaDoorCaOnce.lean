/-
  The walk of the law CapsOnce.
-/
import Derived.Test.YtcleheapfgapaaaDoorCaOnceB
import Derived.Deep.RegionHeld3
namespace Go.Proofs.YtcleheapfgapaaaDoor
open Go.RowKit

theorem On.start {W w : World} {a : Nat} {Z : Nat → Prop} {c : Ct} (h : Kn W w a Z c) : On W ((w.alloc (.map #[] 0)).alloc (.map #[] 0)) a Z c (.slice none 0 0) [] w.heap.size 0 [] (w.heap.size + 1) 0 [] := by
  have h2 := Om.new (w.alloc (.map #[] 0))
  rw [show (w.alloc (.map #[] 0)).heap.size = w.heap.size + 1 by simp] at h2
  exact ⟨(h.alloc _).alloc _, Gv.fresh _ _ _, (Om.new w).kept ((Fr.refl _ _).alloc _), h2, h.nw.le, by have := h.nw.le; omega, fun e => by have := h.m.zlt _ e; omega, fun e => by have := h.m.zlt _ e; omega, by omega, fun q e => by cases e⟩
theorem gone_take {c : Ct} {a : Int} {l : List Int} {q : Nat} (h : q < l.length) : gone c a (l.take (q + 1)) = gone c a (l.take q) ++ (if goneB c a l[q] then [l[q]] else []) := by
  unfold gone
  rw [List.take_add_one, List.getElem?_eq_getElem h, List.filter_append]
  cases hp : goneB c a l[q] <;> simp [hp]
theorem gone_len {c : Ct} {a : Int} {l : List Int} : (gone c a l).length ≤ l.length := List.length_filter_le _ _
set_option maxRecDepth 20000 in
set_option maxHeartbeats 8000000 in
theorem once_no {t : Int} (h : ¬ (0 ≤ t ∧ t ≤ 7)) (v : Value) (w : World) (g : Gr w) : Calls Tryd.prog 4 #[.int .i64 t, v] w fun e w' => e = .returned (.bool true) ∧ Fr (fun _ => False) w w' := by
  have H1 := hid fun w => q_new_no (t := t) (n := 1) (fun x => h x.1) w
  have HA := hid fun w0 (f : Fr (fun _ => False) w w0) => awake_f w0 (g.fr f)
  clear h g
  go_enter Tryd.func4, Tryd.ntmps4
  go_wp2_with fail
  refine (H1.out _).mono ?_
  rintro e w1 ⟨rfl, f1⟩
  have F1 := hid f1
  clear f1 H1
  go_wp2_with fail
  refine (HA.out _ F1.out).mono ?_
  rintro e w2 ⟨rfl, f2⟩
  have F2 := hid (F1.out.trans f2)
  clear f2 F1
  go_wp2_with fail
  refine (HA.out _ F2.out).mono ?_
  rintro e w3 ⟨rfl, f3⟩
  have F3 := hid (F2.out.trans f3)
  clear f3 F2 HA
  go_wp2
  go_ret
  exact ⟨by simp, F3.out⟩
set_option maxRecDepth 20000 in
set_option maxHeartbeats 8000000 in
theorem once_long {t : Int} (ht : 0 ≤ t ∧ t ≤ 7) (ad : Option Addr) (n cap : Nat) (hn : 300 < n) (hm : n ≤ 9223372036854775807) (w : World) (g : Gr w) : Calls Tryd.prog 4 #[.int .i64 t, .slice ad n cap] w fun e w' => e = .returned (.bool true) ∧ Fr (fun _ => False) w w' := by
  have HST := hid (Nw.start w g.pos)
  have H1 := hid fun w0 (nw : Nw w w0) => n_new (t := t) (n := 1) ⟨ht, by decide⟩ nw g
  have HA := hid fun w0 (f : Fr (fun _ => False) w w0) => awake_f w0 (g.fr f)
  clear g ht
  go_enter Tryd.func4, Tryd.ntmps4
  go_wp2_with fail
  refine (H1.out _ HST.out).mono ?_
  rintro e w1 ⟨a, Z1, rfl, _, h1, _⟩
  have K1 := hid h1
  clear h1 H1 HST
  go_wp2_with fail
  refine (HA.out _ K1.out.nw.fr).mono ?_
  rintro e w2 ⟨rfl, f2⟩
  have K2 := hid (K1.out.kept f2)
  clear f2 K1
  go_wp2_with fail
  refine (HA.out _ K2.out.nw.fr).mono ?_
  rintro e w3 ⟨rfl, f3⟩
  have K3 := hid (K2.out.kept f3)
  clear f3 K2 HA
  go_wp2
  go_ret
  exact ⟨by simp, K3.out.nw.fr⟩
set_option maxRecDepth 20000 in
set_option maxHeartbeats 8000000 in
theorem once_yes {t : Int} (ht : 0 ≤ t ∧ t ≤ 7) (ad : Option Addr) (ops : List (Int × Int × Int × Int × Int)) (cap : Nat) (hn : ¬ 300 < ops.length) (w : World) (hops : OpsAt w ad ops) (g : Gr w) : Calls Tryd.prog 4 #[.int .i64 t, .slice ad ops.length cap] w fun e w' => e = .returned (.bool true) ∧ Fr (fun _ => False) w w' := by
  have HST := hid (Nw.start w g.pos)
  have H1 := hid fun w0 (nw : Nw w w0) => n_new (t := t) (n := 1) ⟨ht, by decide⟩ nw g
  have HA := hid fun w0 (f : Fr (fun _ => False) w w0) => awake_f w0 (g.fr f)
  have HO := hid hops
  have HI := hid (Iv.start ht)
  clear g ht hops
  go_enter Tryd.func4, Tryd.ntmps4
  go_wp2_with fail
  refine (H1.out _ HST.out).mono ?_
  rintro e w1 ⟨a, Z1, rfl, _, h1, _⟩
  have K1 := hid h1
  clear h1 H1 HST
  go_wp2_with fail
  refine (HA.out _ K1.out.nw.fr).mono ?_
  rintro e w2 ⟨rfl, f2⟩
  have K2 := hid (K1.out.kept f2)
  clear f2 K1
  have OS := hid (On.start K2.out)
  clear K2 HA
  generalize newC t 1 = c0 at *
  have hmm := @run_makeMap Tryd.prog
  go_wp2
  clear hmm
  generalize (w2.alloc (.map #[] 0)).alloc (.map #[] 0) = w3 at *
  generalize w2.heap.size + 1 = Bd at *
  generalize w2.heap.size = Bs at *
  go_loopw [6, 7, 11, 12, 13, 14, 15, 16, 17, 18, 19, 21, 22, 23, 25, 26, 27, 28, 50] (fun _ y _ _ _ _ _ _ _ _ _ _ _ _ _ _ _ _ i wr => ∃ (j : Nat) (Z : Nat → Prop) (c : Ct) (l : List Int) (ns : Nat) (ss : List Int) (nd : Nat) (ds : List Int), j ≤ ops.length ∧ i = .int .i64 j ∧ On w wr a Z c y l Bs ns ss Bd nd ds ∧ Iv c l ds ∧ (∀ x, x ∈ ss ↔ x ∈ l) ∧ l.length ≤ j ∧ ns ≤ j ∧ nd ≤ 300 * j) (fun _ _ _ _ _ _ _ _ _ _ _ _ _ _ _ _ _ _ i _ => ops.length - (intOf i).toNat)
  case atStart => exact ⟨0, Z1, c0, [], 0, [], 0, [], by omega, rfl, OS.out, HI.out, by simp, by simp, by omega, by omega⟩
  case round =>
    clear OS HI
    obtain ⟨j, Z, c, l, ns, ss, nd, ds, hj, rfl, hOn, hIv, hSS, hll, hns, hnd⟩ := hrel
    have O00 := hid hOn
    have I0 := hid hIv
    have SS0 := hid hSS
    clear hOn hIv hSS
    by_cases hlt : j < ops.length
    · obtain ⟨bb, off, rfl, hbb, p1, p2, p3, p4, p5, hB, -⟩ := HO.out.fr O00.out.k.nw.fr j hlt
      generalize hop : ops[j] = op5 at p1 p2 p3 p4 p5 hB
      obtain ⟨kd, xa, xr, xp, xt⟩ := op5
      simp only at p1 p2 p3 p4 p5 hB
      clear hop HO
      have HB := hid hB
      have Ob1 := hid (O00.out.alloc (.cells #[.int .i64 kd, .int .i64 xa, .int .i64 xr, .int .i64 xp, .int .u64 xt] 34))
      have Op1 := hid (Ob.new wr kd xa xr xp xt)
      have HOF := hid fun (w' : World) (y : Value) (h : Gv w w' Z y l) => of_any h (by omega) kd xa xr xp HB.out
      have q0 := Op1.out.c0
      have q1 := Op1.out.c1
      have q2 := Op1.out.c2
      have q3 := Op1.out.c3
      have q4 := Op1.out.c4
      clear hB O00 HB
      by_cases k1 : kd = 1
      · subst k1
        go_wp2_with fail
        refine (HOF.out _ _ Ob1.out.g).mono ?_
        rintro e w4 ⟨⟨hb, rfl, hb0, hb1⟩, f4⟩
        have O4 := hid (Ob1.out.kept f4)
        have Op4 := hid (Op1.out.kept f4)
        clear f4 HOF Ob1 Op1 p1 p2 p3 p4 p5 q0 q1 q2 q3 q4
        have q0 := Op4.out.c0
        have q1 := Op4.out.c1
        have q2 := Op4.out.c2
        have H5 := hid (n_grant O4.out.k xa)
        have G := hid (grS_gave I0.out.ok xa)
        have HAV := hid (grV_range (c := c) (x := xa))
        generalize grS c xa = c2 at *
        generalize grV c xa = av at *
        generalize grE c xa = ev at *
        go_wp2_with fail
        refine H5.out.mono ?_
        rintro e wx ⟨Z5, rfl, h5, hz5, f5⟩
        have O0 := hid (O4.out.prog h5 hz5 f5)
        clear h5 hz5 f5 H5 O4 Op4 q0 q1 q2
        have SS := SS0
        by_cases hav : av = 0
        · subst hav
          have I := hid (I0.out.zero G.out)
          have O := O0
          clear I0 G O0
          have HFD := hid fun (w' : World) (h : Kn w w' a Z5 c2) (x : Int) (hx : 0 ≤ x ∧ x ≤ 18446744073709551615) => n_find h hx.1 hx.2 (q := 0) (by omega)
          have HDD : Hid (∀ x, x ∈ ds → fiE c2 x 0 = 5 ∧ 0 ≤ x ∧ x ≤ 18446744073709551615) := fun x hx => ⟨by unfold fiE; rw [I.out.dead x hx], O.out.g.wd x (I.out.sub x hx)⟩
          have HRR := hid (O.out.fresh (Nat.le_refl _))
          go_wp2_with (first | (at_range; refine wp_range rfl (.tmp 158) rfl rfl O.out.d ?_; intro w8 cnt8 hR8 hF8; have O8 := hid (O.out.kept hF8); have R8 := hid hR8; clear hR8 hF8 O) | go_in)
          try go_frame
          generalize wx.heap.size = rr at *
          go_loopw [26, 27, 28] (fun _ _ _ wq => ∃ cnt : Nat, Rg wq Bd rr nd ds cnt ∧ On w wq a Z5 c2 u7 l Bs ns ss Bd nd ds) (fun _ _ _ wq => wq.rangeLeft Bd rr)
          case atStart => exact ⟨_, R8.out, O8.out⟩
          case round =>
            obtain ⟨cnt, hR, hO⟩ := hrel
            have R := hid hR
            have O := hid hO
            clear hR hO R8 O8
            go_wp2_with (first | (at_next; refine wp_next rfl (.tmp 159) rfl rfl R.out ?_ ?_; rotate_left; intro x b w9 cnt9 hx hR9 hlt9 hF9 hen; have R9 := hid hR9; have O9 := hid (O.out.other hF9 fun i e => by subst e; exact HRR.out); have HX := hid (HDD.out x hx); have H9 := hid (HFD.out _ O9.out.k x HX.out.2); rw [HX.out.1] at H9; have HLT := hid hlt9; clear hx hR9 hlt9 hF9 O; generalize fiV c2 x 0 = fv9 at *; rotate_left))
            case roundEnd =>
              go_roundw
              case rel => exact ⟨j + 1, Z5, c2, l, ns, ss, nd, ds, by omega, by go_num, O.out, I.out, SS.out, by omega, by omega, by omega⟩
              case measure => simp [intOf]; omega
            next =>
              refine H9.out.mono ?_
              rintro e w10 ⟨rfl, _, f10⟩
              have O10 := hid (O9.out.kept f10)
              have R10 := hid (R9.out.carry f10 id id)
              clear f10 O9 H9 hen
              go_wp2
              go_roundw
              case rel => exact ⟨cnt9, R10.out, O10.out⟩
              case measure => rw [R10.out.left, R.out.left]; exact HLT.out
        · obtain ⟨hnew, hI⟩ := I0.out.gave G.out hav
          have I := hid hI
          have hlk := O0.out.s.look HAV.out
          rw [decide_eq_false (fun e => hnew ((SS0.out av).1 e))] at hlk
          obtain ⟨w5, hst, hom, hfr⟩ := O0.out.s.store (by unfold maxLen; omega) HAV.out
          have O5 := hid (O0.out.seen hom hfr)
          have SS : Hid (∀ x, x ∈ av :: ss ↔ x ∈ l ++ [av]) := fun x => by
            have := SS0.out x
            simp only [List.mem_cons, List.mem_append, List.mem_nil_iff, or_false]
            rw [this]
            exact Or.comm
          have hb0 : (av == 0) = false := by simpa using hav
          clear hnew hI I0 G O0 hom hfr hav
          go_wp2_with (first | (at_builtin; refine push_g rfl (.tmp 154) (.tmp 156) rfl O5.out.g O5.out.k HAV.out (by omega) rfl rfl ?_; intro g6 cap6 w6 hG6 hK6 hF6 hS6; have O := hid (O5.out.pushed hG6 hK6 hF6 hS6); clear hG6 hK6 hF6 hS6 O5 hlk hst; have HFD := hid fun (w' : World) (h : Kn w w' a Z5 c2) (x : Int) (hx : 0 ≤ x ∧ x ≤ 18446744073709551615) => n_find h hx.1 hx.2 (q := 0) (by omega); have HDD : Hid (∀ x, x ∈ ds → fiE c2 x 0 = 5 ∧ 0 ≤ x ∧ x ≤ 18446744073709551615) := fun x hx => ⟨by unfold fiE; rw [I.out.dead x hx], O.out.g.wd x (I.out.sub x hx)⟩; have HRR := hid (O.out.fresh (Nat.le_refl _))) | (at_range; refine wp_range rfl (.tmp 158) rfl rfl O.out.d ?_; intro w8 cnt8 hR8 hF8; have O8 := hid (O.out.kept hF8); have R8 := hid hR8; clear hR8 hF8 O) | go_in)
          try go_frame
          generalize w6.heap.size = rr at *
          go_loopw [26, 27, 28] (fun _ _ _ wq => ∃ cnt : Nat, Rg wq Bd rr nd ds cnt ∧ On w wq a Z5 c2 (.slice (some ⟨g6, 0, none⟩) (l.length + 1) cap6) (l ++ [av]) Bs (ns + 1) (av :: ss) Bd nd ds) (fun _ _ _ wq => wq.rangeLeft Bd rr)
          case atStart => exact ⟨_, R8.out, O8.out⟩
          case round =>
            obtain ⟨cnt, hR, hO⟩ := hrel
            have R := hid hR
            have O := hid hO
            clear hR hO R8 O8
            go_wp2_with (first | (at_next; refine wp_next rfl (.tmp 159) rfl rfl R.out ?_ ?_; rotate_left; intro x b w9 cnt9 hx hR9 hlt9 hF9 hen; have R9 := hid hR9; have O9 := hid (O.out.other hF9 fun i e => by subst e; exact HRR.out); have HX := hid (HDD.out x hx); have H9 := hid (HFD.out _ O9.out.k x HX.out.2); rw [HX.out.1] at H9; have HLT := hid hlt9; clear hx hR9 hlt9 hF9 O; generalize fiV c2 x 0 = fv9 at *; rotate_left))
            case roundEnd =>
              go_roundw
              case rel => exact ⟨j + 1, Z5, c2, (l ++ [av]), (ns + 1), (av :: ss), nd, ds, by omega, by go_num, O.out, I.out, SS.out, by (simp; omega), by omega, by omega⟩
              case measure => simp [intOf]; omega
            next =>
              refine H9.out.mono ?_
              rintro e w10 ⟨rfl, _, f10⟩
              have O10 := hid (O9.out.kept f10)
              have R10 := hid (R9.out.carry f10 id id)
              clear f10 O9 H9 hen
              go_wp2
              go_roundw
              case rel => exact ⟨cnt9, R10.out, O10.out⟩
              case measure => rw [R10.out.left, R.out.left]; exact HLT.out
      by_cases k3 : kd = 3
      · subst k3
        go_wp2_with fail
        refine (HOF.out _ _ Ob1.out.g).mono ?_
        rintro e w4 ⟨⟨hb, rfl, hb0, hb1⟩, f4⟩
        have O4 := hid (Ob1.out.kept f4)
        have Op4 := hid (Op1.out.kept f4)
        clear f4 HOF Ob1 Op1 p1 p2 p3 p4 p5 q0 q1 q2 q3 q4
        have q0 := Op4.out.c0
        have q1 := Op4.out.c1
        have q2 := Op4.out.c2
        have H5 := hid (n_restrict O4.out.k hb0 hb1 xr)
        have G := hid (reS_gave I0.out.ok hb xr)
        have HAV := hid (reV_range (c := c) (b := hb) (r := xr))
        have HRI := hid fun he k hk => re_rights I0.out.ok (b := hb) (q := xr) he k hk
        generalize reS c hb xr = c2 at *
        generalize reV c hb xr = av at *
        generalize reE c hb xr = ev at *
        have SS := SS0
        by_cases hev : ev = 0
        · subst hev
          have HR2 := hid fun k hk => HRI.out rfl k hk
          have HF1 := hid fun (w' : World) (Z : Nat → Prop) (h : Kn w w' a Z c2) (k : Int) (hk : -9223372036854775808 ≤ k ∧ k ≤ 9223372036854775807) => n_find h hb0 hb1 hk
          have HF2 := hid fun (w' : World) (Z : Nat → Prop) (h : Kn w w' a Z c2) (k : Int) (hk : -9223372036854775808 ≤ k ∧ k ≤ 9223372036854775807) => n_find h HAV.out.1 HAV.out.2 hk
          clear HRI
          go_wp2_with fail
          refine H5.out.mono ?_
          rintro e w5 ⟨Z5, rfl, h5, hz5, f5⟩
          have O5 := hid (O4.out.prog h5 hz5 f5)
          clear h5 hz5 f5 H5 O4 Op4 q0 q1 q2
          go_wp2
          go_loopw [14, 15, 16, 17, 18] (fun bt _ _ _ _ wq => ∃ bb : Int, bt = .int .i64 bb ∧ (bb = 1 ∨ bb = 2 ∨ bb = 4 ∨ bb = 8) ∧ On w wq a Z5 c2 u7 l Bs ns ss Bd nd ds) (fun bt _ _ _ _ _ => 8 - (intOf bt).toNat)
          case atStart => exact ⟨1, rfl, .inl rfl, O5.out⟩
          case round =>
            obtain ⟨bb, rfl, hbb, hO⟩ := hrel
            have O6 := hid hO
            clear hO O5
            by_cases hj3 : bb ≤ 4
            · have HBB : Hid (bb * 2 = 1 ∨ bb * 2 = 2 ∨ bb * 2 = 4 ∨ bb * 2 = 8) := by show _ ∨ _; omega
              have hb4 : 1 ≤ bb := by omega
              clear hbb
              have H6 := hid (HF1.out _ _ O6.out.k bb (by omega))
              have H7 := hid fun (w' : World) (h : Kn w w' a Z5 c2) => HF2.out _ _ h bb (by omega)
              have HR3 := hid (HR2.out bb)
              generalize fiE c2 hb bb = eo at *
              generalize fiE c2 av bb = en at *
              generalize fiV c2 hb bb = vo at *
              generalize fiV c2 av bb = vn at *
              by_cases hen : en = 0
              · have heo := HR3.out hen
                subst hen heo
                go_wp2_with fail
                refine H6.out.mono ?_
                rintro e w7 ⟨rfl, _, f7⟩
                have O7 := hid (O6.out.kept f7)
                clear f7 H6 O6
                go_wp2_with fail
                refine (H7.out _ O7.out.k).mono ?_
                rintro e w8 ⟨rfl, _, f8⟩
                have O8 := hid (O7.out.kept f8)
                clear f8 H7 O7
                go_wp2
                go_roundw
                case rel => exact ⟨bb * 2, by go_num, HBB.out, O8.out⟩
                case measure => simp [intOf]; omega
              · have hen2 : (en == 0) = false := by simpa using hen
                clear hen
                go_wp2_with fail
                refine H6.out.mono ?_
                rintro e w7 ⟨rfl, _, f7⟩
                have O7 := hid (O6.out.kept f7)
                clear f7 H6 O6
                go_wp2_with fail
                refine (H7.out _ O7.out.k).mono ?_
                rintro e w8 ⟨rfl, _, f8⟩
                have O8 := hid (O7.out.kept f8)
                clear f8 H7 O7
                go_wp2
                go_roundw
                case rel => exact ⟨bb * 2, by go_num, HBB.out, O8.out⟩
                case measure => simp [intOf]; omega
            · obtain rfl : bb = 8 := by omega
              clear hbb
              have O0 := O6
              clear O6 HF1 HF2 HR2
              by_cases hav : av = 0
              · subst hav
                have I := hid (I0.out.zero G.out)
                have O := O0
                clear I0 G O0
                have HFD := hid fun (w' : World) (h : Kn w w' a Z5 c2) (x : Int) (hx : 0 ≤ x ∧ x ≤ 18446744073709551615) => n_find h hx.1 hx.2 (q := 0) (by omega)
                have HDD : Hid (∀ x, x ∈ ds → fiE c2 x 0 = 5 ∧ 0 ≤ x ∧ x ≤ 18446744073709551615) := fun x hx => ⟨by unfold fiE; rw [I.out.dead x hx], O.out.g.wd x (I.out.sub x hx)⟩
                have HRR := hid (O.out.fresh (Nat.le_refl _))
                go_wp2_with (first | (at_range; refine wp_range rfl (.tmp 158) rfl rfl O.out.d ?_; intro w8 cnt8 hR8 hF8; have O8 := hid (O.out.kept hF8); have R8 := hid hR8; clear hR8 hF8 O) | go_in)
                try go_frame
                generalize wr.heap.size = rr at *
                go_loopw [26, 27, 28] (fun _ _ _ wq => ∃ cnt : Nat, Rg wq Bd rr nd ds cnt ∧ On w wq a Z5 c2 u7 l Bs ns ss Bd nd ds) (fun _ _ _ wq => wq.rangeLeft Bd rr)
                case atStart => exact ⟨_, R8.out, O8.out⟩
                case round =>
                  obtain ⟨cnt, hR, hO⟩ := hrel
                  have R := hid hR
                  have O := hid hO
                  clear hR hO R8 O8
                  go_wp2_with (first | (at_next; refine wp_next rfl (.tmp 159) rfl rfl R.out ?_ ?_; rotate_left; intro x b w9 cnt9 hx hR9 hlt9 hF9 hen; have R9 := hid hR9; have O9 := hid (O.out.other hF9 fun i e => by subst e; exact HRR.out); have HX := hid (HDD.out x hx); have H9 := hid (HFD.out _ O9.out.k x HX.out.2); rw [HX.out.1] at H9; have HLT := hid hlt9; clear hx hR9 hlt9 hF9 O; generalize fiV c2 x 0 = fv9 at *; rotate_left))
                  case roundEnd =>
                    go_roundw
                    case rel => exact ⟨j + 1, Z5, c2, l, ns, ss, nd, ds, by omega, by go_num, O.out, I.out, SS.out, by omega, by omega, by omega⟩
                    case measure => simp [intOf]; omega
                  next =>
                    refine H9.out.mono ?_
                    rintro e w10 ⟨rfl, _, f10⟩
                    have O10 := hid (O9.out.kept f10)
                    have R10 := hid (R9.out.carry f10 id id)
                    clear f10 O9 H9 hen
                    go_wp2
                    go_roundw
                    case rel => exact ⟨cnt9, R10.out, O10.out⟩
                    case measure => rw [R10.out.left, R.out.left]; exact HLT.out
              · obtain ⟨hnew, hI⟩ := I0.out.gave G.out hav
                have I := hid hI
                have hlk := O0.out.s.look HAV.out
                rw [decide_eq_false (fun e => hnew ((SS0.out av).1 e))] at hlk
                obtain ⟨w5, hst, hom, hfr⟩ := O0.out.s.store (by unfold maxLen; omega) HAV.out
                have O5 := hid (O0.out.seen hom hfr)
                have SS : Hid (∀ x, x ∈ av :: ss ↔ x ∈ l ++ [av]) := fun x => by
                  have := SS0.out x
                  simp only [List.mem_cons, List.mem_append, List.mem_nil_iff, or_false]
                  rw [this]
                  exact Or.comm
                have hb0 : (av == 0) = false := by simpa using hav
                clear hnew hI I0 G O0 hom hfr hav
                go_wp2_with (first | (at_builtin; refine push_g rfl (.tmp 154) (.tmp 156) rfl O5.out.g O5.out.k HAV.out (by omega) rfl rfl ?_; intro g6 cap6 w6 hG6 hK6 hF6 hS6; have O := hid (O5.out.pushed hG6 hK6 hF6 hS6); clear hG6 hK6 hF6 hS6 O5 hlk hst; have HFD := hid fun (w' : World) (h : Kn w w' a Z5 c2) (x : Int) (hx : 0 ≤ x ∧ x ≤ 18446744073709551615) => n_find h hx.1 hx.2 (q := 0) (by omega); have HDD : Hid (∀ x, x ∈ ds → fiE c2 x 0 = 5 ∧ 0 ≤ x ∧ x ≤ 18446744073709551615) := fun x hx => ⟨by unfold fiE; rw [I.out.dead x hx], O.out.g.wd x (I.out.sub x hx)⟩; have HRR := hid (O.out.fresh (Nat.le_refl _))) | (at_range; refine wp_range rfl (.tmp 158) rfl rfl O.out.d ?_; intro w8 cnt8 hR8 hF8; have O8 := hid (O.out.kept hF8); have R8 := hid hR8; clear hR8 hF8 O) | go_in)
                try go_frame
                generalize w6.heap.size = rr at *
                go_loopw [26, 27, 28] (fun _ _ _ wq => ∃ cnt : Nat, Rg wq Bd rr nd ds cnt ∧ On w wq a Z5 c2 (.slice (some ⟨g6, 0, none⟩) (l.length + 1) cap6) (l ++ [av]) Bs (ns + 1) (av :: ss) Bd nd ds) (fun _ _ _ wq => wq.rangeLeft Bd rr)
                case atStart => exact ⟨_, R8.out, O8.out⟩
                case round =>
                  obtain ⟨cnt, hR, hO⟩ := hrel
                  have R := hid hR
                  have O := hid hO
                  clear hR hO R8 O8
                  go_wp2_with (first | (at_next; refine wp_next rfl (.tmp 159) rfl rfl R.out ?_ ?_; rotate_left; intro x b w9 cnt9 hx hR9 hlt9 hF9 hen; have R9 := hid hR9; have O9 := hid (O.out.other hF9 fun i e => by subst e; exact HRR.out); have HX := hid (HDD.out x hx); have H9 := hid (HFD.out _ O9.out.k x HX.out.2); rw [HX.out.1] at H9; have HLT := hid hlt9; clear hx hR9 hlt9 hF9 O; generalize fiV c2 x 0 = fv9 at *; rotate_left))
                  case roundEnd =>
                    go_roundw
                    case rel => exact ⟨j + 1, Z5, c2, (l ++ [av]), (ns + 1), (av :: ss), nd, ds, by omega, by go_num, O.out, I.out, SS.out, by (simp; omega), by omega, by omega⟩
                    case measure => simp [intOf]; omega
                  next =>
                    refine H9.out.mono ?_
                    rintro e w10 ⟨rfl, _, f10⟩
                    have O10 := hid (O9.out.kept f10)
                    have R10 := hid (R9.out.carry f10 id id)
                    clear f10 O9 H9 hen
                    go_wp2
                    go_roundw
                    case rel => exact ⟨cnt9, R10.out, O10.out⟩
                    case measure => rw [R10.out.left, R.out.left]; exact HLT.out
        · have hev2 : (ev == 0) = false := by simpa using hev
          clear HRI hev
          go_wp2_with fail
          refine H5.out.mono ?_
          rintro e wx ⟨Z5, rfl, h5, hz5, f5⟩
          have O0 := hid (O4.out.prog h5 hz5 f5)
          clear h5 hz5 f5 H5 O4 Op4 q0 q1 q2
          by_cases hav : av = 0
          · subst hav
            have I := hid (I0.out.zero G.out)
            have O := O0
            clear I0 G O0
            have HFD := hid fun (w' : World) (h : Kn w w' a Z5 c2) (x : Int) (hx : 0 ≤ x ∧ x ≤ 18446744073709551615) => n_find h hx.1 hx.2 (q := 0) (by omega)
            have HDD : Hid (∀ x, x ∈ ds → fiE c2 x 0 = 5 ∧ 0 ≤ x ∧ x ≤ 18446744073709551615) := fun x hx => ⟨by unfold fiE; rw [I.out.dead x hx], O.out.g.wd x (I.out.sub x hx)⟩
            have HRR := hid (O.out.fresh (Nat.le_refl _))
            go_wp2_with (first | (at_range; refine wp_range rfl (.tmp 158) rfl rfl O.out.d ?_; intro w8 cnt8 hR8 hF8; have O8 := hid (O.out.kept hF8); have R8 := hid hR8; clear hR8 hF8 O) | go_in)
            try go_frame
            generalize wx.heap.size = rr at *
            go_loopw [26, 27, 28] (fun _ _ _ wq => ∃ cnt : Nat, Rg wq Bd rr nd ds cnt ∧ On w wq a Z5 c2 u7 l Bs ns ss Bd nd ds) (fun _ _ _ wq => wq.rangeLeft Bd rr)
            case atStart => exact ⟨_, R8.out, O8.out⟩
            case round =>
              obtain ⟨cnt, hR, hO⟩ := hrel
              have R := hid hR
              have O := hid hO
              clear hR hO R8 O8
              go_wp2_with (first | (at_next; refine wp_next rfl (.tmp 159) rfl rfl R.out ?_ ?_; rotate_left; intro x b w9 cnt9 hx hR9 hlt9 hF9 hen; have R9 := hid hR9; have O9 := hid (O.out.other hF9 fun i e => by subst e; exact HRR.out); have HX := hid (HDD.out x hx); have H9 := hid (HFD.out _ O9.out.k x HX.out.2); rw [HX.out.1] at H9; have HLT := hid hlt9; clear hx hR9 hlt9 hF9 O; generalize fiV c2 x 0 = fv9 at *; rotate_left))
              case roundEnd =>
                go_roundw
                case rel => exact ⟨j + 1, Z5, c2, l, ns, ss, nd, ds, by omega, by go_num, O.out, I.out, SS.out, by omega, by omega, by omega⟩
                case measure => simp [intOf]; omega
              next =>
                refine H9.out.mono ?_
                rintro e w10 ⟨rfl, _, f10⟩
                have O10 := hid (O9.out.kept f10)
                have R10 := hid (R9.out.carry f10 id id)
                clear f10 O9 H9 hen
                go_wp2
                go_roundw
                case rel => exact ⟨cnt9, R10.out, O10.out⟩
                case measure => rw [R10.out.left, R.out.left]; exact HLT.out
          · obtain ⟨hnew, hI⟩ := I0.out.gave G.out hav
            have I := hid hI
            have hlk := O0.out.s.look HAV.out
            rw [decide_eq_false (fun e => hnew ((SS0.out av).1 e))] at hlk
            obtain ⟨w5, hst, hom, hfr⟩ := O0.out.s.store (by unfold maxLen; omega) HAV.out
            have O5 := hid (O0.out.seen hom hfr)
            have SS : Hid (∀ x, x ∈ av :: ss ↔ x ∈ l ++ [av]) := fun x => by
              have := SS0.out x
              simp only [List.mem_cons, List.mem_append, List.mem_nil_iff, or_false]
              rw [this]
              exact Or.comm
            have hb0 : (av == 0) = false := by simpa using hav
            clear hnew hI I0 G O0 hom hfr hav
            go_wp2_with (first | (at_builtin; refine push_g rfl (.tmp 154) (.tmp 156) rfl O5.out.g O5.out.k HAV.out (by omega) rfl rfl ?_; intro g6 cap6 w6 hG6 hK6 hF6 hS6; have O := hid (O5.out.pushed hG6 hK6 hF6 hS6); clear hG6 hK6 hF6 hS6 O5 hlk hst; have HFD := hid fun (w' : World) (h : Kn w w' a Z5 c2) (x : Int) (hx : 0 ≤ x ∧ x ≤ 18446744073709551615) => n_find h hx.1 hx.2 (q := 0) (by omega); have HDD : Hid (∀ x, x ∈ ds → fiE c2 x 0 = 5 ∧ 0 ≤ x ∧ x ≤ 18446744073709551615) := fun x hx => ⟨by unfold fiE; rw [I.out.dead x hx], O.out.g.wd x (I.out.sub x hx)⟩; have HRR := hid (O.out.fresh (Nat.le_refl _))) | (at_range; refine wp_range rfl (.tmp 158) rfl rfl O.out.d ?_; intro w8 cnt8 hR8 hF8; have O8 := hid (O.out.kept hF8); have R8 := hid hR8; clear hR8 hF8 O) | go_in)
            try go_frame
            generalize w6.heap.size = rr at *
            go_loopw [26, 27, 28] (fun _ _ _ wq => ∃ cnt : Nat, Rg wq Bd rr nd ds cnt ∧ On w wq a Z5 c2 (.slice (some ⟨g6, 0, none⟩) (l.length + 1) cap6) (l ++ [av]) Bs (ns + 1) (av :: ss) Bd nd ds) (fun _ _ _ wq => wq.rangeLeft Bd rr)
            case atStart => exact ⟨_, R8.out, O8.out⟩
            case round =>
              obtain ⟨cnt, hR, hO⟩ := hrel
              have R := hid hR
              have O := hid hO
              clear hR hO R8 O8
              go_wp2_with (first | (at_next; refine wp_next rfl (.tmp 159) rfl rfl R.out ?_ ?_; rotate_left; intro x b w9 cnt9 hx hR9 hlt9 hF9 hen; have R9 := hid hR9; have O9 := hid (O.out.other hF9 fun i e => by subst e; exact HRR.out); have HX := hid (HDD.out x hx); have H9 := hid (HFD.out _ O9.out.k x HX.out.2); rw [HX.out.1] at H9; have HLT := hid hlt9; clear hx hR9 hlt9 hF9 O; generalize fiV c2 x 0 = fv9 at *; rotate_left))
              case roundEnd =>
                go_roundw
                case rel => exact ⟨j + 1, Z5, c2, (l ++ [av]), (ns + 1), (av :: ss), nd, ds, by omega, by go_num, O.out, I.out, SS.out, by (simp; omega), by omega, by omega⟩
                case measure => simp [intOf]; omega
              next =>
                refine H9.out.mono ?_
                rintro e w10 ⟨rfl, _, f10⟩
                have O10 := hid (O9.out.kept f10)
                have R10 := hid (R9.out.carry f10 id id)
                clear f10 O9 H9 hen
                go_wp2
                go_roundw
                case rel => exact ⟨cnt9, R10.out, O10.out⟩
                case measure => rw [R10.out.left, R.out.left]; exact HLT.out
      by_cases k4 : kd = 4
      · subst k4
        go_wp2_with fail
        refine (HOF.out _ _ Ob1.out.g).mono ?_
        rintro e w4 ⟨⟨hb, rfl, hb0, hb1⟩, f4⟩
        have O4 := hid (Ob1.out.kept f4)
        have Op4 := hid (Op1.out.kept f4)
        clear f4 HOF Ob1 Op1 p1 p2 p3 p4 p5 q0 q1 q2 q3 q4
        have q0 := Op4.out.c0
        have q1 := Op4.out.c1
        have q2 := Op4.out.c2
        have H5 := hid fun (w' : World) (h : Kn w w' a Z c) => n_revoke h xa
        have HCT := hid (I0.out.count xa)
        have HRV := hid fun ds' hd => I0.out.revoke (ds' := ds') xa hd
        have HFD := hid fun (w' : World) (h : Kn w w' a Z c) (x : Int) (hx : 0 ≤ x ∧ x ≤ 18446744073709551615) => n_find h hx.1 hx.2 (q := 0) (by omega)
        have HWD := hid O4.out.g.wd
        obtain ⟨yad, ycap, hyv, _⟩ := O4.out.g.form
        subst hyv
        go_wp2
        have G4 : Hid (Gv w4 w4 (fun _ => False) (.slice none 0 0) (gone c xa (l.take 0))) := Gv.fresh _ _ _
        go_loopw [19, 21, 22, 23, 108] (fun z _ _ _ i wq => ∃ q : Nat, q ≤ l.length ∧ i = .int .i64 q ∧ On w wq a Z c (.slice yad l.length ycap) l Bs ns ss Bd nd ds ∧ Gv w4 wq (fun _ => False) z (gone c xa (l.take q)) ∧ Fr (fun k => w4.heap.size ≤ k) w4 wq) (fun _ _ _ _ i _ => l.length - (intOf i).toNat)
        case atStart => exact ⟨0, by omega, rfl, O4.out, G4.out, Fr.refl _ _⟩
        case round =>
          obtain ⟨q, hq, rfl, hO, hG, hF⟩ := hrel
          have O := hid hO
          have G := hid hG
          have FQ := hid hF
          clear hO hG hF G4
          have Opq := hid (Op4.out.kept FQ.out.new)
          have q1q := Opq.out.c1
          have hgl : (gone c xa (l.take q)).length ≤ 300 := Nat.le_trans gone_len (by rw [List.length_take]; omega)
          by_cases hqt : q < l.length
          · obtain ⟨ad2, cap2, e2, hcell⟩ := O.out.g.form
            simp only [Value.slice.injEq, true_and] at e2
            obtain ⟨rfl, rfl⟩ := e2
            obtain ⟨gg, rfl, hgc⟩ := hcell q hqt
            have HXW := hid (HWD.out _ (List.getElem_mem hqt))
            have HGT := hid (gone_take (c := c) (a := xa) hqt)
            have H6 := hid (HFD.out _ O.out.k l[q] HXW.out)
            have hfz := fi_zero (c := c) (x := l[q])
            have hgb : goneB c xa l[q] = (match look c l[q] with | some s => decide (s.a = xa) | none => false) := rfl
            clear hcell
            generalize l[q] = x at *
            rcases hfz with ⟨fz1, s, fz2, fz3⟩ | ⟨fz1, fz2⟩
            · rw [fz1, fz3] at H6
              rw [fz2] at hgb
              simp only at hgb
              by_cases hsa : s.a = xa
              · rw [hgb, decide_eq_true hsa] at HGT
                rw [hsa] at H6
                clear hgb fz1 fz2 fz3 hsa
                generalize gone c xa (l.take q) = D at *
                have hw4 := FQ.out.size
                go_wp2_with fail
                refine H6.out.mono ?_
                rintro e w7 ⟨rfl, _, f7⟩
                have O7 := hid (O.out.kept f7)
                have G7 := hid (G.out.kept f7)
                have FQ7 := hid (FQ.out.trans (f7.mono fun _ _ e => e.elim))
                have q17 := (Opq.out.kept f7).c1
                have hw7 := FQ7.out.size
                clear f7 O G FQ H6 hgc
                go_wp2_with (at_builtin; refine push_h rfl (.tmp 126) (.tmp 128) rfl G7.out hw7 HXW.out (by omega) rfl rfl ?_; intro g8 cap8 w8 hG8 hF8; have G8 := hid hG8; have O8 := hid (O7.out.other hF8 fun i e => O4.out.fresh e); have FQ8 := hid (FQ7.out.trans hF8); clear hG8 hF8)
                go_roundw
                case rel => exact ⟨q + 1, by omega, by go_num, O8.out, by rw [HGT.out]; simpa using G8.out, FQ8.out⟩
                case measure => simp [intOf]; omega
              · rw [hgb, decide_eq_false hsa] at HGT
                have hb9 : (s.a == xa) = false := by simpa using hsa
                clear hgb fz1 fz2 fz3 hsa
                generalize s.a = sa at *
                generalize gone c xa (l.take q) = D at *
                go_wp2_with fail
                refine H6.out.mono ?_
                rintro e w7 ⟨rfl, _, f7⟩
                have O7 := hid (O.out.kept f7)
                have G7 := hid (G.out.kept f7)
                have FQ7 := hid (FQ.out.trans (f7.mono fun _ _ e => e.elim))
                have q17 := (Opq.out.kept f7).c1
                clear f7 O G FQ H6 hgc
                go_wp2
                go_roundw
                case rel => exact ⟨q + 1, by omega, by go_num, O7.out, by rw [HGT.out]; simpa using G7.out, FQ7.out⟩
                case measure => simp [intOf]; omega
            · rw [fz1] at H6
              rw [fz2] at hgb
              simp only at hgb
              rw [hgb] at HGT
              clear hgb fz1 fz2
              generalize fiV c x 0 = fv at *
              generalize gone c xa (l.take q) = D at *
              go_wp2_with fail
              refine H6.out.mono ?_
              rintro e w7 ⟨rfl, _, f7⟩
              have O7 := hid (O.out.kept f7)
              have G7 := hid (G.out.kept f7)
              have FQ7 := hid (FQ.out.trans (f7.mono fun _ _ e => e.elim))
              clear f7 O G FQ H6 hgc
              go_wp2
              go_roundw
              case rel => exact ⟨q + 1, by omega, by go_num, O7.out, by rw [HGT.out]; simpa using G7.out, FQ7.out⟩
              case measure => simp [intOf]; omega
          · obtain rfl : q = l.length := by omega
            rw [List.take_length] at G hgl
            have H6 := hid (H5.out _ O.out.k)
            rw [HCT.out] at H6
            clear HCT H5
            generalize rvS c xa = c2 at *
            generalize gone c xa l = D at *
            obtain ⟨zad, zcap, hzv, hzc⟩ := G.out.form
            subst hzv
            go_wp2_with fail
            refine H6.out.mono ?_
            rintro e w7 ⟨Z5, rfl, h7, hz7, f7⟩
            have O7 := hid (O.out.prog h7 hz7 f7)
            have HZW : Hid (∀ i, Z i → i < w4.heap.size) := fun i hi => O4.out.k.m.zlt i hi
            have G7 := hid (G.out.carry f7 HZW.out)
            have HDW := hid G.out.wd
            have hbd : Hid (Bd < w4.heap.size) := O4.out.d.lt
            clear h7 hz7 f7 H6 O G FQ hzc Opq q1q Op4 q0 q1 q2 O4 HZW
            go_wp2
            go_loopw [25, 140] (fun _ i wq => ∃ (q nd2 : Nat) (ds2 : List Int), q ≤ D.length ∧ i = .int .i64 q ∧ On w wq a Z5 c2 (.slice yad l.length ycap) l Bs ns ss Bd nd2 ds2 ∧ Gv w4 wq (fun _ => False) (.slice zad D.length zcap) D ∧ nd2 ≤ nd + q ∧ ∀ x ∈ ds2, x ∈ ds ∨ x ∈ D) (fun _ i _ => D.length - (intOf i).toNat)
            case atStart => exact ⟨0, nd, ds, by omega, rfl, O7.out, G7.out, by omega, fun x hx => .inl hx⟩
            case round =>
              obtain ⟨q, nd2, ds2, hq2, rfl, hO, hG, hn2, hd2⟩ := hrel
              have O := hid hO
              have G := hid hG
              have HD2 := hid hd2
              clear hO hG hd2 O7 G7
              by_cases hqt2 : q < D.length
              · obtain ⟨ad3, cap3, e3, hcell⟩ := G.out.form
                simp only [Value.slice.injEq, true_and] at e3
                obtain ⟨rfl, rfl⟩ := e3
                obtain ⟨gg, rfl, hgc⟩ := hcell q hqt2
                have HXW := hid (HDW.out _ (List.getElem_mem hqt2))
                have HXD := hid (List.getElem_mem hqt2)
                obtain ⟨w8, hst, hom, hfr⟩ := O.out.d.store (by unfold maxLen; omega) HXW.out
                have O8 := hid (O.out.died hom hfr)
                have G8 := hid (G.out.carry hfr fun i e => by subst e; exact hbd.out)
                clear hom hfr hcell
                generalize D[q] = x at *
                have HD3 : Hid (∀ z ∈ x :: ds2, z ∈ ds ∨ z ∈ D) := fun z hz => by
                  rcases List.mem_cons.1 hz with rfl | hz
                  · exact .inr HXD.out
                  · exact HD2.out z hz
                clear O G
                go_wp2
                go_roundw
                case rel => exact ⟨q + 1, nd2 + 1, x :: ds2, by omega, by go_num, O8.out, G8.out, by omega, HD3.out⟩
                case measure => simp [intOf]; omega
              · obtain rfl : q = D.length := by omega
                have I := hid (HRV.out ds2 HD2.out)
                have SS := SS0
                clear HRV HD2 G
                have HFD := hid fun (w' : World) (h : Kn w w' a Z5 c2) (x : Int) (hx : 0 ≤ x ∧ x ≤ 18446744073709551615) => n_find h hx.1 hx.2 (q := 0) (by omega)
                have HDD : Hid (∀ x, x ∈ ds2 → fiE c2 x 0 = 5 ∧ 0 ≤ x ∧ x ≤ 18446744073709551615) := fun x hx => ⟨by unfold fiE; rw [I.out.dead x hx], O.out.g.wd x (I.out.sub x hx)⟩
                have HRR := hid (O.out.fresh (Nat.le_refl _))
                go_wp2_with (first | (at_range; refine wp_range rfl (.tmp 158) rfl rfl O.out.d ?_; intro w8 cnt8 hR8 hF8; have O8 := hid (O.out.kept hF8); have R8 := hid hR8; clear hR8 hF8 O) | go_in)
                try go_frame
                generalize wr.heap.size = rr at *
                go_loopw [26, 27, 28] (fun _ _ _ wq => ∃ cnt : Nat, Rg wq Bd rr nd2 ds2 cnt ∧ On w wq a Z5 c2 (.slice yad l.length ycap) l Bs ns ss Bd nd2 ds2) (fun _ _ _ wq => wq.rangeLeft Bd rr)
                case atStart => exact ⟨_, R8.out, O8.out⟩
                case round =>
                  obtain ⟨cnt, hR, hO⟩ := hrel
                  have R := hid hR
                  have O := hid hO
                  clear hR hO R8 O8
                  go_wp2_with (first | (at_next; refine wp_next rfl (.tmp 159) rfl rfl R.out ?_ ?_; rotate_left; intro x b w9 cnt9 hx hR9 hlt9 hF9 hen; have R9 := hid hR9; have O9 := hid (O.out.other hF9 fun i e => by subst e; exact HRR.out); have HX := hid (HDD.out x hx); have H9 := hid (HFD.out _ O9.out.k x HX.out.2); rw [HX.out.1] at H9; have HLT := hid hlt9; clear hx hR9 hlt9 hF9 O; generalize fiV c2 x 0 = fv9 at *; rotate_left))
                  case roundEnd =>
                    go_roundw
                    case rel => exact ⟨j + 1, Z5, c2, l, ns, ss, nd2, ds2, by omega, by go_num, O.out, I.out, SS.out, by omega, by omega, by omega⟩
                    case measure => simp [intOf]; omega
                  next =>
                    refine H9.out.mono ?_
                    rintro e w10 ⟨rfl, _, f10⟩
                    have O10 := hid (O9.out.kept f10)
                    have R10 := hid (R9.out.carry f10 id id)
                    clear f10 O9 H9 hen
                    go_wp2
                    go_roundw
                    case rel => exact ⟨cnt9, R10.out, O10.out⟩
                    case measure => rw [R10.out.left, R.out.left]; exact HLT.out
      · have e1 : (kd == 1) = false := by simpa using k1
        have e3 : (kd == 3) = false := by simpa using k3
        have e4 : (kd == 4) = false := by simpa using k4
        clear k1 k3 k4
        go_wp2_with fail
        refine (HOF.out _ _ Ob1.out.g).mono ?_
        rintro e w4 ⟨⟨hb, rfl, hb0, hb1⟩, f4⟩
        have O4 := hid (Ob1.out.kept f4)
        have Op4 := hid (Op1.out.kept f4)
        clear f4 HOF Ob1 Op1 p1 p2 p3 p4 p5 q0 q1 q2 q3 q4
        have q0 := Op4.out.c0
        have q1 := Op4.out.c1
        have q2 := Op4.out.c2
        have I := I0
        have O := O4
        have SS := SS0
        clear I0 O4 Op4
        have HFD := hid fun (w' : World) (h : Kn w w' a Z c) (x : Int) (hx : 0 ≤ x ∧ x ≤ 18446744073709551615) => n_find h hx.1 hx.2 (q := 0) (by omega)
        have HDD : Hid (∀ x, x ∈ ds → fiE c x 0 = 5 ∧ 0 ≤ x ∧ x ≤ 18446744073709551615) := fun x hx => ⟨by unfold fiE; rw [I.out.dead x hx], O.out.g.wd x (I.out.sub x hx)⟩
        have HRR := hid (O.out.fresh (Nat.le_refl _))
        go_wp2_with (first | (at_range; refine wp_range rfl (.tmp 158) rfl rfl O.out.d ?_; intro w8 cnt8 hR8 hF8; have O8 := hid (O.out.kept hF8); have R8 := hid hR8; clear hR8 hF8 O) | go_in)
        try go_frame
        generalize w4.heap.size = rr at *
        go_loopw [26, 27, 28] (fun _ _ _ wq => ∃ cnt : Nat, Rg wq Bd rr nd ds cnt ∧ On w wq a Z c u7 l Bs ns ss Bd nd ds) (fun _ _ _ wq => wq.rangeLeft Bd rr)
        case atStart => exact ⟨_, R8.out, O8.out⟩
        case round =>
          obtain ⟨cnt, hR, hO⟩ := hrel
          have R := hid hR
          have O := hid hO
          clear hR hO R8 O8
          go_wp2_with (first | (at_next; refine wp_next rfl (.tmp 159) rfl rfl R.out ?_ ?_; rotate_left; intro x b w9 cnt9 hx hR9 hlt9 hF9 hen; have R9 := hid hR9; have O9 := hid (O.out.other hF9 fun i e => by subst e; exact HRR.out); have HX := hid (HDD.out x hx); have H9 := hid (HFD.out _ O9.out.k x HX.out.2); rw [HX.out.1] at H9; have HLT := hid hlt9; clear hx hR9 hlt9 hF9 O; generalize fiV c x 0 = fv9 at *; rotate_left))
          case roundEnd =>
            go_roundw
            case rel => exact ⟨j + 1, Z, c, l, ns, ss, nd, ds, by omega, by go_num, O.out, I.out, SS.out, by omega, by omega, by omega⟩
            case measure => simp [intOf]; omega
          next =>
            refine H9.out.mono ?_
            rintro e w10 ⟨rfl, _, f10⟩
            have O10 := hid (O9.out.kept f10)
            have R10 := hid (R9.out.carry f10 id id)
            clear f10 O9 H9 hen
            go_wp2
            go_roundw
            case rel => exact ⟨cnt9, R10.out, O10.out⟩
            case measure => rw [R10.out.left, R.out.left]; exact HLT.out
    · obtain rfl : j = ops.length := by omega
      go_wp2
      go_ret
      exact ⟨by simp, O00.out.k.nw.fr⟩
theorem once_walk (t : Int) (v : Value) (w : World) (g : Gr w) (h : ∃ ad cap l, v = .slice ad (List.length l) cap ∧ OpsAt w ad l ∧ l.length ≤ maxLen) : Calls Tryd.prog 4 #[.int .i64 t, v] w fun e w' => e = .returned (.bool true) ∧ Fr (fun _ => False) w w' := by
  by_cases ht : 0 ≤ t ∧ t ≤ 7
  · obtain ⟨ad, cap, l, rfl, ho, hm⟩ := h
    by_cases hn : 300 < l.length
    · exact once_long ht ad l.length cap hn hm w g
    · exact once_yes ht ad l cap hn w ho g
  · exact once_no ht v w g
end Go.Proofs.YtcleheapfgapaaaDoor
