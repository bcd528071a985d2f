/-
  The walk of the law ColourApart.
-/
import Derived.Test.YtcekpaicccmhkaaDoorCoApLaw
namespace Go.Proofs.YtcekpaicccmhkaaDoor
open Go.RowKit

/-- A row of the call's own, as a list that lies somewhere new. -/
theorem row_list {w : World} {base : Nat} {y : Value} {ys : List Int} (h : w.ownsRow base 3 1 y ys.length (ic ys)) : ∃ yad ycap, y = .slice yad ys.length ycap ∧ NumsAt w yad ys ∧ ∀ b off, yad = some ⟨b, off, none⟩ → base ≤ b := by
  rcases h.2 with ⟨e1, e2⟩ | ⟨g, cap, cur, e1, hb, _⟩
  · have e3 : ys = [] := by
      exact List.eq_nil_of_length_eq_zero e2
    subst e3
    exact ⟨none, 0, e1, fun i hi => by simp at hi, fun b off e => by cases e⟩
  · subst e1
    exact ⟨_, _, rfl, nums_row h, fun b off e => by simp only [Option.some.injEq, Addr.mk.injEq] at e; omega⟩
theorem wf_colour {n k : Nat} (p : Int) (hk : k ≤ 32 ∧ 1 ≤ k) : (Lit.int .i64 (colI n k p)).wf = true := by
  have h : -1 ≤ colI n k p ∧ colI n k p ≤ 32 := by
    unfold colI
    split
    · have := Nat.mod_lt p.toNat (show k > 0 by omega); omega
    · omega
  have e1 : IntKind.i64.min = -9223372036854775808 := by decide
  have e2 : IntKind.i64.max = 9223372036854775807 := by decide
  simp [Lit.wf, e1, e2]
  omega
set_option maxRecDepth 20000 in
set_option maxHeartbeats 4000000 in
theorem apart_yes {n k : Nat} (h : Cfg n k) (ad1 : Option Addr) (mine : List Int) (cap1 : Nat) (ad : Option Addr) (ops : List OpV) (cap : Nat) (w : World) (hmine : NumsAt w ad1 mine) (hmw : ∀ x ∈ mine, (Lit.int .i64 x).wf = true) (hm1 : mine.length ≤ maxLen) (hops : OpsAt w ad ops) (hww : ∀ i (h : i < ops.length), ∀ x ∈ ops[i].win, (Lit.int .i64 x).wf = true) (hb : ∀ i (h : i < ops.length), ops[i].win.length ≤ 1152921504606846976) (hlm : ops.length ≤ maxLen) (g : Gr w) : Calls Tryd.prog 4 #[.agg #[.int .i64 (n : Int), .int .i64 (k : Int)], .slice ad1 mine.length cap1, .slice ad ops.length cap] w fun e w' => e = .returned (.bool true) ∧ Fr (fun _ => False) w w' := by
  have HST := hid (Nw.start w g.pos)
  have H1 := hid fun w0 (nw : Nw w w0) => n_new h nw g
  have HA := hid fun w0 (f : Fr (fun _ => False) w w0) => awake_f w0 (g.fr f)
  have HLG := hid fun w0 (f : Fr (fun _ => False) w w0) => long_any ad ops cap w0 (hops.fr f) hb hlm
  have HOP := hid hops
  have HWW := hid hww
  have HMI := hid hmine
  have HMW := hid hmw
  have HX := hid (Cf.new w n k)
  have c0 := HX.out.c0
  have c1 := HX.out.c1
  have hn4 : n ≤ 4096 := by unfold Cfg at h; omega
  have hk32 : k ≤ 32 ∧ 1 ≤ k := by unfold Cfg at h; omega
  have hml : mine.length ≤ 9223372036854775807 := by simp only [maxLen] at hm1; omega
  clear h g hops hb hlm hww hmine hmw hm1
  go_enter Tryd.func4, Tryd.ntmps4
  go_wp2_with fail
  refine (H1.out _ (HST.out.alloc _)).mono ?_
  rintro e w1 ⟨a1, Z1, rfl, hz1, hmA, f1⟩
  have HM1 := hid hmA
  have HX1 := hid (HX.out.kept f1)
  clear f1 c0 c1 hz1 hmA HX
  have c0 := HX1.out.c0
  have c1 := HX1.out.c1
  go_wp2_with fail
  refine (H1.out _ HM1.out.nw).mono ?_
  rintro e w2 ⟨a2, Z2, rfl, hz2, hmB, f2⟩
  have HP2 : Hid (Ap w w2 a1 Z1 a2 Z2 k (List.replicate n false) (List.replicate n false)) := ⟨HM1.out.kept f2, hmB, fun i hi e => by have := HM1.out.m.zlt i hi; have := hz2 i e; omega⟩
  have HX2 := hid (HX1.out.kept f2)
  clear f2 HM1 HX1 c0 c1 hz2 hmB H1
  go_wp2_with fail
  refine (HA.out _ HP2.out.m.nw.fr).mono ?_
  rintro e w3 ⟨rfl, f3⟩
  have HP3 := hid (HP2.out.kept f3)
  have HX3 := hid (HX2.out.kept f3)
  clear f3 HP2 HX2
  go_wp2_with fail
  refine (HLG.out _ HP3.out.m.nw.fr).mono ?_
  rintro e w5 ⟨v, rfl, hv, f5⟩
  have HP5 := hid (HP3.out.kept f5)
  have HX5 := hid (HX3.out.kept f5)
  clear f5 HP3 HX3 HLG
  have HEND : Hid (∀ w0, Nw w w0 → Calls Tryd.prog 10 #[] w0 fun e w' => e = .returned (.bool true) ∧ Fr (fun _ => False) w0 w') := fun w0 nw => HA.out w0 nw.fr
  clear HA
  cases v
  case true =>
    go_wp2_with fail
    refine (HEND.out _ HP5.out.m.nw).mono ?_
    rintro e w6 ⟨rfl, f6⟩
    have HF6 := hid (HP5.out.m.nw.kept f6).fr
    clear f6
    go_wp2
    go_ret
    exact ⟨by simp, HF6.out⟩
  have HSH := hid (hv rfl)
  clear hv
  by_cases hm : 100 < mine.length
  · go_wp2_with fail
    refine (HEND.out _ HP5.out.m.nw).mono ?_
    rintro e w6 ⟨rfl, f6⟩
    have HF6 := hid (HP5.out.m.nw.kept f6).fr
    clear f6
    go_wp2
    go_ret
    exact ⟨by simp, HF6.out⟩
  have c0 := HX5.out.c0
  by_cases hp : 1024 < n
  · go_wp2_with fail
    refine (HEND.out _ HP5.out.m.nw).mono ?_
    rintro e w6 ⟨rfl, f6⟩
    have HF6 := hid (HP5.out.m.nw.kept f6).fr
    clear f6
    go_wp2
    go_ret
    exact ⟨by simp, HF6.out⟩
  obtain ⟨i0, hi, hz0, hz1, hz2⟩ := info_parts Tryd.infoInt
  have HI := hid (And.intro hi (And.intro hz0 (And.intro hz1 hz2)))
  clear hi hz0 hz1 hz2
  have hmm := @run_makeMap Tryd.prog
  clear HEND
  go_wp2
  have HP6 := hid (HP5.out.kept ((Fr.refl _ _).alloc (.map #[] 0)))
  have HO6 := hid (Om.new w5)
  have hB : Hid (w.heap.size ≤ w5.heap.size ∧ ¬ Z1 w5.heap.size ∧ ¬ Z2 w5.heap.size) := ⟨HP5.out.m.nw.le, HP5.out.m.new, HP5.out.n.new⟩
  clear HP5 HX5 c0 hmm
  generalize w5.heap.size = B at *
  go_loopw [58] (fun i wr => ∃ (j : Nat), j ≤ mine.length ∧ i = .int .i64 j ∧ Hid (Ap w wr a1 Z1 a2 Z2 k (List.replicate n false) (List.replicate n false)) ∧ Hid (Om wr B j (mine.take j).reverse)) (fun i _ => mine.length - (intOf i).toNat)
  case atStart => exact ⟨0, by omega, rfl, HP6, HO6⟩
  case round =>
    clear HP6 HO6
    obtain ⟨j, hj, rfl, HP, HO⟩ := hrel
    by_cases hlt : j < mine.length
    · obtain ⟨bb, off, rfl, hbb, hc⟩ := HMI.out.fr HP.out.m.nw.fr j hlt
      obtain ⟨w6, hrun, ho6, f6⟩ := HO.out.store (by simp only [maxLen]; omega) (HMW.out mine[j] (List.getElem_mem hlt))
      have HP7 := hid (HP.out.carry f6 (fun i e => by subst e; exact hB.out))
      have HO7 : Hid (Om w6 B (j + 1) (mine.take (j + 1)).reverse) := by
        show Om _ _ _ _
        rw [List.take_succ_eq_append_getElem hlt, List.reverse_append]
        exact ho6
      clear HP HO ho6 f6 HMI HMW HOP HWW HSH
      generalize mine[j] = x at *
      go_wp2
      go_roundw
      case rel => exact ⟨j + 1, by omega, by go_num, HP7, HO7⟩
      case measure => simp [intOf]; omega
    · have hj2 : j = mine.length := by omega
      subst hj2
      have HO7 : Hid (Om wr B mine.length mine.reverse) := by
        have := HO.out
        rwa [List.take_length] at this
      clear HO hj hlt
      go_wp2
      have HAG : Hid ((List.replicate n false).length = n ∧ Agree k mine (List.replicate n false) (List.replicate n false)) := ⟨by simp, Agree.refl _ _ _⟩
      have HFRE : Hid (∀ (w0 : World) (a : Nat) (Z : Nat → Prop) (hh : List Bool), Mn w w0 a Z k hh → Calls Tryd.prog 18 #[.pointer (some ⟨a, 0, none⟩), .slice ad1 mine.length cap1] w0 fun e w' => e = .returned (.int .i64 (frI k hh mine : Int)) ∧ Mn w w' a Z k hh ∧ Fr (fun _ => False) w0 w') := fun w0 a Z hh hm => n_free cap1 hm (HMI.out.fr hm.nw.fr) (off_old hm HMI.out) (by simp only [maxLen]; omega)
      have HTAK : Hid (∀ (w0 : World) (a : Nat) (Z : Nat → Prop) (hh : List Bool), Mn w w0 a Z k hh → Calls Tryd.prog 13 #[.pointer (some ⟨a, 0, none⟩), .slice ad1 mine.length cap1] w0 fun e w' => e = .returned (.tuple #[.int .i64 (takV k hh mine), .int .i64 (takE k hh mine)]) ∧ Mn w w' a Z k (takS k hh mine) ∧ Fr Z w0 w') := fun w0 a Z hh hm => n_take cap1 hm (HMI.out.fr hm.nw.fr) (off_old hm HMI.out) (by simp only [maxLen]; omega)
      have HCOL : Hid (∀ (w0 : World) (a : Nat) (Z : Nat → Prop) (hh : List Bool) (p : Int), Mn w w0 a Z k hh → Calls Tryd.prog 22 #[.pointer (some ⟨a, 0, none⟩), .int .i64 p] w0 fun e w' => e = .returned (.int .i64 (colI hh.length k p)) ∧ Mn w w' a Z k hh ∧ Fr (fun _ => False) w0 w') := fun w0 a Z hh p hm => n_colour hm p
      have HGIV : Hid (∀ (w0 : World) (a : Nat) (Z : Nat → Prop) (hh : List Bool) (p : Int), Mn w w0 a Z k hh → Calls Tryd.prog 15 #[.pointer (some ⟨a, 0, none⟩), .int .i64 p] w0 fun e w' => e = .returned (.int .i64 (giE hh p)) ∧ Mn w w' a Z k (giS hh p) ∧ Fr Z w0 w') := fun w0 a Z hh p hm => n_give hm p
      clear HMI HMW
      generalize hin : mine.length = ml at *
      clear hin
      go_loopw [67] (fun i wr => ∃ (j : Nat) (h1 h2 : List Bool), j ≤ ops.length ∧ i = .int .i64 j ∧ Hid (h1.length = n ∧ Agree k mine h1 h2) ∧ Hid (Ap w wr a1 Z1 a2 Z2 k h1 h2) ∧ Hid (Om wr B ml mine.reverse)) (fun i _ => ops.length - (intOf i).toNat)
      case atStart => exact ⟨0, _, _, by omega, rfl, HAG, HP, HO7⟩
      case round =>
        clear HP HO7 HAG
        obtain ⟨j, h1, h2, hj, rfl, HAG, HP, HO⟩ := hrel
        by_cases hlt : j < ops.length
        · have hw0 := HOP.out.win j hlt
          have hw20 := HSH.out.2 j hlt
          have hol := HSH.out.1
          have hww := HWW.out j hlt
          obtain ⟨bb, off, rfl, hbb, hc1, hc2, hc3, _⟩ := HOP.out.fr HP.out.m.nw.fr j hlt
          have HX := hid (Bx.new wr ops[j])
          clear HOP HSH HWW
          generalize ops[j] = o at *
          obtain ⟨kind, page, wad, win, wcap⟩ := o
          simp only at *
          have HW := hid hw0
          have HPa := hid (HP.out.kept ((Fr.refl _ _).alloc (.cells #[.int .i64 kind, .int .i64 page, .slice wad win.length wcap] 37)))
          have HOa := hid (HO.out.carry ((Fr.refl (fun _ => False) _).alloc (.cells #[.int .i64 kind, .int .i64 page, .slice wad win.length wcap] 37)) id)
          have x2 := HX.out.c2
          clear HP HO hw0
          go_wp2
          clear hc1 hc2 hc3 hbb x2
          have hp1 : Hid (0 < (wr.alloc (.cells #[.int .i64 kind, .int .i64 page, .slice wad win.length wcap] 37)).heap.size) := by show 0 < _; simp
          generalize wr.alloc (.cells #[.int .i64 kind, .int .i64 page, .slice wad win.length wcap] 37) = w1 at *
          generalize wr.heap.size = X at *
          go_loopw [16, 74] (fun y i wc => ∃ (q : Nat) (ys : List Int), q ≤ win.length ∧ i = .int .i64 q ∧ ys.length ≤ q ∧ Hid (∀ x ∈ ys, x ∉ mine) ∧ Hid (wc.ownsRow w1.heap.size 3 1 y ys.length (ic ys)) ∧ Hid (Nw w1 wc)) (fun _ i _ => win.length - (intOf i).toNat)
          case atStart => exact ⟨0, [], by omega, rfl, by simp, (fun x hx => by simp at hx), ⟨rfl, .inl ⟨rfl, rfl⟩⟩, Nw.start _ hp1.out⟩
          case round =>
            obtain ⟨q, ys, hq, rfl, hyl, HYM, HY, HNW⟩ := hrel
            by_cases hqt : q < win.length
            · obtain ⟨wb, woff, rfl, hwb, hwc⟩ := HW.out.fr (HPa.out.kept HNW.out.fr).m.nw.fr q hqt
              have hlk := (HOa.out.carry HNW.out.fr id).look (hww win[q] (List.getElem_mem hqt))
              have hxm : Hid (win[q] ∈ mine.reverse ↔ win[q] ∈ mine) := List.mem_reverse
              generalize win[q] = x at *
              by_cases hx : x ∈ mine
              · rw [decide_eq_true (hxm.out.2 hx)] at hlk
                clear hx hxm
                go_wp2
                go_roundw
                case rel => exact ⟨q + 1, ys, by omega, by go_num, by omega, HYM, HY, HNW⟩
                case measure => simp [intOf]; omega
              · rw [decide_eq_false (fun e => hx (hxm.out.1 e))] at hlk
                have hy20 : ys.length < 2000 := by omega
                have hbs : w1.heap.size ≤ wr.heap.size := HNW.out.le
                go_wp2_with (at_builtin; refine wpList_append_sep rfl (.tmp 82) (.tmp 84) 35 rfl w1.heap.size 3 i0 (.int .i64 0) 1 8 Tryd.underlying35 HI.out.1 HI.out.2.1 HI.out.2.2.1 HI.out.2.2.2 rfl (by decide) _ _ _ rfl (HY.out.alloc _) ⟨wr.heap.size, 0, none⟩ 1 1 (by decide) [.int .i64 x] rfl rfl ?c1 ?c2 ?c3 ?c4 ?c5 ?_)
                case c1 =>
                  intro j u hj
                  match j, hj with
                  | 0, hj => simp at hj; subst hj; simp [Addr.add]
                case c2 => intro u hu; simp at hu; subst hu; rfl
                case c3 => unfold maxLen; omega
                case c4 => omega
                case c5 => simp; omega
                · intro g cp w6 hown hgrow hsep
                  have HYM2 : Hid (∀ z ∈ ys ++ [x], z ∉ mine) := fun z hz => by
                    rcases List.mem_append.1 hz with hz | hz
                    · exact HYM.out z hz
                    · simp at hz; subst hz; exact hx
                  have HY2 : Hid (w6.ownsRow w1.heap.size 3 1 (.slice (some ⟨g, 0, none⟩) (ys.length + 1) cp) (ys ++ [x]).length (ic (ys ++ [x]))) := by
                    show World.ownsRow _ _ _ _ _ _ _
                    rw [show ic (ys ++ [x]) = ic ys ++ [.int .i64 x] by simp [ic], List.length_append]
                    exact hown
                  have HNW2 : Hid (Nw w1 w6) := ⟨HNW.out.1, Fr.grown (HNW.out.alloc _).2 hgrow (fun k e => .inl (HY.out.lt k e).1)⟩
                  clear hown hgrow hsep HY HNW HYM hlk hx hxm hwc hwb
                  go_wp2
                  go_roundw
                  case rel => exact ⟨q + 1, ys ++ [x], by omega, by go_num, by simp; omega, HYM2, HY2, HNW2⟩
                  case measure => simp [intOf]; omega
            · have hq2 : q = win.length := by omega
              subst hq2
              have HPb := hid (HPa.out.kept HNW.out.fr)
              have HOb := hid (HOa.out.carry HNW.out.fr id)
              have HXb := hid (HX.out.kept HNW.out.fr)
              obtain ⟨yad, ycap, rfl, hyn, hyb⟩ := row_list HY.out
              have HYN := hid hyn
              have HOFF : Hid (Off Z1 yad ys) := fun b off e _ hz => by have := hyb b off e; have := HPa.out.m.m.zlt b hz; omega
              clear HPa HOa HX HY HNW hyn hyb hq hqt
              have y0 := HXb.out.c0
              have y1 := HXb.out.c1
              by_cases hk1 : kind = 1
              · subst hk1
                have HTY := hid (n_take ycap HPb.out.m HYN.out HOFF.out (by simp only [maxLen]; omega))
                go_wp2_with fail
                refine HTY.out.mono ?_
                rintro e w9 ⟨rfl, hm9, f9⟩
                have HP9 := hid (HPb.out.step1 hm9 f9)
                have HO9 := hid (HOb.out.carry f9 hB.out.2.1)
                have HAG9 : Hid ((takS k h1 ys).length = n ∧ Agree k mine (takS k h1 ys) h2) := ⟨by rw [takS_length]; exact HAG.out.1, HAG.out.2.take HYM.out⟩
                clear hm9 f9 HPb HOb HXb HYN HOFF y0 y1 HTY
                have HFE : Hid (frI k h2 mine = frI k (takS k h1 ys) mine) := HAG9.out.2.free.symm
                have HFA := hid (HFRE.out _ _ _ _ HP9.out.m)
                generalize frI k (takS k h1 ys) mine = fr at HFA HFE
                go_wp2_with fail
                refine HFA.out.mono ?_
                rintro e w10 ⟨rfl, hm10, f10⟩
                have HP10 := hid (HP9.out.kept f10)
                have HO10 := hid (HO9.out.carry f10 id)
                clear hm10 f10 HP9 HO9 HFA
                have HFB := hid (HFRE.out _ _ _ _ HP10.out.n)
                rw [HFE.out] at HFB
                go_wp2_with fail
                refine HFB.out.mono ?_
                rintro e w11 ⟨rfl, hm11, f11⟩
                have HP11 := hid (HP10.out.kept f11)
                have HO11 := hid (HO10.out.carry f11 id)
                clear hm11 f11 HP10 HO10 HFB
                go_wp2
                go_roundw
                case rel => exact ⟨j + 1, _, _, by omega, by go_num, HAG9, HP11, HO11⟩
                case measure => simp [intOf]; omega
              by_cases hk2 : kind = 2
              · subst hk2
                have HCO := hid (HCOL.out _ _ _ _ page HPb.out.m)
                have hwf := hid (wf_colour (n := h1.length) page hk32)
                have HGV : Hid (colI h1.length k page ∉ mine → Agree k mine (giS h1 page) h2) := fun hc => HAG.out.2.give page hc
                generalize colI h1.length k page = c at *
                go_wp2_with fail
                refine HCO.out.mono ?_
                rintro e w9 ⟨rfl, hm9, f9⟩
                have HP9 := hid (HPb.out.kept f9)
                have HO9 := hid (HOb.out.carry f9 id)
                have HX9 := hid (HXb.out.kept f9)
                clear hm9 f9 HPb HOb HXb HYN HOFF y0 y1 HCO
                have hlk := HO9.out.look hwf.out
                have hxm : Hid (c ∈ mine.reverse ↔ c ∈ mine) := List.mem_reverse
                by_cases hx : c ∈ mine
                · rw [decide_eq_true (hxm.out.2 hx)] at hlk
                  have HAG9 := HAG
                  clear hx hxm HGV HX9
                  have HFE : Hid (frI k h2 mine = frI k h1 mine) := HAG9.out.2.free.symm
                  have HFA := hid (HFRE.out _ _ _ _ HP9.out.m)
                  generalize frI k h1 mine = fr at HFA HFE
                  go_wp2_with fail
                  refine HFA.out.mono ?_
                  rintro e w10 ⟨rfl, hm10, f10⟩
                  have HP10 := hid (HP9.out.kept f10)
                  have HO10 := hid (HO9.out.carry f10 id)
                  clear hm10 f10 HP9 HO9 HFA
                  have HFB := hid (HFRE.out _ _ _ _ HP10.out.n)
                  rw [HFE.out] at HFB
                  go_wp2_with fail
                  refine HFB.out.mono ?_
                  rintro e w11 ⟨rfl, hm11, f11⟩
                  have HP11 := hid (HP10.out.kept f11)
                  have HO11 := hid (HO10.out.carry f11 id)
                  clear hm11 f11 HP10 HO10 HFB
                  go_wp2
                  go_roundw
                  case rel => exact ⟨j + 1, _, _, by omega, by go_num, HAG9, HP11, HO11⟩
                  case measure => simp [intOf]; omega
                · rw [decide_eq_false (fun e => hx (hxm.out.1 e))] at hlk
                  have HAGc := hid (HGV.out hx)
                  have y1 := HX9.out.c1
                  have HGG := hid (HGIV.out _ _ _ _ page HP9.out.m)
                  clear hx hxm HGV HX9
                  go_wp2_with fail
                  refine HGG.out.mono ?_
                  rintro e w12 ⟨rfl, hm12, f12⟩
                  have HPc := hid (HP9.out.step1 hm12 f12)
                  have HOc := hid (HO9.out.carry f12 hB.out.2.1)
                  have HAG9 : Hid ((giS h1 page).length = n ∧ Agree k mine (giS h1 page) h2) := ⟨by rw [giS_length]; exact HAG.out.1, HAGc.out⟩
                  clear hm12 f12 HP9 HO9 y1 hlk HGG
                  have HP9 := HPc
                  have HO9 := HOc
                  clear HPc HOc
                  have HFE : Hid (frI k h2 mine = frI k (giS h1 page) mine) := HAG9.out.2.free.symm
                  have HFA := hid (HFRE.out _ _ _ _ HP9.out.m)
                  generalize frI k (giS h1 page) mine = fr at HFA HFE
                  go_wp2_with fail
                  refine HFA.out.mono ?_
                  rintro e w10 ⟨rfl, hm10, f10⟩
                  have HP10 := hid (HP9.out.kept f10)
                  have HO10 := hid (HO9.out.carry f10 id)
                  clear hm10 f10 HP9 HO9 HFA
                  have HFB := hid (HFRE.out _ _ _ _ HP10.out.n)
                  rw [HFE.out] at HFB
                  go_wp2_with fail
                  refine HFB.out.mono ?_
                  rintro e w11 ⟨rfl, hm11, f11⟩
                  have HP11 := hid (HP10.out.kept f11)
                  have HO11 := hid (HO10.out.carry f11 id)
                  clear hm11 f11 HP10 HO10 HFB
                  go_wp2
                  go_roundw
                  case rel => exact ⟨j + 1, _, _, by omega, by go_num, HAG9, HP11, HO11⟩
                  case measure => simp [intOf]; omega
              have HT1 := hid (HTAK.out _ _ _ _ HPb.out.m)
              have HOWN : Hid (takE k h1 mine = 0 → colI h1.length k (takV k h1 mine) ∈ mine) := fun e => take_own e
              have HAG9 : Hid ((takS k h1 mine).length = n ∧ Agree k mine (takS k h1 mine) (takS k h2 mine)) := ⟨by rw [takS_length]; exact HAG.out.1, HAG.out.2.both⟩
              have hev : Hid (takV k h2 mine = takV k h1 mine ∧ takE k h2 mine = takE k h1 mine) := ⟨HAG.out.2.takV.symm, HAG.out.2.takE.symm⟩
              have hlen : Hid ((takS k h1 mine).length = h1.length) := takS_length _ _ _
              have hwf := hid (wf_colour (n := h1.length) (takV k h1 mine) hk32)
              have hrg : takE k h1 mine = 0 ∨ takE k h1 mine = 13 := by unfold takE; split <;> simp
              generalize takV k h1 mine = tv at *
              generalize takE k h1 mine = te at *
              go_wp2_with fail
              refine HT1.out.mono ?_
              rintro e w9 ⟨rfl, hm9, f9⟩
              have HPc := hid (HPb.out.step1 hm9 f9)
              have HOc := hid (HOb.out.carry f9 hB.out.2.1)
              clear hm9 f9 HPb HOb HXb HYN HOFF y0 y1 HT1
              have HT2 := hid (HTAK.out _ _ _ _ HPc.out.n)
              rw [hev.out.1, hev.out.2] at HT2
              go_wp2_with fail
              refine HT2.out.mono ?_
              rintro e w12 ⟨rfl, hm12, f12⟩
              have HPd := hid (HPc.out.step2 hm12 f12)
              have HOd := hid (HOc.out.carry f12 hB.out.2.2)
              clear hm12 f12 HPc HOc HT2
              rcases hrg with rfl | rfl
              · have HCO := hid (HCOL.out _ _ _ _ tv HPd.out.m)
                rw [hlen.out] at HCO
                have hown := hid (HOWN.out rfl)
                generalize colI h1.length k tv = c at *
                go_wp2_with fail
                refine HCO.out.mono ?_
                rintro e w13 ⟨rfl, hm13, f13⟩
                have HP9 := hid (HPd.out.kept f13)
                have HO9 := hid (HOd.out.carry f13 id)
                clear hm13 f13 HPd HOd HCO
                have hlk := HO9.out.look hwf.out
                rw [decide_eq_true (List.mem_reverse.2 hown.out)] at hlk
                have HFE : Hid (frI k (takS k h2 mine) mine = frI k (takS k h1 mine) mine) := HAG9.out.2.free.symm
                have HFA := hid (HFRE.out _ _ _ _ HP9.out.m)
                generalize frI k (takS k h1 mine) mine = fr at HFA HFE
                go_wp2_with fail
                refine HFA.out.mono ?_
                rintro e w10 ⟨rfl, hm10, f10⟩
                have HP10 := hid (HP9.out.kept f10)
                have HO10 := hid (HO9.out.carry f10 id)
                clear hm10 f10 HP9 HO9 HFA
                have HFB := hid (HFRE.out _ _ _ _ HP10.out.n)
                rw [HFE.out] at HFB
                go_wp2_with fail
                refine HFB.out.mono ?_
                rintro e w11 ⟨rfl, hm11, f11⟩
                have HP11 := hid (HP10.out.kept f11)
                have HO11 := hid (HO10.out.carry f11 id)
                clear hm11 f11 HP10 HO10 HFB
                go_wp2
                go_roundw
                case rel => exact ⟨j + 1, _, _, by omega, by go_num, HAG9, HP11, HO11⟩
                case measure => simp [intOf]; omega
              · have HP9 := HPd
                have HO9 := HOd
                clear HPd HOd HOWN
                have HFE : Hid (frI k (takS k h2 mine) mine = frI k (takS k h1 mine) mine) := HAG9.out.2.free.symm
                have HFA := hid (HFRE.out _ _ _ _ HP9.out.m)
                generalize frI k (takS k h1 mine) mine = fr at HFA HFE
                go_wp2_with fail
                refine HFA.out.mono ?_
                rintro e w10 ⟨rfl, hm10, f10⟩
                have HP10 := hid (HP9.out.kept f10)
                have HO10 := hid (HO9.out.carry f10 id)
                clear hm10 f10 HP9 HO9 HFA
                have HFB := hid (HFRE.out _ _ _ _ HP10.out.n)
                rw [HFE.out] at HFB
                go_wp2_with fail
                refine HFB.out.mono ?_
                rintro e w11 ⟨rfl, hm11, f11⟩
                have HP11 := hid (HP10.out.kept f11)
                have HO11 := hid (HO10.out.carry f11 id)
                clear hm11 f11 HP10 HO10 HFB
                go_wp2
                go_roundw
                case rel => exact ⟨j + 1, _, _, by omega, by go_num, HAG9, HP11, HO11⟩
                case measure => simp [intOf]; omega
        · obtain rfl : j = ops.length := by omega
          clear HOP
          go_wp2
          go_ret
          exact ⟨by simp, HP.out.m.nw.fr⟩
theorem apart_walk (n k : Int) (v1 v2 : Value) (w : World) (g : Gr w) (hm : ∃ ad cap l, v1 = .slice ad (List.length l) cap ∧ NumsAt w ad l ∧ l.length ≤ maxLen ∧ ∀ y ∈ l, (Lit.int .i64 y).wf = true) (h : ∃ ad cap ops, v2 = .slice ad (List.length ops) cap ∧ OpsAt w ad ops ∧ (∀ i (h : i < ops.length), ops[i].win.length ≤ 1152921504606846976) ∧ ops.length ≤ maxLen ∧ ∀ i (h : i < ops.length), ∀ y ∈ ops[i].win, (Lit.int .i64 y).wf = true) : Calls Tryd.prog 4 #[.agg #[.int .i64 n, .int .i64 k], v1, v2] w fun e w' => e = .returned (.bool true) ∧ Fr (fun _ => False) w w' := by
  obtain ⟨ad1, cap1, mine, rfl, m1, m2, m3⟩ := hm
  obtain ⟨ad, cap, ops, rfl, g1, g2, g3, g4⟩ := h
  by_cases hc : Cfg n k
  · obtain ⟨n, rfl⟩ : ∃ m : Nat, n = (m : Int) := ⟨n.toNat, by unfold Cfg at hc; omega⟩
    obtain ⟨k, rfl⟩ : ∃ m : Nat, k = (m : Int) := ⟨k.toNat, by unfold Cfg at hc; omega⟩
    exact apart_yes hc ad1 mine cap1 ad ops cap w m1 m3 m2 g1 g4 g2 g3 g
  · exact apart_no hc _ _ w g
end Go.Proofs.YtcekpaicccmhkaaDoor
