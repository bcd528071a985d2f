/-
  The heap's own calls that take pages, hold and let go of slots: take, close, hold.
-/
import Derived.Test.YtihaifnenjngpaaGreatDoorHpCallsA
namespace Go.Proofs.YtihaifnenjngpaaGreatDoor
open Go.RowKit
open An

section
variable {W w : World} {x : Px} {M : Ms} {R : Rs} {O Q Q' : World → (Nat → Prop) → Prop} {ts : List (World → (Nat → Prop) → Prop)}
theorem hl_last : (hl x M R O (ts ++ [Q]))[ts.length + 10]? = some Q := by
  show (ts ++ [Q])[ts.length]? = some Q
  simp
theorem hl_set : (hl x M R O (ts ++ [Q])).set (ts.length + 10) Q' = hl x M R O (ts ++ [Q']) := by
  show Am _ _ _ _ :: O :: Blk _ _ :: Ct _ _ _ :: Tm _ _ :: Lv _ _ :: Fam _ _ :: Fam _ _ :: Mg _ _ _ :: Fam _ _ :: (ts ++ [Q]).set ts.length Q' = _
  rw [List.set_append_right _ _ (Nat.le_refl _)]
  simp
theorem hl_less (h : Things W w (hl x M R O (ts ++ [Q]))) : Things W w (hl x M R O ts) := Things.less (R := Q) h
/-- A row among the things is a list of numbers from now on. -/
theorem hl_row {y : Value} {r : List Int} (h : Things W w (hl x M R O (ts ++ [Rw 0 y r]))) : ∃ ad cap, y = .slice ad r.length cap ∧ Things W w (hl x M R O (ts ++ [Lv ad r])) := by
  obtain ⟨ad, cap, e, hn⟩ := h.row (ts.length + 10) hl_last
  refine ⟨ad, cap, e, ?_⟩
  have := h.view (ts.length + 10) hl_last (Lv.good ad r) fun U hU => by
    refine ⟨hn, fun b off e2 h0 => hU.2.1 b ?_, hU.2.2⟩
    rcases hU.1.2 with ⟨k1, k2⟩ | ⟨g, cap', cur, k1, _⟩
    · omega
    · rw [k1] at e ⊢
      simp only [Value.slice.injEq] at e
      rw [e2] at e
      simp only [Value.ownBlock, Option.some.injEq]
      have := e.1
      simp only [Option.some.injEq, Addr.mk.injEq] at this
      exact this.1
  rw [hl_set] at this
  exact this
/-- The window lies among the things. -/
def WinAt (x : Px) (bs : List UInt8) (ss : List Sp) (R : Rs) (O : World → (Nat → Prop) → Prop) (ts : List (World → (Nat → Prop) → Prop)) (j : Nat) (ad : Option Addr) (l : List Int) : Prop := 3 ≠ j ∧ ∀ has z, (hl x ⟨has, bs, ss⟩ R O (ts ++ z))[j]? = some (Lv ad l)
theorem WinAt.own (x : Px) (bs : List UInt8) (ss : List Sp) (R : Rs) (O : World → (Nat → Prop) → Prop) (ts : List (World → (Nat → Prop) → Prop)) : WinAt x bs ss R O ts 5 x.ad R.W := ⟨by decide, fun _ _ => rfl⟩
theorem WinAt.first (x : Px) (bs : List UInt8) (ss : List Sp) (R : Rs) (O : World → (Nat → Prop) → Prop) (ts : List (World → (Nat → Prop) → Prop)) (ad : Option Addr) (l : List Int) : WinAt x bs ss R O (Lv ad l :: ts) 10 ad l := ⟨by decide, fun _ _ => rfl⟩
set_option maxRecDepth 20000 in
set_option maxHeartbeats 1000000 in
theorem i_take_yes (cx : Cx W O) (h : Things W w (hl x M R O ts)) (hb : M.bs.length = M.has.length * 512) {j : Nat} {ad : Option Addr} {l : List Int} (hj : WinAt x M.bs M.ss R O ts j ad l) (hm : l.length ≤ maxLen) {n : Nat} (hn : n ≤ Cq.frI x.k M.has l) (hn2 : n ≤ 4096) (cap : Nat) : Calls Tryz.prog 87 #[.pointer (some ⟨x.h, 0, none⟩), .int .i64 (n : Int), .slice ad l.length cap] w fun e w' => ∃ ad' cap', e = .returned (.tuple #[.slice ad' (tkL x.k l n M.has).length cap', .int .i64 0]) ∧ Things W w' (hl x ⟨tkH x.k l n M.has, M.bs, M.ss⟩ R O (ts ++ [Lv ad' (tkL x.k l n M.has)])) := by
  have T0 : Hid (Things W w (hl x ⟨tkH x.k l 0 M.has, M.bs, M.ss⟩ R O (ts ++ [Rw 0 (.slice none 0 0) (tkL x.k l 0 M.has)]))) := h.more (Rw.good ..) (Rw.empty 0 w) (Fr.refl _ _) fun _ e => e.elim
  have HT : Hid (∀ i, i < n → ∃ p : Nat, Cq.takV x.k (tkH x.k l i M.has) l = p ∧ Cq.takE x.k (tkH x.k l i M.has) l = 0 ∧ p < M.has.length) := fun i hi => by
    have := tkH_fr (k := x.k) (W := l) i M.has (by omega)
    obtain ⟨p, h1, _, h3, h4, _⟩ := Cq.take_yes (k := x.k) (has := tkH x.k l i M.has) (l := l) (by omega)
    rw [tkH_length] at h1
    exact ⟨p, h3, h4, h1⟩
  have HC : Hid (∀ i wr y, Things W wr (hl x ⟨tkH x.k l i M.has, M.bs, M.ss⟩ R O (ts ++ [Rw 0 y (tkL x.k l i M.has)])) → Calls Tryz.prog 146 #[.pointer (some ⟨x.m, 0, none⟩), .slice ad l.length cap] wr fun e w' => e = .returned (.tuple #[.int .i64 (Cq.takV x.k (tkH x.k l i M.has) l), .int .i64 (Cq.takE x.k (tkH x.k l i M.has) l)]) ∧ Things W w' (hl x ⟨tkH x.k l (i + 1) M.has, M.bs, M.ss⟩ R O (ts ++ [Rw 0 y (tkL x.k l i M.has)]))) := fun i wr y h1 => by
    have := z_ctake h1 (cx.at h1) j (hj.2 _ _) hj.1 hm cap
    rw [← tkH_succ] at this
    exact this
  have hle := z_ale h
  have hd : Int.tdiv (M.bs.length : Int) 512 = (M.has.length : Int) := by rw [hb, Int.tdiv_eq_ediv_of_nonneg (by omega)]; omega
  have hw : IntKind.i64.wrap (M.has.length : Int) = (M.has.length : Int) := pw ⟨by omega, by omega⟩
  have HL : Hid (∀ i, (tkL x.k l i M.has).length = i) := fun i => tkL_length i M.has
  have HN : Hid (∀ i, tkL x.k l (i + 1) M.has = tkL x.k l i M.has ++ [Cq.takV x.k (tkH x.k l i M.has) l]) := fun i => tkL_snoc i M.has
  clear h hj hm hn cx hb
  generalize hH : M.has.length = H at *
  generalize hbl : (M.bs.length : Int) = bl at *
  have HBL := hid hbl
  have HHL := hid hH
  clear hbl hH
  generalize l.length = ls at *
  go_enter Tryz.func87, Tryz.ntmps87
  go_wp2_with fail
  refine wp_scope_jumps 0 (fun _ _ => False) (fun _ _ => 0) rfl ?first (fun _ _ h => h.elim)
  case first =>
    go_wp2_with fail
    go_loopw [8, 14] (fun y i wr => ∃ q : Nat, q ≤ n ∧ i = .int .i64 q ∧ Hid (Things W wr (hl x ⟨tkH x.k l q M.has, M.bs, M.ss⟩ R O (ts ++ [Rw 0 y (tkL x.k l q M.has)])))) (fun _ i _ => n - (intOf i).toNat)
    case atStart => exact ⟨0, by omega, rfl, T0⟩
    case round =>
      clear T0
      obtain ⟨q, hq, rfl, T⟩ := hrel
      by_cases hlt : q < n
      · obtain ⟨p, e1, e2, e3⟩ := HT.out q hlt
        have c1 := hob_c1 (z_blk T.out)
        have h1 := HC.out q wr _ T.out
        rw [e1, e2] at h1
        have H1 := hid h1
        have E1 := hid e1
        have hp : (p : Int) < H := by omega
        clear h1 T HT HC e1 e2 e3
        go_wp2_with fail
        refine H1.out.mono ?_
        rintro e w1 ⟨rfl, h1⟩
        have T1 := hid h1
        have HR := hid (h1.push (ts.length + 10) hl_last).1
        clear h1 H1 c1
        go_wp2_with (at_builtin; refine push1s rfl (.tmp 27) (.tmp 29) rfl 0 _ _ (p : Int) rfl (HR.out.alloc _) w1.heap.size rfl (by simp) (by rw [HL.out]; omega) (by omega) ?_)
        intro g cap6 w6 hown hg hw6
        have T6 : Hid (Things W w6 (hl x ⟨tkH x.k l (q + 1) M.has, M.bs, M.ss⟩ R O (ts ++ [Rw 0 (.slice (some ⟨g, 0, none⟩) ((tkL x.k l q M.has).length + 1) cap6) (tkL x.k l (q + 1) M.has)]))) := by
          have := (T1.out.push (ts.length + 10) hl_last).2 ((Fr.refl _ _).alloc _) hown rfl hg (hw6.imp id fun e => by rw [e]; simp)
          rw [hl_set, ← E1.out, ← HN.out] at this
          exact this
        have c0 := hob_c0 (z_blk T6.out)
        have h2 := z_asize T6.out
        have hbl := HBL.out
        simp only [hbl] at h2
        have H2 := hid h2
        clear hown hg hw6 HR T1 E1 h2 hbl
        generalize (tkL x.k l q M.has).length + 1 = ln at *
        go_wp2_with fail
        refine H2.out.mono ?_
        rintro e w7 ⟨rfl, hw7⟩
        obtain rfl := hw7.symm
        clear H2
        go_wp2
        go_roundw
        case rel => exact ⟨q + 1, by omega, by go_num, T6⟩
        case measure => simp [intOf]; omega
      · obtain rfl : q = n := by omega
        obtain ⟨ad', cap', rfl, h9⟩ := hl_row T.out
        have T9 := hid h9
        clear T h9 HT HC HN
        go_wp2
        rw [jump_ret]
        go_ret2
        exact ⟨ad', cap', by simp, T9.out⟩
set_option maxRecDepth 20000 in
set_option maxHeartbeats 1000000 in
theorem i_take_no (cx : Cx W O) (h : Things W w (hl x M R O ts)) (hb : M.bs.length = M.has.length * 512) {j : Nat} {ad : Option Addr} {l : List Int} (hj : WinAt x M.bs M.ss R O ts j ad l) (hm : l.length ≤ maxLen) {n : Nat} (hn : Cq.frI x.k M.has l < n) (hn2 : n ≤ 4096) (cap : Nat) : Calls Tryz.prog 87 #[.pointer (some ⟨x.h, 0, none⟩), .int .i64 (n : Int), .slice ad l.length cap] w fun e w' => e = .returned (.tuple #[.slice none 0 0, .int .i64 13]) ∧ Things W w' (hl x M R O ts) := by
  have T0 : Hid (Things W w (hl x ⟨tkH x.k l 0 M.has, M.bs, M.ss⟩ R O (ts ++ [Rw 0 (.slice none 0 0) (tkL x.k l 0 M.has)]))) := h.more (Rw.good ..) (Rw.empty 0 w) (Fr.refl _ _) fun _ e => e.elim
  have HT : Hid (∀ i, i < Cq.frI x.k M.has l → ∃ p : Nat, Cq.takV x.k (tkH x.k l i M.has) l = p ∧ Cq.takE x.k (tkH x.k l i M.has) l = 0 ∧ p < M.has.length) := fun i hi => by
    have := tkH_fr (k := x.k) (W := l) i M.has (by omega)
    obtain ⟨p, h1, _, h3, h4, _⟩ := Cq.take_yes (k := x.k) (has := tkH x.k l i M.has) (l := l) (by omega)
    rw [tkH_length] at h1
    exact ⟨p, h3, h4, h1⟩
  have HX : Hid (Cq.takV x.k (tkH x.k l (Cq.frI x.k M.has l) M.has) l = 0 ∧ Cq.takE x.k (tkH x.k l (Cq.frI x.k M.has l) M.has) l = 13 ∧ tkH x.k l (Cq.frI x.k M.has l + 1) M.has = tkH x.k l (Cq.frI x.k M.has l) M.has ∧ giL (tkL x.k l (Cq.frI x.k M.has l) M.has) (tkH x.k l (Cq.frI x.k M.has l) M.has) = M.has) := by
    have h0 := tkH_fr (k := x.k) (W := l) (Cq.frI x.k M.has l) M.has (Nat.le_refl _)
    obtain ⟨t1, t2, t3⟩ := Cq.take_no (k := x.k) (has := tkH x.k l (Cq.frI x.k M.has l) M.has) (l := l) (by omega)
    exact ⟨t1, t2, by rw [tkH_succ]; exact t3, giL_tk _ _ (Nat.le_refl _)⟩
  have HG : Hid (∀ has wr ts p, Things W wr (hl x ⟨has, M.bs, M.ss⟩ R O ts) → Calls Tryz.prog 147 #[.pointer (some ⟨x.m, 0, none⟩), .int .i64 p] wr fun e w' => e = .returned (.int .i64 (Cq.giE has p)) ∧ Things W w' (hl x ⟨Cq.giS has p, M.bs, M.ss⟩ R O ts)) := fun has wr ts p h1 => z_cgive h1 (cx.at h1) p
  have HC : Hid (∀ i wr y, Things W wr (hl x ⟨tkH x.k l i M.has, M.bs, M.ss⟩ R O (ts ++ [Rw 0 y (tkL x.k l i M.has)])) → Calls Tryz.prog 146 #[.pointer (some ⟨x.m, 0, none⟩), .slice ad l.length cap] wr fun e w' => e = .returned (.tuple #[.int .i64 (Cq.takV x.k (tkH x.k l i M.has) l), .int .i64 (Cq.takE x.k (tkH x.k l i M.has) l)]) ∧ Things W w' (hl x ⟨tkH x.k l (i + 1) M.has, M.bs, M.ss⟩ R O (ts ++ [Rw 0 y (tkL x.k l i M.has)]))) := fun i wr y h1 => by
    have := z_ctake h1 (cx.at h1) j (hj.2 _ _) hj.1 hm cap
    rw [← tkH_succ] at this
    exact this
  have hle := z_ale h
  have hd : Int.tdiv (M.bs.length : Int) 512 = (M.has.length : Int) := by rw [hb, Int.tdiv_eq_ediv_of_nonneg (by omega)]; omega
  have hw : IntKind.i64.wrap (M.has.length : Int) = (M.has.length : Int) := pw ⟨by omega, by omega⟩
  have HL : Hid (∀ i, (tkL x.k l i M.has).length = i) := fun i => tkL_length i M.has
  have HN : Hid (∀ i, tkL x.k l (i + 1) M.has = tkL x.k l i M.has ++ [Cq.takV x.k (tkH x.k l i M.has) l]) := fun i => tkL_snoc i M.has
  clear h hj hm cx hb
  generalize hf : Cq.frI x.k M.has l = f at *
  clear hf
  generalize hH : M.has.length = H at *
  generalize hbl : (M.bs.length : Int) = bl at *
  have HBL := hid hbl
  have HHL := hid hH
  clear hbl hH
  generalize l.length = ls at *
  go_enter Tryz.func87, Tryz.ntmps87
  go_wp2_with fail
  refine wp_scope_jumps 0 (fun a' w' => ∃ (y u1 u2 u3 u4 u5 u6 u7 u9 u10 u11 u12 u13 u14 u15 u16 u17 u18 u19 u20 u21 u22 u23 u24 u25 u26 u27 u28 u29 u30 u31 u32 u33 u34 u35 u36 u37 u38 u39 u40 u41 u42 u43 u44 u45 u46 u47 u48 u49 u50 u51 u52 u53 : Value), Hid (Things W w' (hl x ⟨tkH x.k l f M.has, M.bs, M.ss⟩ R O (ts ++ [Rw 0 y (tkL x.k l f M.has)]))) ∧ a' = { tmps := #[.pointer (some ⟨x.h, 0, none⟩), u1, u2, u3, u4, u5, u6, u7, y, u9, u10, u11, u12, u13, u14, u15, u16, u17, u18, u19, u20, u21, u22, u23, u24, u25, u26, u27, u28, u29, u30, u31, u32, u33, u34, u35, u36, u37, u38, u39, u40, u41, u42, u43, u44, u45, u46, u47, u48, u49, u50, u51, u52, u53], defers := [] }) (fun _ _ => 0) rfl ?first ?pass
  case first =>
    go_wp2_with fail
    go_loopw [8, 14] (fun y i wr => ∃ q : Nat, q ≤ f ∧ i = .int .i64 q ∧ Hid (Things W wr (hl x ⟨tkH x.k l q M.has, M.bs, M.ss⟩ R O (ts ++ [Rw 0 y (tkL x.k l q M.has)])))) (fun _ i _ => n - (intOf i).toNat)
    case atStart => exact ⟨0, by omega, rfl, T0⟩
    case round =>
      clear T0
      obtain ⟨q, hq, rfl, T⟩ := hrel
      have hqn : (q : Int) < n := by omega
      by_cases hlt : q < f
      · obtain ⟨p, e1, e2, e3⟩ := HT.out q hlt
        have c1 := hob_c1 (z_blk T.out)
        have h1 := HC.out q wr _ T.out
        rw [e1, e2] at h1
        have H1 := hid h1
        have E1 := hid e1
        have hp : (p : Int) < H := by omega
        clear h1 T HT HC e1 e2 e3 HX HG
        go_wp2_with fail
        refine H1.out.mono ?_
        rintro e w1 ⟨rfl, h1⟩
        have T1 := hid h1
        have HR := hid (h1.push (ts.length + 10) hl_last).1
        clear h1 H1 c1
        go_wp2_with (at_builtin; refine push1s rfl (.tmp 27) (.tmp 29) rfl 0 _ _ (p : Int) rfl (HR.out.alloc _) w1.heap.size rfl (by simp) (by rw [HL.out]; omega) (by omega) ?_)
        intro g cap6 w6 hown hg hw6
        have T6 : Hid (Things W w6 (hl x ⟨tkH x.k l (q + 1) M.has, M.bs, M.ss⟩ R O (ts ++ [Rw 0 (.slice (some ⟨g, 0, none⟩) ((tkL x.k l q M.has).length + 1) cap6) (tkL x.k l (q + 1) M.has)]))) := by
          have := (T1.out.push (ts.length + 10) hl_last).2 ((Fr.refl _ _).alloc _) hown rfl hg (hw6.imp id fun e => by rw [e]; simp)
          rw [hl_set, ← E1.out, ← HN.out] at this
          exact this
        have c0 := hob_c0 (z_blk T6.out)
        have h2 := z_asize T6.out
        have hbl := HBL.out
        simp only [hbl] at h2
        have H2 := hid h2
        clear hown hg hw6 HR T1 E1 h2 hbl
        generalize (tkL x.k l q M.has).length + 1 = ln at *
        go_wp2_with fail
        refine H2.out.mono ?_
        rintro e w7 ⟨rfl, hw7⟩
        obtain rfl := hw7.symm
        clear H2
        go_wp2
        go_roundw
        case rel => exact ⟨q + 1, by omega, by go_num, T6⟩
        case measure => simp [intOf]; omega
      · obtain rfl : q = f := by omega
        have c1 := hob_c1 (z_blk T.out)
        have h1 := HC.out q wr _ T.out
        rw [HX.out.1, HX.out.2.1, HX.out.2.2.1] at h1
        have H1 := hid h1
        clear h1 T HT HC HX HG
        go_wp2_with fail
        refine H1.out.mono ?_
        rintro e w1 ⟨rfl, h1⟩
        have T1 := hid h1
        clear h1 H1 c1
        go_wp2
        go_step3
        exact ⟨rfl, _, _, _, _, _, _, _, _, _, _, _, _, _, _, _, _, _, _, _, _, _, _, _, _, _, _, _, _, _, _, _, _, _, _, _, _, _, _, _, _, _, _, _, _, _, _, _, _, _, _, _, _, _, T1, rfl⟩
  case pass =>
    rintro a' w1 ⟨y, u1, u2, u3, u4, u5, u6, u7, u9, u10, u11, u12, u13, u14, u15, u16, u17, u18, u19, u20, u21, u22, u23, u24, u25, u26, u27, u28, u29, u30, u31, u32, u33, u34, u35, u36, u37, u38, u39, u40, u41, u42, u43, u44, u45, u46, u47, u48, u49, u50, u51, u52, u53, T, rfl⟩
    obtain ⟨ad', cap', rfl, h9⟩ := hl_row T.out
    have T1 : Hid (Things W w1 (hl x ⟨giL ((tkL x.k l f M.has).take 0) (tkH x.k l f M.has), M.bs, M.ss⟩ R O (ts ++ [Lv ad' (tkL x.k l f M.has)]))) := h9
    have hlen : (tkL x.k l f M.has).length = f := HL.out f
    clear T h9 T0 HT HC
    generalize tkL x.k l f M.has = L at *
    generalize tkH x.k l f M.has = hf at *
    clear HN HL
    subst hlen
    go_wp2_with fail
    go_loopw [43] (fun i wr => ∃ q : Nat, q ≤ L.length ∧ i = .int .i64 q ∧ Hid (Things W wr (hl x ⟨giL (L.take q) hf, M.bs, M.ss⟩ R O (ts ++ [Lv ad' L])))) (fun i _ => L.length - (intOf i).toNat)
    case atStart => exact ⟨0, by omega, rfl, T1⟩
    case round =>
      clear T1
      obtain ⟨q, hq, rfl, T⟩ := hrel
      by_cases hlt : q < L.length
      · obtain ⟨bb, off, rfl, hbb, hc1⟩ := T.out.nums (ts.length + 10) hl_last q hlt
        have c1 := hob_c1 (z_blk T.out)
        have h1 := HG.out _ wr _ L[q] T.out
        rw [← giL_take L hf q hlt] at h1
        have H1 := hid h1
        clear h1 T HG HX
        generalize L[q] = p at *
        generalize Cq.giE (giL (List.take q L) hf) p = E at *
        go_wp2_with fail
        refine H1.out.mono ?_
        rintro e w2 ⟨rfl, h2⟩
        have T2 := hid h2
        clear h2 H1 c1 hc1
        go_wp2
        go_roundw
        case rel => exact ⟨q + 1, by omega, by go_num, T2⟩
        case measure => simp [intOf]; omega
      · obtain rfl : q = L.length := by omega
        have T9 : Hid (Things W wr (hl x M R O ts)) := by
          have := hl_less T.out
          rw [List.take_length, HX.out.2.2.2] at this
          exact this
        clear T HX HG
        go_wp2
        rw [jump_ret]
        go_ret2
        exact ⟨by simp, T9.out⟩
end
end Go.Proofs.YtihaifnenjngpaaGreatDoor
