/-
  A block that is given out is all 0, and no block that is had is touched by what is done with others: the walk of the law PageZero.
-/
import Derived.Test.YthndakhnhnipnaaDoorPaHad
import Derived.Test.YthndakhnhnipnaaDoorPaOpen
import Derived.Test.YthndakhnhnipnaaDoorObjs2
import Derived.Test.YthndakhnhnipnaaDoorPaClean
import Derived.Test.YthndakhnhnipnaaDoorPaMap
import Derived.Test.YthndakhnhnipnaaDoorAnMake
namespace Go.Proofs.YthndakhnhnipnaaDoor
open Go.RowKit
open An

theorem mine_none (k : Nat) : mineOf ⟨0, k, 0, [], []⟩ (List.replicate 512 0) = fun _ => none := funext fun _ => if_neg fun h => Nat.not_lt_zero _ h.2.1
theorem set_byte {W w : World} {ts : List (World → (Nat → Prop) → Prop)} (h : Things W w ts) (j : Nat) {B : Nat} {d : List UInt8} {T : TypeId} (hj : ts[j]? = some (Blk B (.cells (bc d).toArray T (0, 0)))) (m z : Nat) (_hz : z < 1000000) : Things W (w.setCell ⟨B, m, none⟩ (.int .u8 ((z : Int) % 256))) (ts.set j (Blk B (.cells (bc (d.set m (UInt8.ofNat (z % 256)))).toArray T (0, 0)))) := by
  have e : ((z : Int) % 256) = (((UInt8.ofNat (z % 256)).toNat : Nat) : Int) := by simp
  rw [e, ← bc_set]
  exact h.setAt j hj m _
theorem run_row_text {w : World} {B u : Nat} {d : List UInt8} (h : w.heap[B]? = some (.cells (bc d).toArray 5 (0, 0))) (hd : d.length = u) : (convert 54 9 (.slice (some ⟨B, 0, none⟩) u u)).run Tryd.prog w = .ok (.string ⟨d.toArray⟩) w := by
  rw [run_bytes_string 54 5 9 Tryd.underlying54 Tryd.underlying5 Tryd.underlying9 h 0 u u (by omega), List.drop_zero, List.take_of_length_le (by omega)]
/-- The page, and the owners' table beside it, behind so many rounds. -/
def Zr (W w : World) (a p BM k j : Nat) : Prop := ∃ bs ss g n, Pg.Ok g bs ∧ g.Clean bs ∧ bs.length = 512 ∧ g.base = 0 ∧ g.kind = k ∧ ss.length ≤ 40 * j ∧ n ≤ j ∧ Things W w [Pa a bs ss p g, Ms BM n (mineOf g bs) g.used]
set_option maxRecDepth 20000 in
set_option maxHeartbeats 4000000 in
theorem zero_walk (kd : Int) (sv : Value) (w : World) (gr : Gr w) (h : ∃ ad cap l, sv = .slice ad (List.length l) cap ∧ OpsAt w ad l ∧ l.length ≤ maxLen) : Calls Tryd.prog 4 #[.int .i64 kd, sv] w fun e w' => e = .returned (.bool true) ∧ Fr (fun _ => False) w w' := by
  obtain ⟨ad, cap, l, rfl, hops, hmax⟩ := h
  obtain ⟨k, hk, hkl⟩ := modu kd 8 8 rfl (by omega) (by omega)
  obtain ⟨⟨u1, u2⟩, ⟨v1, v2⟩, uv, hu, hv⟩ := kind_facts k (by omega)
  have HST := hid (Things.start (Nw.start w))
  have H1 : Hid (∀ w0, Things w w0 [] → Calls Tryd.prog 7 #[.int .i64 512] w0 fun e w' => ∃ a, e = .returned (.tuple #[.pointer (some ⟨a, 0, none⟩), .int .i64 0]) ∧ Things w w' [Am 70 a (List.replicate 512 0) []]) := fun w0 h => g_arena h 512 (by omega)
  have H3 : Hid (∀ w0 a, Things w w0 [Am 70 a (List.replicate 512 0) []] → Calls Tryd.prog 9 #[.pointer (some ⟨a, 0, none⟩), .int .i64 0, .int .i64 k] w0 fun e w' => ∃ p, e = .returned (.tuple #[.pointer (some ⟨p, 0, none⟩), .int .i64 0]) ∧ Things w w' [Pa a (List.replicate 512 0) [] p ⟨0, k, 0, [], []⟩]) := fun w0 a h => g_new h gr 0 rfl (x := 0) (by omega) (by rw [List.length_replicate]; decide)
  have HA : Hid (∀ w0 ts, Things w w0 ts → Calls Tryd.prog 11 #[] w0 fun e w' => e = .returned (.bool true) ∧ Things w w' ts) := fun w0 ts h => awake_t h gr
  have HU : Hid (∀ w0 ts, Things w w0 ts → Calls Tryd.prog 30 #[.int .i64 k] w0 fun e w' => e = .returned (.int .i64 (pu k)) ∧ Things w w' ts) := fun w0 ts h => (r_unit k (K.start ((gr.fr h.nw.fr).tab))).mono fun e w' ⟨he, kk⟩ => ⟨by rw [he, hu], h.kept kk.fr⟩
  have HP : Hid (∀ w0 ts, Things w w0 ts → Calls Tryd.prog 31 #[.int .i64 k] w0 fun e w' => e = .returned (.int .i64 (pp k)) ∧ Things w w' ts) := fun w0 ts h => (r_per k (K.start ((gr.fr h.nw.fr).tab))).mono fun e w' ⟨he, kk⟩ => ⟨by rw [he, hv], h.kept kk.fr⟩
  have HOK : Hid (Pg.Ok ⟨0, k, 0, [], []⟩ (List.replicate 512 0)) := Pg.fresh_ok (by omega) (by rw [List.length_replicate]; decide)
  have HO := hid hops
  have HG := hid gr
  have HUV : Hid (pu k * pp k ≤ 512) := uv
  clear hops gr hu hv uv
  go_enter Tryd.func4, Tryd.ntmps4
  go_wp2_with fail
  refine (H1.out _ HST.out).mono ?_
  rintro e w1 ⟨a, rfl, h1⟩
  have T1 := hid h1
  clear h1 HST H1
  go_wp2_with fail
  refine (H3.out _ _ T1.out).mono ?_
  rintro e w3 ⟨p, rfl, h1⟩
  have T3 := hid h1
  clear h1 T1 H3
  go_wp2_with fail
  refine (HA.out _ _ T3.out).mono ?_
  rintro e w5 ⟨rfl, h1⟩
  have T5 := hid h1
  clear h1 T3
  by_cases hgr : 300 < l.length
  · have hgr2 : 300 < (l.length : Int) := by omega
    clear HO HG HOK hgr
    go_wp2_with fail
    refine (HA.out _ _ T5.out).mono ?_
    rintro e w6 ⟨rfl, h6⟩
    have T6 := hid h6.nw
    clear h6 T5 HA
    go_wp2
    go_ret
    exact ⟨by simp, T6.out.fr⟩
  have hgr2 : (l.length : Int) ≤ 300 := by omega
  clear HA
  go_wp2_with fail
  refine (HU.out _ _ T5.out).mono ?_
  rintro e w6 ⟨rfl, h6⟩
  have T6 := hid h6
  clear h6 T5 HU
  have hmm := @run_makeMap Tryd.prog
  have T7 : Hid (Things w (w6.alloc (.map #[] 0)) [Pa a (List.replicate 512 0) [] p ⟨0, k, 0, [], []⟩, Ms w6.heap.size 0 (fun _ => none) 0]) := T6.out.map
  go_wp2
  have HCL : Hid (Pg.Clean ⟨0, k, 0, [], []⟩ (List.replicate 512 0)) := Pg.fresh_clean 512
  generalize hBM : w6.heap.size = BM at *
  generalize hu : pu k = u at *
  have HU2 : Hid (pu k = u) := hu
  have TZ : Hid (Zr w (w6.alloc (.map #[] 0)) a p BM k 0) := ⟨List.replicate 512 0, [], ⟨0, k, 0, [], []⟩, 0, HOK.out, HCL.out, List.length_replicate, rfl, rfl, by simp, by omega, by rw [mine_none]; exact T7.out⟩
  clear HOK HCL T7 T6 hmm hu
  go_loopw [11, 12, 13, 14, 15, 16, 17, 18, 19, 20, 21, 22, 23, 24, 25, 26, 62] (fun _ _ _ _ _ _ _ _ _ _ _ _ _ _ _ _ i wr => ∃ j : Nat, j ≤ l.length ∧ i = .int .i64 j ∧ Zr w wr a p BM k j) (fun _ _ _ _ _ _ _ _ _ _ _ _ _ _ _ _ i _ => l.length - (intOf i).toNat)
  case atStart => exact ⟨0, by omega, rfl, TZ.out⟩
  case round =>
    clear TZ
    obtain ⟨j, hj, rfl, bs, ss, g, n, hok, hcl, hlen, hgb, hgk, hs, hn, ht⟩ := hrel
    have T := hid ht
    have OK0 := hid hok
    have CL0 := hid hcl
    have LN0 := hid hlen
    have GB0 := hid hgb
    have GK0 := hid hgk
    clear ht hok hcl hlen hgb hgk
    by_cases hlt : j < l.length
    case neg =>
      clear HO HP
      go_wp2
      go_ret
      exact ⟨by simp, T.out.nw.fr⟩
    obtain ⟨bb, off, rfl, hbb, p1, p2, hB⟩ := HO.out.fr T.out.nw.fr j hlt
    generalize hop : l[j] = op2 at p1 p2 hB
    obtain ⟨kd, x⟩ := op2
    simp only at p1 p2 hB
    have HX0 : Hid (I64 x) := hB
    have T0 : Hid (Things w (wr.alloc (.cells #[.int .i64 kd, .int .i64 x] 39)) [Pa a bs ss p g, Ms BM n (mineOf g bs) g.used, Blk wr.heap.size (.cells #[.int .i64 kd, .int .i64 x] 39 (0, 0))]) := T.out.blk _
    clear hop HO T hB
    generalize hw0 : wr.alloc (.cells #[.int .i64 kd, .int .i64 x] 39) = wa at T0
    generalize hB : wr.heap.size = B at T0
    obtain ⟨c0, c1, fz⟩ := cellZ (T0.out.cells 2 rfl)
    by_cases hk1 : kd = 1 ∨ kd = 4
    case neg =>
      have hk1 : ¬ kd = 1 ∧ ¬ kd = 4 := ⟨fun e => hk1 (.inl e), fun e => hk1 (.inr e)⟩
      obtain ⟨n1, n4⟩ := hk1
      have hwf := wf_small HX0.out.1 HX0.out.2
      obtain ⟨sx, hlk⟩ := (T0.out.os 1 rfl).lookOk hwf
      have HF : Hid (∀ w0, Things w w0 [Pa a bs ss p g, Ms BM n (mineOf g bs) g.used, Blk B (.cells #[.int .i64 kd, .int .i64 x] 39 (0, 0))] → Calls Tryd.prog 15 #[.pointer (some ⟨p, 0, none⟩), .int .i64 x] w0 fun e w' => e = .returned (.int .i64 (pfE g x)) ∧ Things w w' [Pa a (pfB g bs x) (pfT g ss x) p (pfS g x), Ms BM n (mineOf g bs) g.used, Blk B (.cells #[.int .i64 kd, .int .i64 x] 39 (0, 0))]) := fun w0 h => g_free h HG.out 0 rfl OK0.out (by omega) HX0.out
      obtain ⟨f1, f2, f3, f4⟩ := OK0.out.freed CL0.out x
      have hsome : (mineOf g bs x).isSome = decide (pfE g x = 0) := by
        unfold mineOf
        by_cases hm : g.May x
        · rw [if_pos hm, decide_eq_true (f3.2 hm)]; rfl
        · rw [if_neg hm, decide_eq_false fun e => hm (f3.1 e)]; rfl
      have HN : Hid (∀ w0, Things w w0 [Pa a (pfB g bs x) (pfT g ss x) p (pfS g x), Ms BM n (fun y => if y = x then none else mineOf g bs y) (g.used - (if (mineOf g bs x).isSome then 1 else 0)), Blk B (.cells #[.int .i64 kd, .int .i64 x] 39 (0, 0))] → Things w w0 [Pa a (pfB g bs x) (pfT g ss x) p (pfS g x), Ms BM n (mineOf (pfS g x) (pfB g bs x)) (pfS g x).used, Blk B (.cells #[.int .i64 kd, .int .i64 x] 39 (0, 0))]) := fun w0 h => by
        have e1 : (fun y => if y = x then none else mineOf g bs y) = mineOf (pfS g x) (pfB g bs x) := funext fun y => (f2 y).symm
        have e2 : g.used - (if (mineOf g bs x).isSome then 1 else 0) = (pfS g x).used := by
          rw [hsome]
          by_cases hm : g.May x
          · rw [decide_eq_true (f3.2 hm), if_pos rfl]; have := f4 hm; omega
          · rw [decide_eq_false fun e => hm (f3.1 e), if_neg (by simp), show pfS g x = g from if_neg hm]; omega
        rw [e1, e2] at h
        exact h
      have OKX := hid (OK0.out.free x).1
      have CLX := hid f1
      have LNX : Hid ((pfB g bs x).length = 512) := (OK0.out.free x).2.trans LN0.out
      have BX : Hid ((pfS g x).base = 0) := (pfS_at g x).1.trans GB0.out
      have KX : Hid ((pfS g x).kind = k) := (pfS_at g x).2.trans GK0.out
      have SX : Hid ((pfT g ss x).length ≤ 40 * j + 2) := by have := pfT_len g ss x; show _ ≤ _; omega
      rw [hsome] at hlk
      have HWF := hid hwf
      clear f1 f2 f3 f4 OK0 CL0 LN0 GB0 GK0 hwf hsome
      generalize pfB g bs x = bs2 at *
      generalize pfT g ss x = ss2 at *
      generalize pfS g x = g2 at *
      generalize hpe : pfE g x = pe at *
      go_wp2_with fail
      refine (HF.out _ T0.out).mono ?_
      rintro e w4 ⟨rfl, h4⟩
      have T4 := hid h4
      obtain ⟨c40, c41, _⟩ := cellZ (h4.cells 2 rfl)
      clear h4 HF T0 c0 c1 fz hlk hw0
      by_cases hp0 : pe = 0
      · subst hp0
        have HPOS : Hid (∀ y : Nat, y < pp k → g2.pos y + u ≤ 512 ∧ g2.pos y = y * u) := fun y hy => by
          have h1 := OKX.out.block (x := y) (by rw [KX.out]; exact hy)
          have h2 := OKX.out.fit
          have e : g2.pos y = y * u := by unfold Pg.pos; rw [KX.out, BX.out, HU2.out, Nat.zero_add]
          rw [KX.out, HU2.out, BX.out] at h1
          exact ⟨by omega, e⟩
        have HR1 : Hid (∀ w0 ss1 m rr (y q : Nat), y < pp k → q = y * u → ss1.length ≤ 20000 → Things w w0 [Pa a bs2 ss1 p g2, Ws BM rr n (mineOf g2 bs2) g2.used m, Blk B (.cells #[.int .i64 kd, .int .i64 x] 39 (0, 0))] → Calls Tryd.prog 26 #[.pointer (some ⟨a, 0, none⟩), .int .i64 q, .int .i64 u] w0 fun e w' => e = .returned (.tuple #[.string ⟨(blk g2 bs2 y).toArray⟩, .int .i64 0]) ∧ ∃ ss2, ss2.length ≤ ss1.length + 1 ∧ Things w w' [Pa a bs2 ss2 p g2, Ws BM rr n (mineOf g2 bs2) g2.used m, Blk B (.cells #[.int .i64 kd, .int .i64 x] 39 (0, 0))]) := fun w0 ss1 m rr y q hy hq hs h => (g_read h 0 rfl q u (by have := HPOS.out y hy; rw [LNX.out]; omega) (by omega)).mono fun e w' ⟨he, h2⟩ => ⟨by rw [he]; unfold blk; rw [KX.out, HU2.out, (HPOS.out y hy).2, hq], _, noted_le _ _ _ _, h2⟩
        have HR2 : Hid (∀ w0 ss1 m rr (y : Nat), g2.May (y : Int) → y < pp k → Things w w0 [Pa a bs2 ss1 p g2, Ws BM rr n (mineOf g2 bs2) g2.used m, Blk B (.cells #[.int .i64 kd, .int .i64 x] 39 (0, 0))] → Calls Tryd.prog 21 #[.pointer (some ⟨p, 0, none⟩), .int .i64 y] w0 fun e w' => e = .returned (.bool true) ∧ Things w w' [Pa a bs2 ss1 p g2, Ws BM rr n (mineOf g2 bs2) g2.used m, Blk B (.cells #[.int .i64 kd, .int .i64 x] 39 (0, 0))]) := fun w0 ss1 m rr y hm hy h => by
          have := g_has h HG.out 0 rfl OKX.out (k := (y : Int)) ⟨by omega, by omega⟩
          rwa [decide_eq_true hm] at this
        have HR3 : Hid (∀ w0 ss1, Things w w0 [Pa a bs2 ss1 p g2, Ms BM n (mineOf g2 bs2) g2.used, Blk B (.cells #[.int .i64 kd, .int .i64 x] 39 (0, 0))] → Calls Tryd.prog 17 #[.pointer (some ⟨p, 0, none⟩)] w0 fun e w' => e = .returned (.int .i64 (g2.used : Int)) ∧ Things w w' [Pa a bs2 ss1 p g2, Ms BM n (mineOf g2 bs2) g2.used, Blk B (.cells #[.int .i64 kd, .int .i64 x] 39 (0, 0))]) := fun w0 ss1 h => g_used h HG.out 0 rfl OKX.out
        have HUS : Hid (g2.used ≤ 32) := by
          have h1 := OKX.out.fr
          have h2 := (kind_facts g2.kind OKX.out.kind).2.1.2
          show g2.fresh - g2.R.length - g2.D.length ≤ 32
          omega
        have HMY : Hid (∀ (z : Int) s, mineOf g2 bs2 z = some s → ∃ y : Nat, z = y ∧ y < pp k ∧ g2.May z ∧ s = blk g2 bs2 y) := fun z s h => by
          unfold mineOf at h
          by_cases hm : g2.May z
          · rw [if_pos hm] at h
            cases h
            exact ⟨z.toNat, by have := hm.1.1; omega, by have := hm.1.2; rw [KX.out] at this; have := hm.1.1; omega, hm, rfl⟩
          · rw [if_neg hm] at h; cases h
        go_wp2_with (first | (at_delete; refine wp_drop rfl (.tmp 83) (.tmp 85) rfl rfl rfl HWF.out (T4.out.os 1 rfl) ?_; intro w5 hO5 hF5; have T : Hid (Things w w5 [Pa a bs2 ss2 p g2, Ms BM n (mineOf g2 bs2) g2.used, Blk B (.cells #[.int .i64 kd, .int .i64 x] 39 (0, 0))]) := HN.out _ (T4.out.turned 1 rfl hO5 hF5); clear hO5 hF5 T4 HN) | (at_range; refine wp_range rfl (.tmp 156) rfl rfl (T.out.os 1 rfl) ?_; intro w8 hR8 hF8; have T8 : Hid (Things w w8 [Pa a bs2 ss2 p g2, Ws BM w5.heap.size n (mineOf g2 bs2) g2.used g2.used, Blk B (.cells #[.int .i64 kd, .int .i64 x] 39 (0, 0))]) := T.out.walkOn 1 rfl (Nat.le_refl _) hR8 hF8; clear hR8 hF8 T) | go_in)
        try go_frame
        generalize w5.heap.size = rr at *
        go_loopw [23, 24, 25, 26] (fun _ _ _ _ wq => ∃ (m : Nat) (ss1 : List Sp), ss1.length + m ≤ ss2.length + g2.used ∧ Things w wq [Pa a bs2 ss1 p g2, Ws BM rr n (mineOf g2 bs2) g2.used m, Blk B (.cells #[.int .i64 kd, .int .i64 x] 39 (0, 0))]) (fun _ _ _ _ wq => wq.rangeLeft BM rr)
        case atStart => exact ⟨_, ss2, by omega, T8.out⟩
        case round =>
          clear T8
          obtain ⟨m, ss1, hss1, hT⟩ := hrel
          have TQ := hid hT
          have hs1 : ss1.length ≤ 20000 := by have := SX.out; have := HUS.out; omega
          clear hT
          go_wp2_with (first | (at_next; refine wp_next rfl (.tmp 157) rfl rfl (TQ.out.rg 1 rfl) ?_ ?_; rotate_left; intro z s w9 m9 hz hR9 hlt9 hF9 hen; have T9 : Hid (Things w w9 [Pa a bs2 ss1 p g2, Ws BM rr n (mineOf g2 bs2) g2.used m9, Blk B (.cells #[.int .i64 kd, .int .i64 x] 39 (0, 0))]) := TQ.out.walked 1 rfl hR9 hF9; have HLT := hid hlt9; have HLF := hid (TQ.out.rg 1 rfl).left; obtain ⟨y, rfl, hy, hmy, rfl⟩ := HMY.out z s hz; obtain ⟨q, hq⟩ : ∃ q, q = y * u := ⟨_, rfl⟩; have hqq : (y : Int) * (u : Int) = (q : Int) := (by rw [hq, Int.natCast_mul]); have hq5 : q ≤ 512 := Nat.le_trans (Nat.le_of_eq (hq.trans (HPOS.out y hy).2.symm)) (Nat.le_trans (Nat.le_add_right _ _) (HPOS.out y hy).1); have R9 := hid fun w0 h => HR1.out w0 ss1 m9 rr y q hy hq hs1 h; have R10 := hid fun w0 ss2 h => HR2.out w0 ss2 m9 rr y hmy hy h; clear hz hR9 hlt9 hF9 hmy TQ hq; generalize blk g2 bs2 y = sy at *; rotate_left))
          · have TE : Hid (Things w wr [Pa a bs2 ss1 p g2, Ms BM n (mineOf g2 bs2) g2.used, Blk B (.cells #[.int .i64 kd, .int .i64 x] 39 (0, 0))]) := TQ.out.walkEnd 1 rfl
            clear TQ
            refine (HR3.out _ _ TE.out).mono ?_
            rintro e w12 ⟨rfl, h12⟩
            have T12 := hid h12
            have hlen := fun ty => (h12.os 1 rfl).len ty
            clear h12 TE
            go_wp2
            go_roundw
            case rel => exact ⟨j + 1, by omega, by go_num, bs2, ss1, g2, n, OKX.out, CLX.out, LNX.out, BX.out, KX.out, by have := SX.out; have := HUS.out; omega, by omega, Things.less (ts := [_, _]) T12.out⟩
            case measure => simp [intOf]; omega
          · refine (R9.out _ T9.out).mono ?_
            rintro e w10 ⟨rfl, ss2, hs2, h10⟩
            have T10 := hid h10
            clear h10 T9 R9 hen
            go_wp2_with fail
            refine (R10.out _ _ T10.out).mono ?_
            rintro e w11 ⟨rfl, h11⟩
            have T11 := hid h11
            clear h11 T10 R10
            go_wp2
            go_roundw
            case rel => exact ⟨m9, ss2, by have := HLT.out; omega, T11.out⟩
            case measure => rw [(T11.out.rg 1 rfl).left, HLF.out]; exact HLT.out
      · have hpb : (pe == 0) = false := by simpa using hp0
        have HPOS : Hid (∀ y : Nat, y < pp k → g2.pos y + u ≤ 512 ∧ g2.pos y = y * u) := fun y hy => by
          have h1 := OKX.out.block (x := y) (by rw [KX.out]; exact hy)
          have h2 := OKX.out.fit
          have e : g2.pos y = y * u := by unfold Pg.pos; rw [KX.out, BX.out, HU2.out, Nat.zero_add]
          rw [KX.out, HU2.out, BX.out] at h1
          exact ⟨by omega, e⟩
        have HR1 : Hid (∀ w0 ss1 m rr (y q : Nat), y < pp k → q = y * u → ss1.length ≤ 20000 → Things w w0 [Pa a bs2 ss1 p g2, Ws BM rr n (mineOf g2 bs2) g2.used m, Blk B (.cells #[.int .i64 kd, .int .i64 x] 39 (0, 0))] → Calls Tryd.prog 26 #[.pointer (some ⟨a, 0, none⟩), .int .i64 q, .int .i64 u] w0 fun e w' => e = .returned (.tuple #[.string ⟨(blk g2 bs2 y).toArray⟩, .int .i64 0]) ∧ ∃ ss2, ss2.length ≤ ss1.length + 1 ∧ Things w w' [Pa a bs2 ss2 p g2, Ws BM rr n (mineOf g2 bs2) g2.used m, Blk B (.cells #[.int .i64 kd, .int .i64 x] 39 (0, 0))]) := fun w0 ss1 m rr y q hy hq hs h => (g_read h 0 rfl q u (by have := HPOS.out y hy; rw [LNX.out]; omega) (by omega)).mono fun e w' ⟨he, h2⟩ => ⟨by rw [he]; unfold blk; rw [KX.out, HU2.out, (HPOS.out y hy).2, hq], _, noted_le _ _ _ _, h2⟩
        have HR2 : Hid (∀ w0 ss1 m rr (y : Nat), g2.May (y : Int) → y < pp k → Things w w0 [Pa a bs2 ss1 p g2, Ws BM rr n (mineOf g2 bs2) g2.used m, Blk B (.cells #[.int .i64 kd, .int .i64 x] 39 (0, 0))] → Calls Tryd.prog 21 #[.pointer (some ⟨p, 0, none⟩), .int .i64 y] w0 fun e w' => e = .returned (.bool true) ∧ Things w w' [Pa a bs2 ss1 p g2, Ws BM rr n (mineOf g2 bs2) g2.used m, Blk B (.cells #[.int .i64 kd, .int .i64 x] 39 (0, 0))]) := fun w0 ss1 m rr y hm hy h => by
          have := g_has h HG.out 0 rfl OKX.out (k := (y : Int)) ⟨by omega, by omega⟩
          rwa [decide_eq_true hm] at this
        have HR3 : Hid (∀ w0 ss1, Things w w0 [Pa a bs2 ss1 p g2, Ms BM n (mineOf g2 bs2) g2.used, Blk B (.cells #[.int .i64 kd, .int .i64 x] 39 (0, 0))] → Calls Tryd.prog 17 #[.pointer (some ⟨p, 0, none⟩)] w0 fun e w' => e = .returned (.int .i64 (g2.used : Int)) ∧ Things w w' [Pa a bs2 ss1 p g2, Ms BM n (mineOf g2 bs2) g2.used, Blk B (.cells #[.int .i64 kd, .int .i64 x] 39 (0, 0))]) := fun w0 ss1 h => g_used h HG.out 0 rfl OKX.out
        have HUS : Hid (g2.used ≤ 32) := by
          have h1 := OKX.out.fr
          have h2 := (kind_facts g2.kind OKX.out.kind).2.1.2
          show g2.fresh - g2.R.length - g2.D.length ≤ 32
          omega
        have HMY : Hid (∀ (z : Int) s, mineOf g2 bs2 z = some s → ∃ y : Nat, z = y ∧ y < pp k ∧ g2.May z ∧ s = blk g2 bs2 y) := fun z s h => by
          unfold mineOf at h
          by_cases hm : g2.May z
          · rw [if_pos hm] at h
            cases h
            exact ⟨z.toNat, by have := hm.1.1; omega, by have := hm.1.2; rw [KX.out] at this; have := hm.1.1; omega, hm, rfl⟩
          · rw [if_neg hm] at h; cases h
        go_wp2_with (first | (at_delete; refine wp_drop rfl (.tmp 83) (.tmp 85) rfl rfl rfl HWF.out (T4.out.os 1 rfl) ?_; intro w5 hO5 hF5; have T : Hid (Things w w5 [Pa a bs2 ss2 p g2, Ms BM n (mineOf g2 bs2) g2.used, Blk B (.cells #[.int .i64 kd, .int .i64 x] 39 (0, 0))]) := HN.out _ (T4.out.turned 1 rfl hO5 hF5); clear hO5 hF5 T4 HN) | (at_range; refine wp_range rfl (.tmp 156) rfl rfl (T.out.os 1 rfl) ?_; intro w8 hR8 hF8; have T8 : Hid (Things w w8 [Pa a bs2 ss2 p g2, Ws BM w5.heap.size n (mineOf g2 bs2) g2.used g2.used, Blk B (.cells #[.int .i64 kd, .int .i64 x] 39 (0, 0))]) := T.out.walkOn 1 rfl (Nat.le_refl _) hR8 hF8; clear hR8 hF8 T) | go_in)
        try go_frame
        generalize w5.heap.size = rr at *
        go_loopw [23, 24, 25, 26] (fun _ _ _ _ wq => ∃ (m : Nat) (ss1 : List Sp), ss1.length + m ≤ ss2.length + g2.used ∧ Things w wq [Pa a bs2 ss1 p g2, Ws BM rr n (mineOf g2 bs2) g2.used m, Blk B (.cells #[.int .i64 kd, .int .i64 x] 39 (0, 0))]) (fun _ _ _ _ wq => wq.rangeLeft BM rr)
        case atStart => exact ⟨_, ss2, by omega, T8.out⟩
        case round =>
          clear T8
          obtain ⟨m, ss1, hss1, hT⟩ := hrel
          have TQ := hid hT
          have hs1 : ss1.length ≤ 20000 := by have := SX.out; have := HUS.out; omega
          clear hT
          go_wp2_with (first | (at_next; refine wp_next rfl (.tmp 157) rfl rfl (TQ.out.rg 1 rfl) ?_ ?_; rotate_left; intro z s w9 m9 hz hR9 hlt9 hF9 hen; have T9 : Hid (Things w w9 [Pa a bs2 ss1 p g2, Ws BM rr n (mineOf g2 bs2) g2.used m9, Blk B (.cells #[.int .i64 kd, .int .i64 x] 39 (0, 0))]) := TQ.out.walked 1 rfl hR9 hF9; have HLT := hid hlt9; have HLF := hid (TQ.out.rg 1 rfl).left; obtain ⟨y, rfl, hy, hmy, rfl⟩ := HMY.out z s hz; obtain ⟨q, hq⟩ : ∃ q, q = y * u := ⟨_, rfl⟩; have hqq : (y : Int) * (u : Int) = (q : Int) := (by rw [hq, Int.natCast_mul]); have hq5 : q ≤ 512 := Nat.le_trans (Nat.le_of_eq (hq.trans (HPOS.out y hy).2.symm)) (Nat.le_trans (Nat.le_add_right _ _) (HPOS.out y hy).1); have R9 := hid fun w0 h => HR1.out w0 ss1 m9 rr y q hy hq hs1 h; have R10 := hid fun w0 ss2 h => HR2.out w0 ss2 m9 rr y hmy hy h; clear hz hR9 hlt9 hF9 hmy TQ hq; generalize blk g2 bs2 y = sy at *; rotate_left))
          · have TE : Hid (Things w wr [Pa a bs2 ss1 p g2, Ms BM n (mineOf g2 bs2) g2.used, Blk B (.cells #[.int .i64 kd, .int .i64 x] 39 (0, 0))]) := TQ.out.walkEnd 1 rfl
            clear TQ
            refine (HR3.out _ _ TE.out).mono ?_
            rintro e w12 ⟨rfl, h12⟩
            have T12 := hid h12
            have hlen := fun ty => (h12.os 1 rfl).len ty
            clear h12 TE
            go_wp2
            go_roundw
            case rel => exact ⟨j + 1, by omega, by go_num, bs2, ss1, g2, n, OKX.out, CLX.out, LNX.out, BX.out, KX.out, by have := SX.out; have := HUS.out; omega, by omega, Things.less (ts := [_, _]) T12.out⟩
            case measure => simp [intOf]; omega
          · refine (R9.out _ T9.out).mono ?_
            rintro e w10 ⟨rfl, ss2, hs2, h10⟩
            have T10 := hid h10
            clear h10 T9 R9 hen
            go_wp2_with fail
            refine (R10.out _ _ T10.out).mono ?_
            rintro e w11 ⟨rfl, h11⟩
            have T11 := hid h11
            clear h11 T10 R10
            go_wp2
            go_roundw
            case rel => exact ⟨m9, ss2, by have := HLT.out; omega, T11.out⟩
            case measure => rw [(T11.out.rg 1 rfl).left, HLF.out]; exact HLT.out
    have hk2 : kd = 1 ∨ (¬ kd = 1 ∧ kd = 4) := by omega
    clear hk1
    by_cases hfl : g.Full
    · rcases hk2 with rfl | ⟨hk0, rfl⟩
      · obtain ⟨e1, e2, e3, e4⟩ := pa_full (bs := bs) hfl
        have e5 : paT g ss = ss := if_pos (.inl hfl)
        have HF : Hid (∀ w0, Things w w0 [Pa a bs ss p g, Ms BM n (mineOf g bs) g.used, Blk B (.cells #[.int .i64 1, .int .i64 x] 39 (0, 0))] → Calls Tryd.prog 13 #[.pointer (some ⟨p, 0, none⟩)] w0 fun e w' => e = .returned (.tuple #[.int .i64 0, .int .i64 10]) ∧ Things w w' [Pa a bs ss p g, Ms BM n (mineOf g bs) g.used, Blk B (.cells #[.int .i64 1, .int .i64 x] 39 (0, 0))]) := fun w0 h => by
          have := g_alloc h HG.out 0 rfl OK0.out (by omega)
          rw [e1, e2, e3, e4, e5] at this
          exact this
        have hus : g.used = pp k := by have h1 : g.used = pp g.kind := hfl; rw [h1, GK0.out]
        rw [hus] at HF T0
        clear e1 e2 e3 e4 e5 hfl
        go_wp2_with fail
        refine (HF.out _ T0.out).mono ?_
        rintro e w4 ⟨rfl, h4⟩
        have T4 := hid h4
        have hlen := fun ty => (h4.os 1 rfl).len ty
        clear h4 HF T0 c0 c1 fz hw0
        go_wp2_with fail
        refine (HP.out _ _ T4.out).mono ?_
        rintro e w5 ⟨rfl, h5⟩
        have T5 := hid h5
        clear h5 T4 HP hlen
        go_wp2
        go_roundw
        case rel => exact ⟨j + 1, by omega, by go_num, bs, ss, g, n, OK0.out, CL0.out, LN0.out, GB0.out, GK0.out, by omega, by omega, by rw [hus]; exact Things.less (ts := [_, _]) T5.out⟩
        case measure => simp [intOf]; omega
      · obtain ⟨e1, e2, e3, e4⟩ := pa_full (bs := bs) hfl
        have e5 : paT g ss = ss := if_pos (.inl hfl)
        have HF : Hid (∀ w0, Things w w0 [Pa a bs ss p g, Ms BM n (mineOf g bs) g.used, Blk B (.cells #[.int .i64 4, .int .i64 x] 39 (0, 0))] → Calls Tryd.prog 13 #[.pointer (some ⟨p, 0, none⟩)] w0 fun e w' => e = .returned (.tuple #[.int .i64 0, .int .i64 10]) ∧ Things w w' [Pa a bs ss p g, Ms BM n (mineOf g bs) g.used, Blk B (.cells #[.int .i64 4, .int .i64 x] 39 (0, 0))]) := fun w0 h => by
          have := g_alloc h HG.out 0 rfl OK0.out (by omega)
          rw [e1, e2, e3, e4, e5] at this
          exact this
        have hus : g.used = pp k := by have h1 : g.used = pp g.kind := hfl; rw [h1, GK0.out]
        rw [hus] at HF T0
        clear e1 e2 e3 e4 e5 hfl
        go_wp2_with fail
        refine (HF.out _ T0.out).mono ?_
        rintro e w4 ⟨rfl, h4⟩
        have T4 := hid h4
        have hlen := fun ty => (h4.os 1 rfl).len ty
        clear h4 HF T0 c0 c1 fz hw0
        go_wp2_with fail
        refine (HP.out _ _ T4.out).mono ?_
        rintro e w5 ⟨rfl, h5⟩
        have T5 := hid h5
        clear h5 T4 HP hlen
        go_wp2
        go_roundw
        case rel => exact ⟨j + 1, by omega, by go_num, bs, ss, g, n, OK0.out, CL0.out, LN0.out, GB0.out, GK0.out, by omega, by omega, by rw [hus]; exact Things.less (ts := [_, _]) T5.out⟩
        case measure => simp [intOf]; omega
    · rcases hk2 with rfl | ⟨hk0, rfl⟩
      · have GV := hid (OK0.out.given CL0.out hfl)
        have hzero := GV.out.zero CL0.out OK0.out ⟨rfl, rfl, rfl⟩ hfl
        have hV : paV g = (paK g : Int) := if_neg hfl
        have hE : paE g = 0 := if_neg hfl
        have hy : paK g < pp k := by have := GV.out.lt; rwa [GK0.out] at this
        have hmn : mineOf g bs (paK g : Int) = none := if_neg fun hm => GV.out.was (by simpa using hm.2)
        have hpos : ∀ z, (paS g).pos z = z * u := fun z => by unfold Pg.pos; rw [GV.out.base, GV.out.kind, GB0.out, GK0.out, HU2.out, Nat.zero_add]
        have hposg : g.pos (paK g) = paK g * u := by unfold Pg.pos; rw [GB0.out, GK0.out, HU2.out, Nat.zero_add]
        have hbk := GV.out.ok.block (x := paK g) (by rw [GV.out.kind, GK0.out]; exact hy)
        rw [hpos, GV.out.kind, GV.out.base, GB0.out, GK0.out, HU2.out] at hbk
        have LNX : Hid ((paB g bs).length = 512) := OK0.out.alloc.2.trans LN0.out
        have HF : Hid (∀ w0, Things w w0 [Pa a bs ss p g, Ms BM n (mineOf g bs) g.used, Blk B (.cells #[.int .i64 1, .int .i64 x] 39 (0, 0))] → Calls Tryd.prog 13 #[.pointer (some ⟨p, 0, none⟩)] w0 fun e w' => e = .returned (.tuple #[.int .i64 (paK g), .int .i64 0]) ∧ Things w w' [Pa a (paB g bs) (paT g ss) p (paS g), Ms BM n (mineOf g bs) g.used, Blk B (.cells #[.int .i64 1, .int .i64 x] 39 (0, 0))]) := fun w0 h => by
          have := g_alloc h HG.out 0 rfl OK0.out (by omega)
          rw [hV, hE] at this
          exact this
        have hblk : (((paB g bs).drop (paK g * u)).take u) = zs u := by
          have h1 := hzero
          unfold blk at h1
          rw [hposg, GK0.out, HU2.out] at h1
          exact h1
        have hsl : (paT g ss).length ≤ 40 * j + 2 := by have := paT_len g ss; omega
        have HRD : Hid (∀ w0, Things w w0 [Pa a (paB g bs) (paT g ss) p (paS g), Ms BM n (mineOf g bs) g.used, Blk B (.cells #[.int .i64 1, .int .i64 x] 39 (0, 0))] → Calls Tryd.prog 26 #[.pointer (some ⟨a, 0, none⟩), .int .i64 ((paK g * u : Nat) : Int), .int .i64 u] w0 fun e w' => e = .returned (.tuple #[.string ⟨(zs u).toArray⟩, .int .i64 0]) ∧ ∃ ss3, ss3.length ≤ 40 * j + 3 ∧ Things w w' [Pa a (paB g bs) ss3 p (paS g), Ms BM n (mineOf g bs) g.used, Blk B (.cells #[.int .i64 1, .int .i64 x] 39 (0, 0))]) := fun w0 h => (g_read h 0 rfl (paK g * u) u (by rw [LNX.out]; omega) (by omega)).mono fun e w' ⟨he, h2⟩ => ⟨by rw [he, hblk], _, Nat.le_trans (noted_le _ _ _ _) (by omega), h2⟩
        have HWR : Hid (∀ w0 ss3 (d : List UInt8) X, d.length = u → ss3.length ≤ 40 * j + 3 → Things w w0 [Pa a (paB g bs) ss3 p (paS g), X, Blk B (.cells #[.int .i64 1, .int .i64 x] 39 (0, 0))] → Calls Tryd.prog 32 #[.pointer (some ⟨a, 0, none⟩), .int .i64 ((paK g * u : Nat) : Int), .string ⟨d.toArray⟩] w0 fun e w' => e = .returned (.int .i64 0) ∧ ∃ ss4, ss4.length ≤ 40 * j + 4 ∧ Things w w' [Pa a (over (paB g bs) (paK g * u) d) ss4 p (paS g), X, Blk B (.cells #[.int .i64 1, .int .i64 x] 39 (0, 0))]) := fun w0 ss3 d X hd hs h => (g_write h 0 rfl (paK g * u) ⟨d.toArray⟩ (by rw [LNX.out]; show _ + d.toArray.size ≤ _; simp; omega) (by omega)).mono fun e w' ⟨he, h2⟩ => ⟨he, _, Nat.le_trans (noted_le _ _ _ _) (by omega), h2⟩
        have HEND : Hid (∀ d : List UInt8, d.length = u → (paS g).Ok (over (paB g bs) (paK g * u) d) ∧ (paS g).Clean (over (paB g bs) (paK g * u) d) ∧ (over (paB g bs) (paK g * u) d).length = 512 ∧ (fun z => if z = ((paK g : Nat) : Int) then some d else mineOf g bs z) = mineOf (paS g) (over (paB g bs) (paK g * u) d)) := fun d hd => by
          obtain ⟨w1, w2, w3⟩ := GV.out.write (ds := d) (by rw [GK0.out, HU2.out]; exact hd)
          rw [hposg] at w1 w2 w3
          exact ⟨w1, w2, (over_length _ _ _ (by rw [LNX.out, hd]; omega)).trans LNX.out, funext fun z => (w3 z).symm⟩
        have BX : Hid ((paS g).base = 0) := GV.out.base.trans GB0.out
        have KX : Hid ((paS g).kind = k) := GV.out.kind.trans GK0.out
        have HUSD : Hid ((paS g).used = g.used + 1) := GV.out.used
        have hyw := wf_small (x := (paK g : Int)) (by omega) (by omega)
        have hqq : ((paK g : Nat) : Int) * (u : Int) = ((paK g * u : Nat) : Int) := by rw [Int.natCast_mul]
        have hq5 : paK g * u ≤ 512 := by omega
        clear GV hzero hV hE hposg hpos hbk hblk LNX hsl OK0 CL0 LN0 GB0 GK0 hfl
        have HYW := hid hyw
        have HMN := hid hmn
        clear hyw hmn
        generalize paK g * u = q at *
        generalize paK g = y at *
        generalize paB g bs = bs2 at *
        generalize paT g ss = ss2 at *
        generalize paS g = g2 at *
        generalize hff : mineOf g bs = ff at *
        generalize hcc : g.used = cc at *
        clear hff hcc
        go_wp2_with fail
        refine (HF.out _ T0.out).mono ?_
        rintro e w4 ⟨rfl, h4⟩
        have T4 := hid h4
        clear h4 HF T0 c0 c1 fz hw0
        go_wp2_with fail
        refine (HRD.out _ T4.out).mono ?_
        rintro e w5 ⟨rfl, ss3, hs3, h5⟩
        have T5 := hid h5
        obtain ⟨sx, hlk⟩ := (h5.os 1 rfl).lookOk HYW.out
        rw [HMN.out] at hlk
        have hmk1 := run_make_bytes w5 u (by omega)
        have hcv1 := run_made_text w5 u
        have hmk2 := run_make_bytes (w5.alloc (.cells (bc (zs u)).toArray 5)) u (by omega)
        have T6 : Hid (Things w ((w5.alloc (.cells (bc (zs u)).toArray 5)).alloc (.cells (bc (zs u)).toArray 5)) [Pa a bs2 ss3 p g2, Ms BM n ff cc, Blk B (.cells #[.int .i64 1, .int .i64 x] 39 (0, 0)), Blk (w5.alloc (.cells (bc (zs u)).toArray 5)).heap.size (.cells (bc (zs u)).toArray 5 (0, 0))]) := (h5.kept ((Fr.refl _ _).alloc _)).blk _
        clear h5 HRD T4
        have HZL : Hid ((zs u).length = u) := zs_length u
        generalize zs u = zz at *
        go_wp2
        have T7 : Hid (Things w ((w5.alloc (.cells (bc zz).toArray 5)).alloc (.cells (bc zz).toArray 5)) [Pa a bs2 ss3 p g2, Ms BM n ff cc, Blk B (.cells #[.int .i64 1, .int .i64 x] 39 (0, 0)), Blk (w5.heap.size + 1) (.cells (bc zz).toArray 5 (0, 0))]) := by
          have h := T6.out
          rw [show (w5.alloc (.cells (bc zz).toArray 5)).heap.size = w5.heap.size + 1 from World.size_alloc _ _] at h
          exact h
        clear T6 T5 hmk1 hcv1 hmk2 hlk
        generalize (w5.alloc (.cells (bc zz).toArray 5)).alloc (.cells (bc zz).toArray 5) = w7 at T7 ⊢
        generalize w5.heap.size + 1 = Bb at T7 ⊢
        go_loopw [20, 132] (fun _ i wq => ∃ (m : Nat) (d : List UInt8), m ≤ u ∧ i = .int .i64 m ∧ d.length = u ∧ Things w wq [Pa a bs2 ss3 p g2, Ms BM n ff cc, Blk B (.cells #[.int .i64 1, .int .i64 x] 39 (0, 0)), Blk Bb (.cells (bc d).toArray 5 (0, 0))]) (fun _ i _ => u - (intOf i).toNat)
        case atStart => exact ⟨0, zz, by omega, rfl, HZL.out, T7.out⟩
        case round =>
          clear T7 HZL
          obtain ⟨m, d, hm, rfl, hd, ht⟩ := hrel
          have TL := hid ht
          clear ht
          by_cases hlm : m < u
          · have hc := row_cell (TL.out.cells 3 rfl) m (by omega)
            have hz := row_frozen (TL.out.cells 3 rfl) m
            generalize d[m].toNat = old at hc
            go_wp2
            go_roundw
            case rel => exact ⟨m + 1, d.set m (UInt8.ofNat ((j + m + 1) % 256)), by omega, by go_num, by rw [List.length_set]; exact hd, set_byte TL.out 3 rfl m (j + m + 1) (by omega)⟩
            case measure => simp [intOf]; omega
          · obtain rfl : u = m := by omega
            obtain ⟨w8, hst, hO8, f8⟩ := (TL.out.os 1 rfl).store (x := (y : Int)) (s := d) (by simp only [maxLen]; omega) HYW.out (by simp only [maxLen]; omega) HMN.out
            have hcv := run_row_text (TL.out.cells 3 rfl) hd
            have T8 : Hid (Things w w8 [Pa a bs2 ss3 p g2, Ms BM (n + 1) (fun z => if z = (y : Int) then some d else ff z) (cc + 1), Blk B (.cells #[.int .i64 1, .int .i64 x] 39 (0, 0))]) := Things.less (ts := [_, _, _]) (TL.out.turned 1 rfl hO8 f8)
            have hlk := (T8.out.os 1 rfl).look HYW.out (s := d) (if_pos rfl)
            clear hO8 f8 TL
            go_wp2_with fail
            refine (HWR.out _ _ d _ hd hs3 T8.out).mono ?_
            rintro e w9 ⟨rfl, ss4, hs4, h9⟩
            obtain ⟨q1, q2, q3, q4⟩ := HEND.out d hd
            rw [q4, ← HUSD.out] at h9
            have T := hid h9
            have OKX := hid q1
            have CLX := hid q2
            have LNX := hid q3
            have SX := hid hs4
            clear h9 q1 q2 q3 q4 hs4 T8 hst hcv hlk HWR HEND HUSD HYW HMN hqq hq5 hs3
            generalize over bs2 q d = bs3 at *
            have HPOS : Hid (∀ y : Nat, y < pp k → g2.pos y + u ≤ 512 ∧ g2.pos y = y * u) := fun y hy => by
              have h1 := OKX.out.block (x := y) (by rw [KX.out]; exact hy)
              have h2 := OKX.out.fit
              have e : g2.pos y = y * u := by unfold Pg.pos; rw [KX.out, BX.out, HU2.out, Nat.zero_add]
              rw [KX.out, HU2.out, BX.out] at h1
              exact ⟨by omega, e⟩
            have HR1 : Hid (∀ w0 ss1 m rr (y q : Nat), y < pp k → q = y * u → ss1.length ≤ 20000 → Things w w0 [Pa a bs3 ss1 p g2, Ws BM rr (n + 1) (mineOf g2 bs3) g2.used m, Blk B (.cells #[.int .i64 1, .int .i64 x] 39 (0, 0))] → Calls Tryd.prog 26 #[.pointer (some ⟨a, 0, none⟩), .int .i64 q, .int .i64 u] w0 fun e w' => e = .returned (.tuple #[.string ⟨(blk g2 bs3 y).toArray⟩, .int .i64 0]) ∧ ∃ ss2, ss2.length ≤ ss1.length + 1 ∧ Things w w' [Pa a bs3 ss2 p g2, Ws BM rr (n + 1) (mineOf g2 bs3) g2.used m, Blk B (.cells #[.int .i64 1, .int .i64 x] 39 (0, 0))]) := fun w0 ss1 m rr y q hy hq hs h => (g_read h 0 rfl q u (by have := HPOS.out y hy; rw [LNX.out]; omega) (by omega)).mono fun e w' ⟨he, h2⟩ => ⟨by rw [he]; unfold blk; rw [KX.out, HU2.out, (HPOS.out y hy).2, hq], _, noted_le _ _ _ _, h2⟩
            have HR2 : Hid (∀ w0 ss1 m rr (y : Nat), g2.May (y : Int) → y < pp k → Things w w0 [Pa a bs3 ss1 p g2, Ws BM rr (n + 1) (mineOf g2 bs3) g2.used m, Blk B (.cells #[.int .i64 1, .int .i64 x] 39 (0, 0))] → Calls Tryd.prog 21 #[.pointer (some ⟨p, 0, none⟩), .int .i64 y] w0 fun e w' => e = .returned (.bool true) ∧ Things w w' [Pa a bs3 ss1 p g2, Ws BM rr (n + 1) (mineOf g2 bs3) g2.used m, Blk B (.cells #[.int .i64 1, .int .i64 x] 39 (0, 0))]) := fun w0 ss1 m rr y hm hy h => by
              have := g_has h HG.out 0 rfl OKX.out (k := (y : Int)) ⟨by omega, by omega⟩
              rwa [decide_eq_true hm] at this
            have HR3 : Hid (∀ w0 ss1, Things w w0 [Pa a bs3 ss1 p g2, Ms BM (n + 1) (mineOf g2 bs3) g2.used, Blk B (.cells #[.int .i64 1, .int .i64 x] 39 (0, 0))] → Calls Tryd.prog 17 #[.pointer (some ⟨p, 0, none⟩)] w0 fun e w' => e = .returned (.int .i64 (g2.used : Int)) ∧ Things w w' [Pa a bs3 ss1 p g2, Ms BM (n + 1) (mineOf g2 bs3) g2.used, Blk B (.cells #[.int .i64 1, .int .i64 x] 39 (0, 0))]) := fun w0 ss1 h => g_used h HG.out 0 rfl OKX.out
            have HUS : Hid (g2.used ≤ 32) := by
              have h1 := OKX.out.fr
              have h2 := (kind_facts g2.kind OKX.out.kind).2.1.2
              show g2.fresh - g2.R.length - g2.D.length ≤ 32
              omega
            have HMY : Hid (∀ (z : Int) s, mineOf g2 bs3 z = some s → ∃ y : Nat, z = y ∧ y < pp k ∧ g2.May z ∧ s = blk g2 bs3 y) := fun z s h => by
              unfold mineOf at h
              by_cases hm : g2.May z
              · rw [if_pos hm] at h
                cases h
                exact ⟨z.toNat, by have := hm.1.1; omega, by have := hm.1.2; rw [KX.out] at this; have := hm.1.1; omega, hm, rfl⟩
              · rw [if_neg hm] at h; cases h
            go_wp2_with (first | (at_range; refine wp_range rfl (.tmp 156) rfl rfl (T.out.os 1 rfl) ?_; intro w8 hR8 hF8; have T8 : Hid (Things w w8 [Pa a bs3 ss4 p g2, Ws BM w9.heap.size (n + 1) (mineOf g2 bs3) g2.used g2.used, Blk B (.cells #[.int .i64 1, .int .i64 x] 39 (0, 0))]) := T.out.walkOn 1 rfl (Nat.le_refl _) hR8 hF8; clear hR8 hF8 T) | go_in)
            try go_frame
            generalize w9.heap.size = rr at *
            go_loopw [23, 24, 25, 26] (fun _ _ _ _ wq => ∃ (m : Nat) (ss1 : List Sp), ss1.length + m ≤ ss4.length + g2.used ∧ Things w wq [Pa a bs3 ss1 p g2, Ws BM rr (n + 1) (mineOf g2 bs3) g2.used m, Blk B (.cells #[.int .i64 1, .int .i64 x] 39 (0, 0))]) (fun _ _ _ _ wq => wq.rangeLeft BM rr)
            case atStart => exact ⟨_, ss4, by omega, T8.out⟩
            case round =>
              clear T8
              obtain ⟨m, ss1, hss1, hT⟩ := hrel
              have TQ := hid hT
              have hs1 : ss1.length ≤ 20000 := by have := SX.out; have := HUS.out; omega
              clear hT
              go_wp2_with (first | (at_next; refine wp_next rfl (.tmp 157) rfl rfl (TQ.out.rg 1 rfl) ?_ ?_; rotate_left; intro z s w9 m9 hz hR9 hlt9 hF9 hen; have T9 : Hid (Things w w9 [Pa a bs3 ss1 p g2, Ws BM rr (n + 1) (mineOf g2 bs3) g2.used m9, Blk B (.cells #[.int .i64 1, .int .i64 x] 39 (0, 0))]) := TQ.out.walked 1 rfl hR9 hF9; have HLT := hid hlt9; have HLF := hid (TQ.out.rg 1 rfl).left; obtain ⟨y, rfl, hy, hmy, rfl⟩ := HMY.out z s hz; obtain ⟨q, hq⟩ : ∃ q, q = y * u := ⟨_, rfl⟩; have hqq : (y : Int) * (u : Int) = (q : Int) := (by rw [hq, Int.natCast_mul]); have hq5 : q ≤ 512 := Nat.le_trans (Nat.le_of_eq (hq.trans (HPOS.out y hy).2.symm)) (Nat.le_trans (Nat.le_add_right _ _) (HPOS.out y hy).1); have R9 := hid fun w0 h => HR1.out w0 ss1 m9 rr y q hy hq hs1 h; have R10 := hid fun w0 ss2 h => HR2.out w0 ss2 m9 rr y hmy hy h; clear hz hR9 hlt9 hF9 hmy TQ hq; generalize blk g2 bs3 y = sy at *; rotate_left))
              · have TE : Hid (Things w wr [Pa a bs3 ss1 p g2, Ms BM (n + 1) (mineOf g2 bs3) g2.used, Blk B (.cells #[.int .i64 1, .int .i64 x] 39 (0, 0))]) := TQ.out.walkEnd 1 rfl
                clear TQ
                refine (HR3.out _ _ TE.out).mono ?_
                rintro e w12 ⟨rfl, h12⟩
                have T12 := hid h12
                have hlen := fun ty => (h12.os 1 rfl).len ty
                clear h12 TE
                go_wp2
                go_roundw
                case rel => exact ⟨j + 1, by omega, by go_num, bs3, ss1, g2, (n + 1), OKX.out, CLX.out, LNX.out, BX.out, KX.out, by have := SX.out; have := HUS.out; omega, by omega, Things.less (ts := [_, _]) T12.out⟩
                case measure => simp [intOf]; omega
              · refine (R9.out _ T9.out).mono ?_
                rintro e w10 ⟨rfl, ss2, hs2, h10⟩
                have T10 := hid h10
                clear h10 T9 R9 hen
                go_wp2_with fail
                refine (R10.out _ _ T10.out).mono ?_
                rintro e w11 ⟨rfl, h11⟩
                have T11 := hid h11
                clear h11 T10 R10
                go_wp2
                go_roundw
                case rel => exact ⟨m9, ss2, by have := HLT.out; omega, T11.out⟩
                case measure => rw [(T11.out.rg 1 rfl).left, HLF.out]; exact HLT.out
      · have GV := hid (OK0.out.given CL0.out hfl)
        have hzero := GV.out.zero CL0.out OK0.out ⟨rfl, rfl, rfl⟩ hfl
        have hV : paV g = (paK g : Int) := if_neg hfl
        have hE : paE g = 0 := if_neg hfl
        have hy : paK g < pp k := by have := GV.out.lt; rwa [GK0.out] at this
        have hmn : mineOf g bs (paK g : Int) = none := if_neg fun hm => GV.out.was (by simpa using hm.2)
        have hpos : ∀ z, (paS g).pos z = z * u := fun z => by unfold Pg.pos; rw [GV.out.base, GV.out.kind, GB0.out, GK0.out, HU2.out, Nat.zero_add]
        have hposg : g.pos (paK g) = paK g * u := by unfold Pg.pos; rw [GB0.out, GK0.out, HU2.out, Nat.zero_add]
        have hbk := GV.out.ok.block (x := paK g) (by rw [GV.out.kind, GK0.out]; exact hy)
        rw [hpos, GV.out.kind, GV.out.base, GB0.out, GK0.out, HU2.out] at hbk
        have LNX : Hid ((paB g bs).length = 512) := OK0.out.alloc.2.trans LN0.out
        have HF : Hid (∀ w0, Things w w0 [Pa a bs ss p g, Ms BM n (mineOf g bs) g.used, Blk B (.cells #[.int .i64 4, .int .i64 x] 39 (0, 0))] → Calls Tryd.prog 13 #[.pointer (some ⟨p, 0, none⟩)] w0 fun e w' => e = .returned (.tuple #[.int .i64 (paK g), .int .i64 0]) ∧ Things w w' [Pa a (paB g bs) (paT g ss) p (paS g), Ms BM n (mineOf g bs) g.used, Blk B (.cells #[.int .i64 4, .int .i64 x] 39 (0, 0))]) := fun w0 h => by
          have := g_alloc h HG.out 0 rfl OK0.out (by omega)
          rw [hV, hE] at this
          exact this
        have hblk : (((paB g bs).drop (paK g * u)).take u) = zs u := by
          have h1 := hzero
          unfold blk at h1
          rw [hposg, GK0.out, HU2.out] at h1
          exact h1
        have hsl : (paT g ss).length ≤ 40 * j + 2 := by have := paT_len g ss; omega
        have HRD : Hid (∀ w0, Things w w0 [Pa a (paB g bs) (paT g ss) p (paS g), Ms BM n (mineOf g bs) g.used, Blk B (.cells #[.int .i64 4, .int .i64 x] 39 (0, 0))] → Calls Tryd.prog 26 #[.pointer (some ⟨a, 0, none⟩), .int .i64 ((paK g * u : Nat) : Int), .int .i64 u] w0 fun e w' => e = .returned (.tuple #[.string ⟨(zs u).toArray⟩, .int .i64 0]) ∧ ∃ ss3, ss3.length ≤ 40 * j + 3 ∧ Things w w' [Pa a (paB g bs) ss3 p (paS g), Ms BM n (mineOf g bs) g.used, Blk B (.cells #[.int .i64 4, .int .i64 x] 39 (0, 0))]) := fun w0 h => (g_read h 0 rfl (paK g * u) u (by rw [LNX.out]; omega) (by omega)).mono fun e w' ⟨he, h2⟩ => ⟨by rw [he, hblk], _, Nat.le_trans (noted_le _ _ _ _) (by omega), h2⟩
        have HWR : Hid (∀ w0 ss3 (d : List UInt8) X, d.length = u → ss3.length ≤ 40 * j + 3 → Things w w0 [Pa a (paB g bs) ss3 p (paS g), X, Blk B (.cells #[.int .i64 4, .int .i64 x] 39 (0, 0))] → Calls Tryd.prog 32 #[.pointer (some ⟨a, 0, none⟩), .int .i64 ((paK g * u : Nat) : Int), .string ⟨d.toArray⟩] w0 fun e w' => e = .returned (.int .i64 0) ∧ ∃ ss4, ss4.length ≤ 40 * j + 4 ∧ Things w w' [Pa a (over (paB g bs) (paK g * u) d) ss4 p (paS g), X, Blk B (.cells #[.int .i64 4, .int .i64 x] 39 (0, 0))]) := fun w0 ss3 d X hd hs h => (g_write h 0 rfl (paK g * u) ⟨d.toArray⟩ (by rw [LNX.out]; show _ + d.toArray.size ≤ _; simp; omega) (by omega)).mono fun e w' ⟨he, h2⟩ => ⟨he, _, Nat.le_trans (noted_le _ _ _ _) (by omega), h2⟩
        have HEND : Hid (∀ d : List UInt8, d.length = u → (paS g).Ok (over (paB g bs) (paK g * u) d) ∧ (paS g).Clean (over (paB g bs) (paK g * u) d) ∧ (over (paB g bs) (paK g * u) d).length = 512 ∧ (fun z => if z = ((paK g : Nat) : Int) then some d else mineOf g bs z) = mineOf (paS g) (over (paB g bs) (paK g * u) d)) := fun d hd => by
          obtain ⟨w1, w2, w3⟩ := GV.out.write (ds := d) (by rw [GK0.out, HU2.out]; exact hd)
          rw [hposg] at w1 w2 w3
          exact ⟨w1, w2, (over_length _ _ _ (by rw [LNX.out, hd]; omega)).trans LNX.out, funext fun z => (w3 z).symm⟩
        have BX : Hid ((paS g).base = 0) := GV.out.base.trans GB0.out
        have KX : Hid ((paS g).kind = k) := GV.out.kind.trans GK0.out
        have HUSD : Hid ((paS g).used = g.used + 1) := GV.out.used
        have hyw := wf_small (x := (paK g : Int)) (by omega) (by omega)
        have hqq : ((paK g : Nat) : Int) * (u : Int) = ((paK g * u : Nat) : Int) := by rw [Int.natCast_mul]
        have hq5 : paK g * u ≤ 512 := by omega
        clear GV hzero hV hE hposg hpos hbk hblk LNX hsl OK0 CL0 LN0 GB0 GK0 hfl
        have HYW := hid hyw
        have HMN := hid hmn
        clear hyw hmn
        generalize paK g * u = q at *
        generalize paK g = y at *
        generalize paB g bs = bs2 at *
        generalize paT g ss = ss2 at *
        generalize paS g = g2 at *
        generalize hff : mineOf g bs = ff at *
        generalize hcc : g.used = cc at *
        clear hff hcc
        go_wp2_with fail
        refine (HF.out _ T0.out).mono ?_
        rintro e w4 ⟨rfl, h4⟩
        have T4 := hid h4
        clear h4 HF T0 c0 c1 fz hw0
        go_wp2_with fail
        refine (HRD.out _ T4.out).mono ?_
        rintro e w5 ⟨rfl, ss3, hs3, h5⟩
        have T5 := hid h5
        obtain ⟨sx, hlk⟩ := (h5.os 1 rfl).lookOk HYW.out
        rw [HMN.out] at hlk
        have hmk1 := run_make_bytes w5 u (by omega)
        have hcv1 := run_made_text w5 u
        have hmk2 := run_make_bytes (w5.alloc (.cells (bc (zs u)).toArray 5)) u (by omega)
        have T6 : Hid (Things w ((w5.alloc (.cells (bc (zs u)).toArray 5)).alloc (.cells (bc (zs u)).toArray 5)) [Pa a bs2 ss3 p g2, Ms BM n ff cc, Blk B (.cells #[.int .i64 4, .int .i64 x] 39 (0, 0)), Blk (w5.alloc (.cells (bc (zs u)).toArray 5)).heap.size (.cells (bc (zs u)).toArray 5 (0, 0))]) := (h5.kept ((Fr.refl _ _).alloc _)).blk _
        clear h5 HRD T4
        have HZL : Hid ((zs u).length = u) := zs_length u
        generalize zs u = zz at *
        go_wp2
        have T7 : Hid (Things w ((w5.alloc (.cells (bc zz).toArray 5)).alloc (.cells (bc zz).toArray 5)) [Pa a bs2 ss3 p g2, Ms BM n ff cc, Blk B (.cells #[.int .i64 4, .int .i64 x] 39 (0, 0)), Blk (w5.heap.size + 1) (.cells (bc zz).toArray 5 (0, 0))]) := by
          have h := T6.out
          rw [show (w5.alloc (.cells (bc zz).toArray 5)).heap.size = w5.heap.size + 1 from World.size_alloc _ _] at h
          exact h
        clear T6 T5 hmk1 hcv1 hmk2 hlk
        generalize (w5.alloc (.cells (bc zz).toArray 5)).alloc (.cells (bc zz).toArray 5) = w7 at T7 ⊢
        generalize w5.heap.size + 1 = Bb at T7 ⊢
        go_loopw [20, 132] (fun _ i wq => ∃ (m : Nat) (d : List UInt8), m ≤ u ∧ i = .int .i64 m ∧ d.length = u ∧ Things w wq [Pa a bs2 ss3 p g2, Ms BM n ff cc, Blk B (.cells #[.int .i64 4, .int .i64 x] 39 (0, 0)), Blk Bb (.cells (bc d).toArray 5 (0, 0))]) (fun _ i _ => u - (intOf i).toNat)
        case atStart => exact ⟨0, zz, by omega, rfl, HZL.out, T7.out⟩
        case round =>
          clear T7 HZL
          obtain ⟨m, d, hm, rfl, hd, ht⟩ := hrel
          have TL := hid ht
          clear ht
          by_cases hlm : m < u
          · have hc := row_cell (TL.out.cells 3 rfl) m (by omega)
            have hz := row_frozen (TL.out.cells 3 rfl) m
            generalize d[m].toNat = old at hc
            go_wp2
            go_roundw
            case rel => exact ⟨m + 1, d.set m (UInt8.ofNat ((j + m + 1) % 256)), by omega, by go_num, by rw [List.length_set]; exact hd, set_byte TL.out 3 rfl m (j + m + 1) (by omega)⟩
            case measure => simp [intOf]; omega
          · obtain rfl : u = m := by omega
            obtain ⟨w8, hst, hO8, f8⟩ := (TL.out.os 1 rfl).store (x := (y : Int)) (s := d) (by simp only [maxLen]; omega) HYW.out (by simp only [maxLen]; omega) HMN.out
            have hcv := run_row_text (TL.out.cells 3 rfl) hd
            have T8 : Hid (Things w w8 [Pa a bs2 ss3 p g2, Ms BM (n + 1) (fun z => if z = (y : Int) then some d else ff z) (cc + 1), Blk B (.cells #[.int .i64 4, .int .i64 x] 39 (0, 0))]) := Things.less (ts := [_, _, _]) (TL.out.turned 1 rfl hO8 f8)
            have hlk := (T8.out.os 1 rfl).look HYW.out (s := d) (if_pos rfl)
            clear hO8 f8 TL
            go_wp2_with fail
            refine (HWR.out _ _ d _ hd hs3 T8.out).mono ?_
            rintro e w9 ⟨rfl, ss4, hs4, h9⟩
            obtain ⟨q1, q2, q3, q4⟩ := HEND.out d hd
            rw [q4, ← HUSD.out] at h9
            have T := hid h9
            have OKX := hid q1
            have CLX := hid q2
            have LNX := hid q3
            have SX := hid hs4
            clear h9 q1 q2 q3 q4 hs4 T8 hst hcv hlk HWR HEND HUSD HYW HMN hqq hq5 hs3
            generalize over bs2 q d = bs3 at *
            have HPOS : Hid (∀ y : Nat, y < pp k → g2.pos y + u ≤ 512 ∧ g2.pos y = y * u) := fun y hy => by
              have h1 := OKX.out.block (x := y) (by rw [KX.out]; exact hy)
              have h2 := OKX.out.fit
              have e : g2.pos y = y * u := by unfold Pg.pos; rw [KX.out, BX.out, HU2.out, Nat.zero_add]
              rw [KX.out, HU2.out, BX.out] at h1
              exact ⟨by omega, e⟩
            have HR1 : Hid (∀ w0 ss1 m rr (y q : Nat), y < pp k → q = y * u → ss1.length ≤ 20000 → Things w w0 [Pa a bs3 ss1 p g2, Ws BM rr (n + 1) (mineOf g2 bs3) g2.used m, Blk B (.cells #[.int .i64 4, .int .i64 x] 39 (0, 0))] → Calls Tryd.prog 26 #[.pointer (some ⟨a, 0, none⟩), .int .i64 q, .int .i64 u] w0 fun e w' => e = .returned (.tuple #[.string ⟨(blk g2 bs3 y).toArray⟩, .int .i64 0]) ∧ ∃ ss2, ss2.length ≤ ss1.length + 1 ∧ Things w w' [Pa a bs3 ss2 p g2, Ws BM rr (n + 1) (mineOf g2 bs3) g2.used m, Blk B (.cells #[.int .i64 4, .int .i64 x] 39 (0, 0))]) := fun w0 ss1 m rr y q hy hq hs h => (g_read h 0 rfl q u (by have := HPOS.out y hy; rw [LNX.out]; omega) (by omega)).mono fun e w' ⟨he, h2⟩ => ⟨by rw [he]; unfold blk; rw [KX.out, HU2.out, (HPOS.out y hy).2, hq], _, noted_le _ _ _ _, h2⟩
            have HR2 : Hid (∀ w0 ss1 m rr (y : Nat), g2.May (y : Int) → y < pp k → Things w w0 [Pa a bs3 ss1 p g2, Ws BM rr (n + 1) (mineOf g2 bs3) g2.used m, Blk B (.cells #[.int .i64 4, .int .i64 x] 39 (0, 0))] → Calls Tryd.prog 21 #[.pointer (some ⟨p, 0, none⟩), .int .i64 y] w0 fun e w' => e = .returned (.bool true) ∧ Things w w' [Pa a bs3 ss1 p g2, Ws BM rr (n + 1) (mineOf g2 bs3) g2.used m, Blk B (.cells #[.int .i64 4, .int .i64 x] 39 (0, 0))]) := fun w0 ss1 m rr y hm hy h => by
              have := g_has h HG.out 0 rfl OKX.out (k := (y : Int)) ⟨by omega, by omega⟩
              rwa [decide_eq_true hm] at this
            have HR3 : Hid (∀ w0 ss1, Things w w0 [Pa a bs3 ss1 p g2, Ms BM (n + 1) (mineOf g2 bs3) g2.used, Blk B (.cells #[.int .i64 4, .int .i64 x] 39 (0, 0))] → Calls Tryd.prog 17 #[.pointer (some ⟨p, 0, none⟩)] w0 fun e w' => e = .returned (.int .i64 (g2.used : Int)) ∧ Things w w' [Pa a bs3 ss1 p g2, Ms BM (n + 1) (mineOf g2 bs3) g2.used, Blk B (.cells #[.int .i64 4, .int .i64 x] 39 (0, 0))]) := fun w0 ss1 h => g_used h HG.out 0 rfl OKX.out
            have HUS : Hid (g2.used ≤ 32) := by
              have h1 := OKX.out.fr
              have h2 := (kind_facts g2.kind OKX.out.kind).2.1.2
              show g2.fresh - g2.R.length - g2.D.length ≤ 32
              omega
            have HMY : Hid (∀ (z : Int) s, mineOf g2 bs3 z = some s → ∃ y : Nat, z = y ∧ y < pp k ∧ g2.May z ∧ s = blk g2 bs3 y) := fun z s h => by
              unfold mineOf at h
              by_cases hm : g2.May z
              · rw [if_pos hm] at h
                cases h
                exact ⟨z.toNat, by have := hm.1.1; omega, by have := hm.1.2; rw [KX.out] at this; have := hm.1.1; omega, hm, rfl⟩
              · rw [if_neg hm] at h; cases h
            go_wp2_with (first | (at_range; refine wp_range rfl (.tmp 156) rfl rfl (T.out.os 1 rfl) ?_; intro w8 hR8 hF8; have T8 : Hid (Things w w8 [Pa a bs3 ss4 p g2, Ws BM w9.heap.size (n + 1) (mineOf g2 bs3) g2.used g2.used, Blk B (.cells #[.int .i64 4, .int .i64 x] 39 (0, 0))]) := T.out.walkOn 1 rfl (Nat.le_refl _) hR8 hF8; clear hR8 hF8 T) | go_in)
            try go_frame
            generalize w9.heap.size = rr at *
            go_loopw [23, 24, 25, 26] (fun _ _ _ _ wq => ∃ (m : Nat) (ss1 : List Sp), ss1.length + m ≤ ss4.length + g2.used ∧ Things w wq [Pa a bs3 ss1 p g2, Ws BM rr (n + 1) (mineOf g2 bs3) g2.used m, Blk B (.cells #[.int .i64 4, .int .i64 x] 39 (0, 0))]) (fun _ _ _ _ wq => wq.rangeLeft BM rr)
            case atStart => exact ⟨_, ss4, by omega, T8.out⟩
            case round =>
              clear T8
              obtain ⟨m, ss1, hss1, hT⟩ := hrel
              have TQ := hid hT
              have hs1 : ss1.length ≤ 20000 := by have := SX.out; have := HUS.out; omega
              clear hT
              go_wp2_with (first | (at_next; refine wp_next rfl (.tmp 157) rfl rfl (TQ.out.rg 1 rfl) ?_ ?_; rotate_left; intro z s w9 m9 hz hR9 hlt9 hF9 hen; have T9 : Hid (Things w w9 [Pa a bs3 ss1 p g2, Ws BM rr (n + 1) (mineOf g2 bs3) g2.used m9, Blk B (.cells #[.int .i64 4, .int .i64 x] 39 (0, 0))]) := TQ.out.walked 1 rfl hR9 hF9; have HLT := hid hlt9; have HLF := hid (TQ.out.rg 1 rfl).left; obtain ⟨y, rfl, hy, hmy, rfl⟩ := HMY.out z s hz; obtain ⟨q, hq⟩ : ∃ q, q = y * u := ⟨_, rfl⟩; have hqq : (y : Int) * (u : Int) = (q : Int) := (by rw [hq, Int.natCast_mul]); have hq5 : q ≤ 512 := Nat.le_trans (Nat.le_of_eq (hq.trans (HPOS.out y hy).2.symm)) (Nat.le_trans (Nat.le_add_right _ _) (HPOS.out y hy).1); have R9 := hid fun w0 h => HR1.out w0 ss1 m9 rr y q hy hq hs1 h; have R10 := hid fun w0 ss2 h => HR2.out w0 ss2 m9 rr y hmy hy h; clear hz hR9 hlt9 hF9 hmy TQ hq; generalize blk g2 bs3 y = sy at *; rotate_left))
              · have TE : Hid (Things w wr [Pa a bs3 ss1 p g2, Ms BM (n + 1) (mineOf g2 bs3) g2.used, Blk B (.cells #[.int .i64 4, .int .i64 x] 39 (0, 0))]) := TQ.out.walkEnd 1 rfl
                clear TQ
                refine (HR3.out _ _ TE.out).mono ?_
                rintro e w12 ⟨rfl, h12⟩
                have T12 := hid h12
                have hlen := fun ty => (h12.os 1 rfl).len ty
                clear h12 TE
                go_wp2
                go_roundw
                case rel => exact ⟨j + 1, by omega, by go_num, bs3, ss1, g2, (n + 1), OKX.out, CLX.out, LNX.out, BX.out, KX.out, by have := SX.out; have := HUS.out; omega, by omega, Things.less (ts := [_, _]) T12.out⟩
                case measure => simp [intOf]; omega
              · refine (R9.out _ T9.out).mono ?_
                rintro e w10 ⟨rfl, ss2, hs2, h10⟩
                have T10 := hid h10
                clear h10 T9 R9 hen
                go_wp2_with fail
                refine (R10.out _ _ T10.out).mono ?_
                rintro e w11 ⟨rfl, h11⟩
                have T11 := hid h11
                clear h11 T10 R10
                go_wp2
                go_roundw
                case rel => exact ⟨m9, ss2, by have := HLT.out; omega, T11.out⟩
                case measure => rw [(T11.out.rg 1 rfl).left, HLF.out]; exact HLT.out
end Go.Proofs.YthndakhnhnipnaaDoor
