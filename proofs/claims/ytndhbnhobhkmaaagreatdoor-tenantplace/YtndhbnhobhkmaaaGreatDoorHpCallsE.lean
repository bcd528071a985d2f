/-
  The heap's own calls that hold slots and let go of them: close, hold.
  The heap's own calls that give out blocks and take them back: block, run, open, freeBlock.
  The heap's own calls that open a page of small blocks and take blocks back: open, freeBlock.
-/
import Derived.Test.YtndhbnhobhkmaaaGreatDoorHpCallsB
namespace Go.Proofs.YtndhbnhobhkmaaaGreatDoor
open Go.RowKit
open An

theorem letN_succ : ∀ (n : Nat) (v : Int) (m : Ms) (T : Tb), letN (n + 1) v m T = (drM (letN n v m T).1 (letN n v m T).2 (v + n), tbU (letN n v m T).2 (v + n))
  | 0, v, m, T => by rw [letN, letN, letN]; simp
  | n + 1, v, m, T => by
    rw [letN, letN_succ n (v + 1), letN, show v + 1 + (n : Int) = v + ((n + 1 : Nat) : Int) by omega]
section
variable {W w : World} {x : Px} {M : Ms} {R : Rs} {O : World → (Nat → Prop) → Prop} {ts : List (World → (Nat → Prop) → Prop)} {C : Nat → Prop}
theorem let_step (tp : TpOk C M.has R.T) (ms : MsOk M) {n : Nat} {v : Int} (cov : ∀ i : Nat, i < n → ¬ tbF R.T (v + i) < 0) {i : Nat} (hi : i < n) : TbOk (letN i v M R.T).2 ∧ ∃ p : Nat, tbF (letN i v M R.T).2 (v + i) = p ∧ p * 512 + 512 ≤ (letN i v M R.T).1.bs.length := by
  have w := letN_spec (C := C) i v M R.T tp ms fun j hj => cov j (by omega)
  have hf : tbF (letN i v M R.T).2 (v + i) = tbF R.T (v + i) := w.far _ fun j hj => by omega
  have h0 := cov i hi
  rw [← hf] at h0
  obtain ⟨p, hp⟩ : ∃ p : Nat, tbF (letN i v M R.T).2 (v + i) = p := ⟨(tbF (letN i v M R.T).2 (v + i)).toNat, by omega⟩
  have hm := w.ok.tb.f_some h0
  rw [hp] at hm
  have hl := w.ok.lt ⟨_, hm⟩
  have := w.ms.len
  exact ⟨w.ok.tb, p, hp, by omega⟩
set_option maxRecDepth 20000 in
set_option maxHeartbeats 1000000 in
theorem i_close (cx : Cx W O) (h : Things W w (hl x M R O ts)) (tp : TpOk C M.has R.T) (ms : MsOk M) {c s : Nat} (hc : c ≤ 23) (hs : s < sn c) (cov : ∀ i : Nat, i < pn c → ¬ tbF R.T (lo c s + i) < 0) (hk : M.ss.length ≤ 900000) : Calls Tryz.prog 131 #[.pointer (some ⟨x.h, 0, none⟩), .int .i64 (c : Int), .int .i64 (s : Int)] w fun e w' => e = .returned (.int .i64 (Sf.giE (R.sh c) s)) ∧ Things W w' (hl x (letN (pn c) (lo c s) M R.T).1 ⟨R.W, (letN (pn c) (lo c s) M R.T).2, fset R.sh c (Sf.giS (R.sh c) s), R.ln, R.pg, R.cnt⟩ O ts) := by
  have T0 : Hid (Things W w (hl x (letN 0 (lo c s) M R.T).1 ⟨R.W, (letN 0 (lo c s) M R.T).2, R.sh, R.ln, R.pg, R.cnt⟩ O ts)) := h
  have hpn := (pn_facts hc).1
  have HP := hid (pages_any c w)
  rw [(pn_facts hc).2.2.2.1] at HP
  have hli := lo_in hc hs (i := 0) (by omega)
  have hlo : 0 ≤ lo c s ∧ lo c s ≤ 6400 := by have := hli.2.2; unfold VOk at this; omega
  have HL : Hid (∀ i w1, i < pn c → Things W w1 (hl x (letN i (lo c s) M R.T).1 ⟨R.W, (letN i (lo c s) M R.T).2, R.sh, R.ln, R.pg, R.cnt⟩ O ts) → Calls Tryz.prog 181 #[.int .i64 (c : Int), .int .i64 (s : Int)] w1 fun e w' => e = .returned (.int .i64 (lo c s)) ∧ Things W w' (hl x (letN i (lo c s) M R.T).1 ⟨R.W, (letN i (lo c s) M R.T).2, R.sh, R.ln, R.pg, R.cnt⟩ O ts)) := fun i w1 _ h1 => (i_local (cx.at h1) hc hs).mono fun e w' ⟨he, f⟩ => ⟨he, h1.kept f⟩
  have HG : Hid (∀ i w1, i < pn c → Things W w1 (hl x (letN i (lo c s) M R.T).1 ⟨R.W, (letN i (lo c s) M R.T).2, R.sh, R.ln, R.pg, R.cnt⟩ O ts) → Calls Tryz.prog 109 #[.pointer (some ⟨x.h, 0, none⟩), .int .i64 (lo c s + i)] w1 fun e w' => e = .returned (.tuple #[]) ∧ Things W w' (hl x (letN (i + 1) (lo c s) M R.T).1 ⟨R.W, (letN (i + 1) (lo c s) M R.T).2, R.sh, R.ln, R.pg, R.cnt⟩ O ts)) := fun i w1 hi h1 => by
    obtain ⟨t1, p, t2, t3⟩ := let_step tp ms cov hi
    rw [letN_succ]
    exact i_letGo cx h1 t1 (v := lo c s + i) ⟨by omega, by omega⟩ t2 t3 (by rw [letN_ss]; omega)
  have HS : Hid (∀ w1, Things W w1 (hl x (letN (pn c) (lo c s) M R.T).1 ⟨R.W, (letN (pn c) (lo c s) M R.T).2, R.sh, R.ln, R.pg, R.cnt⟩ O ts) → w1.cell? ⟨x.h, 4 + c, none⟩ = some (.pointer (some ⟨x.A c, 0, none⟩)) ∧ Calls Tryz.prog 172 #[.pointer (some ⟨x.A c, 0, none⟩), .int .i64 (s : Int)] w1 fun e w' => e = .returned (.int .i64 (Sf.giE (R.sh c) s)) ∧ Things W w' (hl x (letN (pn c) (lo c s) M R.T).1 ⟨R.W, (letN (pn c) (lo c s) M R.T).2, fset R.sh c (Sf.giS (R.sh c) s), R.ln, R.pg, R.cnt⟩ O ts)) := fun w1 h1 => ⟨hob_s (z_blk h1) (by omega), z_sgive h1 (by omega) s⟩
  clear h tp ms hs cov hk cx hli
  generalize lo c s = v at *
  generalize pn c = n at *
  generalize Sf.giE (R.sh c) s = E at *
  generalize fset R.sh c (Sf.giS (R.sh c) s) = sh' at *
  generalize (s : Int) = s' at *
  generalize hA : x.A c = A at *
  go_enter Tryz.func131, Tryz.ntmps131
  go_wp2_with fail
  refine HP.out.mono ?_
  rintro e w1 ⟨rfl, hw⟩
  obtain rfl := hw.symm
  clear HP hw
  go_wp2_with fail
  go_loopw [10] (fun i wr => ∃ q : Nat, q ≤ n ∧ i = .int .i64 q ∧ Hid (Things W wr (hl x (letN q v M R.T).1 ⟨R.W, (letN q v M R.T).2, R.sh, R.ln, R.pg, R.cnt⟩ O ts))) (fun i _ => n - (intOf i).toNat)
  case atStart => exact ⟨0, by omega, rfl, T0⟩
  case round =>
    clear T0
    obtain ⟨q, hq, rfl, T⟩ := hrel
    by_cases hlt : q < n
    · have H1 := hid (HL.out q wr hlt T.out)
      have hw : IntKind.i64.wrap (v + q) = v + q := pw ⟨by omega, by omega⟩
      have H2 := hid fun w1 => HG.out q w1 hlt
      clear HL HG HS T
      go_wp2_with fail
      refine H1.out.mono ?_
      rintro e w2 ⟨rfl, h2⟩
      have H3 := hid (H2.out _ h2)
      clear H1 H2 h2
      go_wp2_with fail
      refine H3.out.mono ?_
      rintro e w3 ⟨rfl, h3⟩
      have T3 := hid h3
      clear H3 h3
      go_wp2
      go_roundw
      case rel => exact ⟨q + 1, by omega, by go_num, T3⟩
      case measure => simp [intOf]; omega
    · obtain rfl : q = n := by omega
      obtain ⟨cs, h4⟩ := HS.out _ T.out
      have H4 := hid h4
      clear HL HG HS T h4
      go_wp2_with fail
      refine H4.out.mono ?_
      rintro e w5 ⟨rfl, h5⟩
      have T5 := hid h5
      clear h5 H4
      go_wp2
      go_ret
      exact ⟨by simp, T5.out⟩
set_option maxRecDepth 20000 in
theorem i_hold_none (cx : Cx W O) (h : Things W w (hl x M R O ts)) {c : Nat} (hc : c ≤ 23) (hs : Sf.lowI (R.sh c) = -1) : Calls Tryz.prog 219 #[.pointer (some ⟨x.h, 0, none⟩), .int .i64 (c : Int)] w fun e w' => e = .returned (.tuple #[.int .i64 0, .int .i64 13]) ∧ Things W w' (hl x M R O ts) := by
  have cs := hob_s (z_blk h) (c := c) (by omega)
  have H1 : Hid (Calls Tryz.prog 192 #[.pointer (some ⟨x.A c, 0, none⟩)] w fun e w' => e = .returned (.int .i64 (-1)) ∧ Things W w' (hl x M R O ts)) := (z_slowest h (cx.at h) (by omega)).mono fun e w' ⟨he, f⟩ => ⟨by rw [he, hs], h.kept f⟩
  clear h cx hs
  generalize hA : x.A c = A at *
  go_enter Tryz.func219, Tryz.ntmps219
  go_wp2_with fail
  refine H1.out.mono ?_
  rintro e w1 ⟨rfl, h1⟩
  have T1 := hid h1
  clear h1 H1
  go_wp2
  go_ret2
  exact ⟨by simp, T1.out⟩
set_option maxRecDepth 20000 in
set_option maxHeartbeats 1000000 in
theorem i_hold_no (cx : Cx W O) (h : Things W w (hl x M R O ts)) (hb : M.bs.length = M.has.length * 512) (hm : R.W.length ≤ maxLen) {c s : Nat} (hc : c ≤ 23) (hs : Sf.lowI (R.sh c) = s) (hn : Cq.frI x.k M.has R.W < pn c) : Calls Tryz.prog 219 #[.pointer (some ⟨x.h, 0, none⟩), .int .i64 (c : Int)] w fun e w' => e = .returned (.tuple #[.int .i64 0, .int .i64 13]) ∧ Things W w' (hl x M R O ts) := by
  have cs := hob_s (z_blk h) (c := c) (by omega)
  have H1 : Hid (Calls Tryz.prog 192 #[.pointer (some ⟨x.A c, 0, none⟩)] w fun e w' => e = .returned (.int .i64 s) ∧ Things W w' (hl x M R O ts)) := (z_slowest h (cx.at h) (by omega)).mono fun e w' ⟨he, f⟩ => ⟨by rw [he, hs], h.kept f⟩
  have HC : Hid (∀ w1, Things W w1 (hl x M R O ts) → w1.cell? ⟨x.h, 2, none⟩ = some (.slice x.ad R.W.length x.cap)) := fun w1 h1 => hob_c2 (z_blk h1)
  have hpn := (pn_facts hc).1
  have HP : Hid (∀ w1, Calls Tryz.prog 124 #[.int .i64 (c : Int)] w1 fun e w' => e = .returned (.int .i64 (pn c : Int)) ∧ w' = w1) := fun w1 => by
    have := pages_any c w1
    rw [(pn_facts hc).2.2.2.1] at this
    exact this
  have HT : Hid (∀ w1, Things W w1 (hl x M R O ts) → Calls Tryz.prog 103 #[.pointer (some ⟨x.h, 0, none⟩), .int .i64 (pn c : Int), .slice x.ad R.W.length x.cap] w1 fun e w' => e = .returned (.tuple #[.slice none 0 0, .int .i64 13]) ∧ Things W w' (hl x M R O ts)) := fun w1 h1 => i_take_no cx h1 hb (WinAt.own ..) hm hn (by omega) x.cap
  clear h cx hs hb hm hn hpn
  generalize hA : x.A c = A at *
  generalize (pn c : Int) = n at *
  generalize R.W.length = wl at *
  go_enter Tryz.func219, Tryz.ntmps219
  go_wp2_with fail
  refine H1.out.mono ?_
  rintro e w1 ⟨rfl, h1⟩
  have TD : Hid (Things W w1.drew (hl x M R O ts)) := h1.kept (Fr.refl _ _).drew
  have c2 := HC.out _ h1
  have c2d := HC.out _ TD.out
  clear h1 H1
  go_wp2_with fail
  go_region_held3 (fun w' => w'.cell? ⟨x.h, 2, none⟩ = some (.slice x.ad wl x.cap)) (first | exact (by assumption) | go_keep) (first | (go_at_call 124; refine (HP.out _).mono ?_; rintro e w2 ⟨rfl, hw2⟩; obtain rfl := hw2.symm; clear hw2) | (go_at_call 103; refine (HT.out _ TD.out).mono ?_; rintro e w3 ⟨rfl, h3⟩; have T3 := hid h3; have c3 := HC.out _ h3; clear h3))
  all_goals
    go_wp2
    go_ret2
    exact ⟨by simp, T3.out⟩
def hdM (x : Px) (M : Ms) (R : Rs) (c : Nat) : Ms := ⟨tkH x.k R.W (pn c) M.has, M.bs, M.ss⟩
def hdR (x : Px) (M : Ms) (R : Rs) (c s : Nat) : Rs := ⟨R.W, mpL (lo c s) (tkL x.k R.W (pn c) M.has) R.T, fset R.sh c (Sf.taS (R.sh c) s), R.ln, R.pg, R.cnt⟩
set_option maxRecDepth 20000 in
set_option maxHeartbeats 2000000 in
theorem i_hold_yes (cx : Cx W O) (h : Things W w (hl x M R O ts)) (tb : TbOk R.T) (hb : M.bs.length = M.has.length * 512) (hcp : M.has.length ≤ 4096) (hm : R.W.length ≤ maxLen) {c s : Nat} (hc : c ≤ 23) (hsn : s < sn c) (hs : Sf.lowI (R.sh c) = s) (hn : pn c ≤ Cq.frI x.k M.has R.W) : Calls Tryz.prog 219 #[.pointer (some ⟨x.h, 0, none⟩), .int .i64 (c : Int)] w fun e w' => e = .returned (.tuple #[.int .i64 s, .int .i64 (Sf.taE (R.sh c) s)]) ∧ Things W w' (hl x (hdM x M R c) (hdR x M R c s) O ts) := by
  have cs := hob_s (z_blk h) (c := c) (by omega)
  have H1 : Hid (Calls Tryz.prog 192 #[.pointer (some ⟨x.A c, 0, none⟩)] w fun e w' => e = .returned (.int .i64 s) ∧ Things W w' (hl x M R O ts)) := (z_slowest h (cx.at h) (by omega)).mono fun e w' ⟨he, f⟩ => ⟨by rw [he, hs], h.kept f⟩
  have HC : Hid (∀ w1 M R ts, Things W w1 (hl x M R O ts) → w1.cell? ⟨x.h, 2, none⟩ = some (.slice x.ad R.W.length x.cap) ∧ w1.cell? ⟨x.h, 3, none⟩ = some (.pointer (some ⟨x.t, 0, none⟩)) ∧ w1.cell? ⟨x.h, 4 + c, none⟩ = some (.pointer (some ⟨x.A c, 0, none⟩))) := fun w1 M R ts h1 => ⟨hob_c2 (z_blk h1), hob_c3 (z_blk h1), hob_s (z_blk h1) (by omega)⟩
  have hpn := (pn_facts hc).1
  have hs2 := (pn_facts hc).2.1.2
  have HP : Hid (∀ w1, Calls Tryz.prog 124 #[.int .i64 (c : Int)] w1 fun e w' => e = .returned (.int .i64 (pn c : Int)) ∧ w' = w1) := fun w1 => by
    have := pages_any c w1
    rw [(pn_facts hc).2.2.2.1] at this
    exact this
  have HT : Hid (∀ w1, Things W w1 (hl x M R O ts) → Calls Tryz.prog 103 #[.pointer (some ⟨x.h, 0, none⟩), .int .i64 (pn c : Int), .slice x.ad R.W.length x.cap] w1 fun e w' => ∃ ad' cap', e = .returned (.tuple #[.slice ad' (tkL x.k R.W (pn c) M.has).length cap', .int .i64 0]) ∧ Things W w' (hl x ⟨tkH x.k R.W (pn c) M.has, M.bs, M.ss⟩ R O (ts ++ [Lv ad' (tkL x.k R.W (pn c) M.has)]))) := fun w1 h1 => i_take_yes cx h1 hb (WinAt.own ..) hm hn (by omega) x.cap
  have hli := lo_in hc hsn (i := 0) (by omega)
  have hlo : 0 ≤ lo c s ∧ lo c s ≤ 6400 := by have := hli.2.2; unfold VOk at this; omega
  have HI : Hid (∀ p ∈ tkL x.k R.W (pn c) M.has, 0 ≤ p ∧ p < 5000) := fun p hp => by have := tkL_in _ _ hn p hp; omega
  have HL : Hid (∀ w1 M R ts, Things W w1 (hl x M R O ts) → Calls Tryz.prog 181 #[.int .i64 (c : Int), .int .i64 (s : Int)] w1 fun e w' => e = .returned (.int .i64 (lo c s)) ∧ Things W w' (hl x M R O ts)) := fun w1 M R ts h1 => (i_local (cx.at h1) hc hsn).mono fun e w' ⟨he, f⟩ => ⟨he, h1.kept f⟩
  have hlen : (tkL x.k R.W (pn c) M.has).length = pn c := tkL_length _ _
  have HM : Hid (∀ (q : Nat) (hq : q < (tkL x.k R.W (pn c) M.has).length) w1 ts, Things W w1 (hl x ⟨tkH x.k R.W (pn c) M.has, M.bs, M.ss⟩ ⟨R.W, mpL (lo c s) ((tkL x.k R.W (pn c) M.has).take q) R.T, R.sh, R.ln, R.pg, R.cnt⟩ O ts) → ∃ E, Calls Tryz.prog 237 #[.pointer (some ⟨x.t, 0, none⟩), .int .i64 (lo c s + q), .int .i64 (tkL x.k R.W (pn c) M.has)[q]] w1 fun e w' => e = .returned (.int .i64 E) ∧ Things W w' (hl x ⟨tkH x.k R.W (pn c) M.has, M.bs, M.ss⟩ ⟨R.W, mpL (lo c s) ((tkL x.k R.W (pn c) M.has).take (q + 1)) R.T, R.sh, R.ln, R.pg, R.cnt⟩ O ts)) := fun q hq w1 ts h1 => by
    have hp := HI.out _ (List.getElem_mem hq)
    refine ⟨tbME (mpL (lo c s) ((tkL x.k R.W (pn c) M.has).take q) R.T) (lo c s + q) (tkL x.k R.W (pn c) M.has)[q], ?_⟩
    rw [mpL_take _ _ _ _ hq]
    exact z_tmap h1 (mpL_ok _ _ _ tb) (v := lo c s + q) ⟨by omega, by omega⟩ ⟨by omega, by omega⟩
  have HS : Hid (∀ w1 M R ts, Things W w1 (hl x M R O ts) → Calls Tryz.prog 201 #[.pointer (some ⟨x.A c, 0, none⟩), .int .i64 (s : Int)] w1 fun e w' => e = .returned (.int .i64 (Sf.taE (R.sh c) s)) ∧ Things W w' (hl x M ⟨R.W, R.T, fset R.sh c (Sf.taS (R.sh c) s), R.ln, R.pg, R.cnt⟩ O ts)) := fun w1 M R ts h1 => z_stake h1 (by omega) s
  unfold hdM hdR
  clear h cx hs hb hm hn tb hli hcp HI
  generalize lo c s = v at *
  generalize hA : x.A c = A at *
  generalize tkL x.k R.W (pn c) M.has = L at *
  generalize tkH x.k R.W (pn c) M.has = has' at *
  generalize pn c = n at *
  subst hlen
  go_enter Tryz.func219, Tryz.ntmps219
  go_wp2_with fail
  refine H1.out.mono ?_
  rintro e w1 ⟨rfl, h1⟩
  have TD : Hid (Things W w1.drew (hl x M R O ts)) := h1.kept (Fr.refl _ _).drew
  have c2 := (HC.out _ _ _ _ h1).1
  have c2d := (HC.out _ _ _ _ TD.out).1
  clear h1 H1
  go_wp2_with fail
  go_region_held3 (fun w' => w'.cell? ⟨x.h, 2, none⟩ = some (.slice x.ad R.W.length x.cap)) (first | exact (by assumption) | go_keep) (first | (go_at_call 124; refine (HP.out _).mono ?_; rintro e w2 ⟨rfl, hw2⟩; obtain rfl := hw2.symm; clear hw2) | (go_at_call 103; refine (HT.out _ TD.out).mono ?_; rintro e w3 ⟨ad', cap', rfl, h3⟩; have T3 := hid h3; have c3 := (HC.out _ _ _ _ h3).1; clear h3))
  have T4 : Hid (Things W w3 (hl x ⟨has', M.bs, M.ss⟩ ⟨R.W, mpL v (L.take 0) R.T, R.sh, R.ln, R.pg, R.cnt⟩ O (ts ++ [Lv ad' L]))) := T3
  clear T3 TD c2 c2d c3 HT HP cs
  go_wp2_with fail
  go_loopw [36] (fun i wr => ∃ q : Nat, q ≤ L.length ∧ i = .int .i64 q ∧ Hid (Things W wr (hl x ⟨has', M.bs, M.ss⟩ ⟨R.W, mpL v (L.take q) R.T, R.sh, R.ln, R.pg, R.cnt⟩ O (ts ++ [Lv ad' L])))) (fun i _ => L.length - (intOf i).toNat)
  case atStart => exact ⟨0, by omega, rfl, T4⟩
  case round =>
    clear T4
    obtain ⟨q, hq, rfl, T⟩ := hrel
    by_cases hlt : q < L.length
    · obtain ⟨bb, off, rfl, hbb, hc1⟩ := T.out.nums (ts.length + 10) hl_last q hlt
      have hw : IntKind.i64.wrap (v + q) = v + q := pw ⟨by omega, by omega⟩
      have TD : Hid (Things W wr.drew (hl x ⟨has', M.bs, M.ss⟩ ⟨R.W, mpL v (L.take q) R.T, R.sh, R.ln, R.pg, R.cnt⟩ O (ts ++ [Lv (some ⟨bb, off, none⟩) L]))) := T.out.kept (Fr.refl _ _).drew
      have c3 := (HC.out _ _ _ _ T.out).2.1
      have c3d := (HC.out _ _ _ _ TD.out).2.1
      have H2 : Hid (∀ w1, Things W w1 (hl x ⟨has', M.bs, M.ss⟩ ⟨R.W, mpL v (L.take q) R.T, R.sh, R.ln, R.pg, R.cnt⟩ O (ts ++ [Lv (some ⟨bb, off, none⟩) L])) → _) := fun w1 => HM.out q hlt w1 _
      clear HM HS T
      generalize L[q] = p at *
      go_wp2_with fail
      go_region_held3 (fun w' => w'.cell? ⟨x.h, 3, none⟩ = some (.pointer (some ⟨x.t, 0, none⟩))) (first | exact (by assumption) | go_keep) (first | (go_at_call 237; obtain ⟨E, hE⟩ := H2.out _ T5.out; refine hE.mono ?_; clear hE; rintro e w6 ⟨rfl, h6⟩; have T6 := hid h6; have c6 := (HC.out _ _ _ _ h6).2.1; clear h6) | (go_at_call 181; refine (HL.out _ _ _ _ TD.out).mono ?_; rintro e w5 ⟨rfl, h5⟩; have T5 := hid h5; have c5 := (HC.out _ _ _ _ h5).2.1; clear h5))
      all_goals
        clear H2 HL TD
        go_wp2
        go_roundw
        case rel => exact ⟨q + 1, by omega, by go_num, T6⟩
        case measure => simp [intOf]; omega
    · obtain rfl : q = L.length := by omega
      have T7 : Hid (Things W wr (hl x ⟨has', M.bs, M.ss⟩ ⟨R.W, mpL v L R.T, R.sh, R.ln, R.pg, R.cnt⟩ O ts)) := by
        have := hl_less T.out
        rw [List.take_length] at this
        exact this
      have cs := (HC.out _ _ _ _ T7.out).2.2
      have H8 := hid (HS.out _ _ _ _ T7.out)
      clear HM HS T T7 HL HC
      go_wp2_with fail
      refine H8.out.mono ?_
      rintro e w9 ⟨rfl, h9⟩
      have T9 := hid h9
      clear h9 H8
      go_wp2
      go_ret2
      exact ⟨by simp, T9.out⟩
end
end Go.Proofs.YtndhbnhobhkmaaaGreatDoor

namespace Go.Proofs.YtndhbnhobhkmaaaGreatDoor
open Go.RowKit
open An

def blM (M : Ms) (g : Pg) : Ms := ⟨M.has, paB g M.bs, paT g M.ss⟩
def blR (R : Rs) (c : Nat) (v : Int) (p : Nat) (g : Pg) : Rs := ⟨R.W, R.T, R.sh, if (paS g).Full then fset R.ln c (liR (R.ln c) v) else R.ln, fset R.pg v.toNat (some (p, paS g)), R.cnt⟩
section
variable {W w : World} {x : Px} {M : Ms} {R : Rs} {O : World → (Nat → Prop) → Prop} {ts : List (World → (Nat → Prop) → Prop)} {C : Nat → Prop}
theorem lo_mul {c s : Nat} (hc : c ≤ 23) : lo c s * 512 = adI c s 0 := by
  have e := lo_eq hc s
  have e2 := (pn_facts hc).2.2.2.1
  rw [e]
  unfold adI sbI
  rw [e2, show (s : Int) * ((pn c : Int) * 512) = ((s * pn c : Nat) : Int) * 512 by rw [Int.natCast_mul, Int.mul_assoc]]
  omega
theorem findR_lo {c s : Nat} (hc : c ≤ 23) (hs : s < sn c) : FindR (lo c s * 512) c s 0 0 := .inl ⟨rfl, plT_first hc hs, (lo_mul hc).symm⟩
theorem plT_small {c s k : Nat} (hc : c ≤ 7) (hs : s < sn c) (hk : k < pp c) : PlT c s k := by
  have := (pn_facts (c := c) (by omega)).2.2.2.2.1
  have h2 := (kind_facts c hc).2.2.2.2
  have h3 := (kind_facts c hc).2.1.1
  refine ⟨by omega, by rw [this]; omega, by omega, ?_⟩
  unfold nuI
  rw [h2, if_neg (by omega)]
  omega
set_option maxRecDepth 20000 in
set_option maxHeartbeats 2000000 in
theorem i_block (cx : Cx W O) (h : Things W w (hl x M R O ts)) {c s p : Nat} {g : Pg} (hc : c ≤ 7) (hs : s < sn c) (hp : R.pg (lo c s).toNat = some (p, g)) (ok : g.Ok M.bs) (cl : g.Clean M.bs) (hf : ¬ g.Full) (hkd : g.kind = c) (lk : LiOk (R.ln c)) (ll : (R.ln c).length ≤ 5000) (hk : M.ss.length ≤ 900000) : Calls Tryz.prog 176 #[.pointer (some ⟨x.h, 0, none⟩), .int .i64 (c : Int), .int .i64 (lo c s)] w fun e w' => e = .returned (.tuple #[.int .i64 (adI c s (paV g)), .int .i64 0]) ∧ Things W w' (hl x (blM M g) (blR R c (lo c s) p g) O ts) := by
  obtain ⟨l1, l2⟩ := lo_small_in hc hs
  have hi : I64 (lo c s) := ⟨by omega, by omega⟩
  have cp := hob_p (z_blk h)
  have lkp := (h.op17 8 rfl).look (x := lo c s) (wf_of hi)
  rw [pgm_at l1, hp] at lkp
  simp only [Option.map_some, ptV] at lkp
  have hg := ok.given cl hf
  have hV : paV g = (paK g : Int) := if_neg hf
  have hE : paE g = 0 := if_neg hf
  have H1 := hid (z_palloc h (cx.at h) l2 hp ok hk)
  rw [hE] at H1
  have hpT : PlT c s (paV g) := by rw [hV]; exact plT_small hc hs (by rw [← hkd]; exact hg.lt)
  have hpp : pp g.kind ≤ 32 := (kind_facts g.kind ok.kind).2.1.2
  have hVi : I64 (paV g) := by rw [hV]; have := hg.lt; exact ⟨by omega, by omega⟩
  have HF : Hid (∀ w1 M R ts, Things W w1 (hl x M R O ts) → Calls Tryz.prog 178 #[.int .i64 (lo c s * 512)] w1 fun e w' => e = .returned (.tuple #[.int .i64 (c : Int), .int .i64 (s : Int), .int .i64 0, .int .i64 0]) ∧ Things W w' (hl x M R O ts)) := fun w1 M R ts h1 => (l_find (findR_lo (by omega) hs) ⟨by omega, by omega⟩ (cx.at h1).k).mono fun e w' ⟨he, k⟩ => ⟨he, h1.kept k.fr⟩
  have hsn := (pn_facts (c := c) (by omega)).2.1.2
  have HO : Hid (∀ w1 M R ts, Things W w1 (hl x M R O ts) → Calls Tryz.prog 220 #[.int .i64 (c : Int), .int .i64 (s : Int), .int .i64 (paV g)] w1 fun e w' => e = .returned (.tuple #[.int .i64 (adI c s (paV g)), .int .i64 0]) ∧ Things W w' (hl x M R O ts)) := fun w1 M R ts h1 => (l_of c s (paV g) ⟨by omega, by omega⟩ ⟨by omega, by omega⟩ hVi (cx.at h1).k).mono fun e w' ⟨he, k⟩ => by
    have e1 : ofA c s (paV g) = adI c s (paV g) := if_pos hpT
    have e2 : ofE c s (paV g) = 0 := if_pos hpT
    rw [e1, e2] at he
    exact ⟨he, h1.kept k.fr⟩
  have hw : IntKind.i64.wrap (lo c s * 512) = lo c s * 512 := pw ⟨by omega, by omega⟩
  have HU : Hid (∀ w1, Things W w1 (hl x (blM M g) ⟨R.W, R.T, R.sh, R.ln, fset R.pg (lo c s).toNat (some (p, paS g)), R.cnt⟩ O ts) → Calls Tryz.prog 182 #[.pointer (some ⟨p, 0, none⟩)] w1 fun e w' => e = .returned (.bool (decide (paS g).Full)) ∧ Things W w' (hl x (blM M g) ⟨R.W, R.T, R.sh, R.ln, fset R.pg (lo c s).toNat (some (p, paS g)), R.cnt⟩ O ts)) := fun w1 h1 => z_pfull h1 (cx.at h1) l2 (fset_same ..) hg.ok
  have HR : Hid (∀ w1, Things W w1 (hl x (blM M g) ⟨R.W, R.T, R.sh, R.ln, fset R.pg (lo c s).toNat (some (p, paS g)), R.cnt⟩ O ts) → w1.cell? ⟨x.h, 28 + c, none⟩ = some (.pointer (some ⟨x.N c, 0, none⟩)) ∧ Calls Tryz.prog 186 #[.pointer (some ⟨x.N c, 0, none⟩), .int .i64 (lo c s)] w1 fun e w' => e = .returned (.int .i64 (liRE (R.ln c) (lo c s))) ∧ Things W w' (hl x (blM M g) ⟨R.W, R.T, R.sh, fset R.ln c (liR (R.ln c) (lo c s)), fset R.pg (lo c s).toNat (some (p, paS g)), R.cnt⟩ O ts)) := fun w1 h1 => ⟨hob_l (z_blk h1) (by omega), z_remove h1 (by omega) lk ll hi⟩
  have hc24 : (c : Int) < 8 := by omega
  unfold blR
  by_cases hF : (paS g).Full
  · rw [if_pos hF]
    rw [decide_eq_true hF] at HU
    clear h cx hp ok cl hf hkd lk ll hk hg hE hpT hVi l1 l2 hi hF hV hpp
    generalize hv : lo c s = v at *
    generalize adI c s (paV g) = ad at *
    generalize paV g = kk at *
    generalize hm : v * 512 = vm at *
    generalize liRE (R.ln c) v = re at *
    generalize hN : x.N c = N at *
    generalize (s : Int) = s' at *
    go_enter Tryz.func176, Tryz.ntmps176
    go_wp2_with fail
    refine H1.out.mono ?_
    rintro e w1 ⟨rfl, h1⟩
    have H2 := hid (HU.out _ h1)
    clear h1 H1 cp lkp HU
    go_wp2_with fail
    refine H2.out.mono ?_
    rintro e w2 ⟨rfl, h2⟩
    obtain ⟨c2, h3⟩ := HR.out _ h2
    have H3 := hid h3
    clear h2 h3 H2 HR
    go_wp2_with fail
    refine H3.out.mono ?_
    rintro e w3 ⟨rfl, h3⟩
    have H4 := hid (HF.out _ _ _ _ h3)
    clear h3 H3 c2 HF
    go_wp2_with fail
    refine H4.out.mono ?_
    rintro e w4 ⟨rfl, h4⟩
    have H5 := hid (HO.out _ _ _ _ h4)
    clear h4 H4 HO
    go_wp2_with fail
    refine H5.out.mono ?_
    rintro e w5 ⟨rfl, h5⟩
    have T5 := hid h5
    clear h5 H5
    go_wp2
    go_ret2
    exact ⟨by simp, T5.out⟩
  · rw [if_neg hF]
    rw [decide_eq_false hF] at HU
    clear h cx hp ok cl hf hkd lk ll hk hg hE hpT hVi l1 l2 hi hF hV hpp HR
    generalize hv : lo c s = v at *
    generalize adI c s (paV g) = ad at *
    generalize paV g = kk at *
    generalize hm : v * 512 = vm at *
    generalize (s : Int) = s' at *
    go_enter Tryz.func176, Tryz.ntmps176
    go_wp2_with fail
    refine H1.out.mono ?_
    rintro e w1 ⟨rfl, h1⟩
    have H2 := hid (HU.out _ h1)
    clear h1 H1 cp lkp HU
    go_wp2_with fail
    refine H2.out.mono ?_
    rintro e w2 ⟨rfl, h3⟩
    have H4 := hid (HF.out _ _ _ _ h3)
    clear h3 H2 HF
    go_wp2_with fail
    refine H4.out.mono ?_
    rintro e w4 ⟨rfl, h4⟩
    have H5 := hid (HO.out _ _ _ _ h4)
    clear h4 H4 HO
    go_wp2_with fail
    refine H5.out.mono ?_
    rintro e w5 ⟨rfl, h5⟩
    have T5 := hid h5
    clear h5 H5
    go_wp2
    go_ret2
    exact ⟨by simp, T5.out⟩
set_option maxRecDepth 20000 in
theorem i_run_no {c : Int} (h : Hid (Calls Tryz.prog 219 #[.pointer (some ⟨x.h, 0, none⟩), .int .i64 c] w fun e w' => e = .returned (.tuple #[.int .i64 0, .int .i64 13]) ∧ Things W w' (hl x M R O ts))) : Calls Tryz.prog 174 #[.pointer (some ⟨x.h, 0, none⟩), .int .i64 c] w fun e w' => e = .returned (.tuple #[.int .i64 0, .int .i64 13]) ∧ Things W w' (hl x M R O ts) := by
  go_enter Tryz.func174, Tryz.ntmps174
  go_wp2_with fail
  refine h.out.mono ?_
  rintro e w1 ⟨rfl, h1⟩
  have T1 := hid h1
  clear h1 h
  go_wp2
  go_ret2
  exact ⟨by simp, T1.out⟩
set_option maxRecDepth 20000 in
theorem i_run_yes (cx : Cx W O) {c s : Nat} (hc : c ≤ 23) (hs : s < sn c) {M' : Ms} {R' : Rs} (h : Hid (Calls Tryz.prog 219 #[.pointer (some ⟨x.h, 0, none⟩), .int .i64 (c : Int)] w fun e w' => e = .returned (.tuple #[.int .i64 (s : Int), .int .i64 0]) ∧ Things W w' (hl x M' R' O ts))) : Calls Tryz.prog 174 #[.pointer (some ⟨x.h, 0, none⟩), .int .i64 (c : Int)] w fun e w' => e = .returned (.tuple #[.int .i64 (adI c s 0), .int .i64 0]) ∧ Things W w' (hl x M' R' O ts) := by
  have hsn := (pn_facts hc).2.1.2
  have HO : Hid (∀ w1, Things W w1 (hl x M' R' O ts) → Calls Tryz.prog 220 #[.int .i64 (c : Int), .int .i64 (s : Int), .int .i64 0] w1 fun e w' => e = .returned (.tuple #[.int .i64 (adI c s 0), .int .i64 0]) ∧ Things W w' (hl x M' R' O ts)) := fun w1 h1 => (l_of c s 0 ⟨by omega, by omega⟩ ⟨by omega, by omega⟩ ⟨by omega, by omega⟩ (cx.at h1).k).mono fun e w' ⟨he, k⟩ => by
    have hpT := plT_first hc hs
    have e1 : ofA c s 0 = adI c s 0 := if_pos hpT
    have e2 : ofE c s 0 = 0 := if_pos hpT
    rw [e1, e2] at he
    exact ⟨he, h1.kept k.fr⟩
  clear cx hsn hs hc
  generalize adI c s 0 = ad at *
  generalize (s : Int) = s' at *
  generalize (c : Int) = c' at *
  go_enter Tryz.func174, Tryz.ntmps174
  go_wp2_with fail
  refine h.out.mono ?_
  rintro e w1 ⟨rfl, h1⟩
  have H2 := hid (HO.out _ h1)
  clear h1 h HO
  go_wp2_with fail
  refine H2.out.mono ?_
  rintro e w2 ⟨rfl, h2⟩
  have T2 := hid h2
  clear h2 H2
  go_wp2
  go_ret2
  exact ⟨by simp, T2.out⟩
end
end Go.Proofs.YtndhbnhobhkmaaaGreatDoor

namespace Go.Proofs.YtndhbnhobhkmaaaGreatDoor
open Go.RowKit
open An

section
variable {W w : World} {x : Px} {M : Ms} {R : Rs} {O : World → (Nat → Prop) → Prop} {ts : List (World → (Nat → Prop) → Prop)} {C : Nat → Prop}
theorem pgm_set {pg : Nat → Option (Nat × Pg)} {v : Int} {u p : Nat} {g : Pg} (h : v = (u : Int)) : pgm (fset pg u (some (p, g))) = fun z => if z = v then some p else pgm pg z := by
  funext z
  subst h
  unfold pgm fset
  by_cases e : z = (u : Int)
  · subst e; simp
  · rw [if_neg e]
    by_cases h0 : 0 ≤ z
    · rw [if_pos h0, if_pos h0, if_neg (by omega)]
    · rw [if_neg h0, if_neg h0]
theorem pgm_del {pg : Nat → Option (Nat × Pg)} {v : Int} {u : Nat} (h : v = (u : Int)) : pgm (fset pg u none) = fun z => if z = v then none else pgm pg z := by
  funext z
  subst h
  unfold pgm fset
  by_cases e : z = (u : Int)
  · subst e; simp
  · rw [if_neg e]
    by_cases h0 : 0 ≤ z
    · rw [if_pos h0, if_pos h0, if_neg (by omega)]
    · rw [if_neg h0, if_neg h0]
theorem z_mput {p u : Nat} {g : Pg} (h : Things W w (hl x M R O ts ++ [Pm p x.a g])) {v : Int} (hv : v = (u : Int)) (hu : u < 6400) (hno : R.pg u = none) (hc : R.cnt < maxLen) : ∃ w', (Instr.mapUpdate 143 (.map (some x.pb)) (.int .i64 v) (.pointer (some ⟨p, 0, none⟩))).run Tryz.prog w = .ok () w' ∧ Things W w' (hl x M ⟨R.W, R.T, R.sh, R.ln, fset R.pg u (some (p, g)), R.cnt + 1⟩ O ts) := by
  have hi : I64 v := ⟨by omega, by omega⟩
  obtain ⟨w', hr, o, f⟩ := (h.op17 8 rfl).store hc (wf_of hi) p
  have e0 : pgm R.pg v = none := by rw [pgm_at hv, hno]; rfl
  rw [e0, ← pgm_set (g := g) hv] at o
  simp only [Option.isSome_none, Bool.false_eq_true, if_false] at o
  refine ⟨w', hr, ?_⟩
  have h1 := h.turned17 8 rfl o f
  have hF : pgf x R.pg u = Non := by unfold pgf; rw [hno]; rfl
  have h2 : Things W w' (hl x M R O ts |>.set 8 (Mg x.pb (R.cnt + 1) (pgm (fset R.pg u (some (p, g))))) |>.append [Pm p x.a g]) := h1
  have h3 := Things.put h2 9 rfl (pgf_good x R.pg) hF
  have e2 := pgf_set x R.pg u (some (p, g))
  have e3 : pgt x.a (some (p, g)) = Pm p x.a g := rfl
  rw [e3] at e2
  rw [e2] at h3
  exact h3
theorem z_mdel {p u : Nat} {g : Pg} (h : Things W w (hl x M R O ts)) {v : Int} (hv : v = (u : Int)) (hu : u < 6400) (hp : R.pg u = some (p, g)) (ty : TypeId) : ∃ w', (Builtin.delete_ #[143, 3] ty #[.map (some x.pb), .int .i64 v]).run Tryz.prog w = .ok (.tuple #[]) w' ∧ Things W w' (hl x M ⟨R.W, R.T, R.sh, R.ln, fset R.pg u none, R.cnt - 1⟩ O ts) := by
  have hi : I64 v := ⟨by omega, by omega⟩
  obtain ⟨w', hr, o, f⟩ := (h.op17 8 rfl).drop (wf_of hi) ty
  have e0 : pgm R.pg v = some p := by rw [pgm_at hv, hp]; rfl
  rw [e0, ← pgm_del hv] at o
  simp only [Option.isSome_some, if_true] at o
  refine ⟨w', hr, ?_⟩
  have h1 := h.turned17 8 rfl o f
  have h3 := h1.forget 9 rfl (pgf_good x R.pg) hu
  have e2 := pgf_set x R.pg u none
  have e3 : pgt x.a none = Non := rfl
  rw [e3] at e2
  rw [e2] at h3
  exact h3
set_option maxRecDepth 20000 in
theorem i_open_no {c : Int} (h : Hid (Calls Tryz.prog 219 #[.pointer (some ⟨x.h, 0, none⟩), .int .i64 c] w fun e w' => e = .returned (.tuple #[.int .i64 0, .int .i64 13]) ∧ Things W w' (hl x M R O ts))) : Calls Tryz.prog 177 #[.pointer (some ⟨x.h, 0, none⟩), .int .i64 c] w fun e w' => e = .returned (.int .i64 13) ∧ Things W w' (hl x M R O ts) := by
  go_enter Tryz.func177, Tryz.ntmps177
  go_wp2_with fail
  refine h.out.mono ?_
  rintro e w1 ⟨rfl, h1⟩
  have T1 := hid h1
  clear h1 h
  go_wp2
  go_ret
  exact ⟨by simp, T1.out⟩
set_option maxRecDepth 20000 in
set_option maxHeartbeats 2000000 in
theorem i_open_yes (cx : Cx W O) {c s q : Nat} (hc : c ≤ 7) (hs : s < sn c) (h : Hid (Calls Tryz.prog 219 #[.pointer (some ⟨x.h, 0, none⟩), .int .i64 (c : Int)] w fun e w' => e = .returned (.tuple #[.int .i64 (s : Int), .int .i64 0]) ∧ Things W w' (hl x M R O ts))) (tb : TbOk R.T) (hq : tbF R.T (lo c s) = q) (hb : q * 512 + 512 ≤ M.bs.length) (hb2 : M.bs.length ≤ 2097152) (hno : R.pg (lo c s).toNat = none) (hcn : R.cnt < maxLen) (lk : LiOk (R.ln c)) (ll : (R.ln c).length ≤ 5000) : Calls Tryz.prog 177 #[.pointer (some ⟨x.h, 0, none⟩), .int .i64 (c : Int)] w fun e w' => e = .returned (.int .i64 (liPE (R.ln c) (lo c s))) ∧ ∃ p, Things W w' (hl x M ⟨R.W, R.T, R.sh, fset R.ln c (liP (R.ln c) (lo c s)), fset R.pg (lo c s).toNat (some (p, ⟨q * 512, c, 0, [], []⟩)), R.cnt + 1⟩ O ts) := by
  obtain ⟨l1, l2⟩ := lo_small_in hc hs
  have hi : I64 (lo c s) := ⟨by omega, by omega⟩
  have HL : Hid (∀ w1, Things W w1 (hl x M R O ts) → Calls Tryz.prog 181 #[.int .i64 (c : Int), .int .i64 (s : Int)] w1 fun e w' => e = .returned (.int .i64 (lo c s)) ∧ Things W w' (hl x M R O ts)) := fun w1 h1 => (i_local (cx.at h1) (by omega) hs).mono fun e w' ⟨he, f⟩ => ⟨he, h1.kept f⟩
  have HC : Hid (∀ w1 M R ts, Things W w1 (hl x M R O ts) → w1.cell? ⟨x.h, 0, none⟩ = some (.pointer (some ⟨x.a, 0, none⟩)) ∧ w1.cell? ⟨x.h, 3, none⟩ = some (.pointer (some ⟨x.t, 0, none⟩))) := fun w1 M R ts h1 => ⟨hob_c0 (z_blk h1), hob_c3 (z_blk h1)⟩
  have HF : Hid (∀ w1, Things W w1 (hl x M R O ts) → Calls Tryz.prog 142 #[.pointer (some ⟨x.t, 0, none⟩), .int .i64 (lo c s)] w1 fun e w' => e = .returned (.int .i64 (q : Int)) ∧ Things W w' (hl x M R O ts)) := fun w1 h1 => (z_tfind h1 tb hi).mono fun e w' ⟨he, f⟩ => ⟨by rw [he, hq], h1.kept f⟩
  have HN : Hid (∀ w1, Things W w1 (hl x M R O ts) → Calls Tryz.prog 223 #[.pointer (some ⟨x.a, 0, none⟩), .int .i64 ((q : Int) * 512), .int .i64 (c : Int)] w1 fun e w' => ∃ p, e = .returned (.tuple #[.pointer (some ⟨p, 0, none⟩), .int .i64 0]) ∧ Things W w' (hl x M R O ts ++ [Pm p x.a ⟨q * 512, c, 0, [], []⟩])) := fun w1 h1 => by
    have := z_pnew h1 (cx.at h1) (b := q * 512) (kd := c) hc ⟨by omega, by omega, by omega⟩
    rw [show ((q * 512 : Nat) : Int) = (q : Int) * 512 by omega] at this
    exact this
  have HM : Hid (∀ w1 p, Things W w1 (hl x M R O ts ++ [Pm p x.a ⟨q * 512, c, 0, [], []⟩]) → ∃ w', (Instr.mapUpdate 143 (.map (some x.pb)) (.int .i64 (lo c s)) (.pointer (some ⟨p, 0, none⟩))).run Tryz.prog w1 = .ok () w' ∧ Things W w' (hl x M ⟨R.W, R.T, R.sh, R.ln, fset R.pg (lo c s).toNat (some (p, ⟨q * 512, c, 0, [], []⟩)), R.cnt + 1⟩ O ts)) := fun w1 p h1 => z_mput h1 l1 l2 hno hcn
  have HP : Hid (∀ w1 M R' ts, R'.ln = R.ln → Things W w1 (hl x M R' O ts) → w1.cell? ⟨x.h, 28 + c, none⟩ = some (.pointer (some ⟨x.N c, 0, none⟩)) ∧ Calls Tryz.prog 184 #[.pointer (some ⟨x.N c, 0, none⟩), .int .i64 (lo c s)] w1 fun e w' => e = .returned (.int .i64 (liPE (R.ln c) (lo c s))) ∧ Things W w' (hl x M ⟨R'.W, R'.T, R'.sh, fset R.ln c (liP (R.ln c) (lo c s)), R'.pg, R'.cnt⟩ O ts)) := fun w1 M R' ts e h1 => by
    refine ⟨hob_l (z_blk h1) (by omega), ?_⟩
    have := z_push h1 (c := c) (by omega) (by rw [e]; exact lk) (by rw [e]; exact ll) hi
    rw [e] at this
    exact this
  have hcp : Hid (∀ w1 ts, Things W w1 (hl x M R O ts) → w1.cell? ⟨x.h, 36, none⟩ = some (.map (some x.pb))) := fun w1 ts h1 => hob_p (z_blk h1)
  have hw : IntKind.i64.wrap ((q : Int) * 512) = (q : Int) * 512 := pw ⟨by omega, by omega⟩
  have hc24 : (c : Int) < 8 := by omega
  clear cx hs tb hq hb hb2 hno hcn lk ll l1 l2 hi
  generalize hu : (lo c s).toNat = u at *
  generalize hG : (⟨q * 512, c, 0, [], []⟩ : Pg) = G at *
  clear hu hG
  generalize lo c s = v at *
  generalize (s : Int) = s' at *
  generalize (q : Int) = q' at *
  generalize hm : q' * 512 = qm at *
  generalize liPE (R.ln c) v = E at *
  generalize hNN : x.N c = NN at *
  go_enter Tryz.func177, Tryz.ntmps177
  go_wp2_with fail
  refine h.out.mono ?_
  rintro e w1 ⟨rfl, h1⟩
  have H1 := hid (HL.out _ h1)
  clear h1 h HL
  go_wp2_with fail
  refine H1.out.mono ?_
  rintro e w2 ⟨rfl, h2⟩
  have TD : Hid (Things W w2.drew (hl x M R O ts)) := h2.kept (Fr.refl _ _).drew
  obtain ⟨c0, c3⟩ := HC.out _ _ _ _ h2
  obtain ⟨d0, d3⟩ := HC.out _ _ _ _ TD.out
  clear h2 H1
  go_wp2_with fail
  go_region_held3 (fun w' => w'.cell? ⟨x.h, 0, none⟩ = some (.pointer (some ⟨x.a, 0, none⟩)) ∧ w'.cell? ⟨x.h, 3, none⟩ = some (.pointer (some ⟨x.t, 0, none⟩))) (first | exact ⟨by assumption, by assumption⟩ | go_keep) (first | (go_at_call 223; refine (HN.out _ T5.out).mono ?_; rintro e w6 ⟨p, rfl, h6⟩; have T6 := hid h6; obtain ⟨e0, e3⟩ := HC.out _ _ _ _ h6; clear h6) | (go_at_call 142; refine (HF.out _ TD.out).mono ?_; rintro e w5 ⟨rfl, h5⟩; have T5 := hid h5; obtain ⟨f0, f3⟩ := HC.out _ _ _ _ h5; clear h5))
  all_goals
    obtain ⟨w7, hr, h7⟩ := HM.out _ _ T6.out
    have c36 := hcp.out _ _ T6.out
    obtain ⟨c7, h8⟩ := HP.out _ _ ⟨R.W, R.T, R.sh, R.ln, fset R.pg u (some (p, G)), R.cnt + 1⟩ _ rfl h7
    have H8 := hid h8
    clear h7 h8 HM HP HC HF HN TD T5 T6 hcp
    go_wp2_with fail
    refine H8.out.mono ?_
    rintro e w9 ⟨rfl, h9⟩
    have T9 := hid h9
    clear h9 H8
    go_wp2
    go_ret
    exact ⟨by simp, p, T9.out⟩
set_option maxRecDepth 20000 in
set_option maxHeartbeats 2000000 in
theorem i_fb_some (cx : Cx W O) (h : Things W w (hl x M R O ts)) {c s p : Nat} {g : Pg} {j : Int} (hc : c ≤ 7) (hs : s < sn c) (hp : R.pg (lo c s).toNat = some (p, g)) (ok : g.Ok M.bs) (cl : g.Clean M.bs) (hm : g.May j) (hj : I64 j) (lk : LiOk (R.ln c)) (ll : (R.ln c).length ≤ 5000) (hk : M.ss.length ≤ 890000) (hu : (pfS g j).used ≠ 0) : Calls Tryz.prog 130 #[.pointer (some ⟨x.h, 0, none⟩), .int .i64 (c : Int), .int .i64 (s : Int), .int .i64 j] w fun e w' => e = .returned (.int .i64 0) ∧ Things W w' (hl x ⟨M.has, pfB g M.bs j, pfT g M.ss j⟩ ⟨R.W, R.T, R.sh, if g.Full then fset R.ln c (liP (R.ln c) (lo c s)) else R.ln, fset R.pg (lo c s).toNat (some (p, pfS g j)), R.cnt⟩ O ts) := by
  obtain ⟨l1, l2⟩ := lo_small_in hc hs
  have hi : I64 (lo c s) := ⟨by omega, by omega⟩
  have H0 : Hid (Calls Tryz.prog 181 #[.int .i64 (c : Int), .int .i64 (s : Int)] w fun e w' => e = .returned (.int .i64 (lo c s)) ∧ Things W w' (hl x M R O ts)) := (i_local (cx.at h) (by omega) hs).mono fun e w' ⟨he, f⟩ => ⟨he, h.kept f⟩
  have HZ : Hid (∀ w1, Things W w1 (hl x M R O ts) → w1.cell? ⟨x.h, 36, none⟩ = some (.map (some x.pb)) ∧ (Instr.lookup 143 (.map (some x.pb)) (.int .i64 (lo c s)) false).run Tryz.prog w1 = .ok (.pointer (some ⟨p, 0, none⟩)) w1) := fun w1 h1 => by
    have lkp := (h1.op17 8 rfl).look (x := lo c s) (wf_of hi)
    rw [pgm_at l1, hp] at lkp
    exact ⟨hob_p (z_blk h1), lkp⟩
  have HU : Hid (∀ w1, Things W w1 (hl x M R O ts) → Calls Tryz.prog 182 #[.pointer (some ⟨p, 0, none⟩)] w1 fun e w' => e = .returned (.bool (decide g.Full)) ∧ Things W w' (hl x M R O ts)) := fun w1 h1 => z_pfull h1 (cx.at h1) l2 hp ok
  have hE : pfE g j = 0 := (ok.freed cl j).2.2.1.2 hm
  have HF : Hid (∀ w1, Things W w1 (hl x M R O ts) → Calls Tryz.prog 183 #[.pointer (some ⟨p, 0, none⟩), .int .i64 j] w1 fun e w' => e = .returned (.int .i64 0) ∧ Things W w' (hl x ⟨M.has, pfB g M.bs j, pfT g M.ss j⟩ ⟨R.W, R.T, R.sh, R.ln, fset R.pg (lo c s).toNat (some (p, pfS g j)), R.cnt⟩ O ts)) := fun w1 h1 => by
    have := z_pfree h1 (cx.at h1) l2 hp ok (by omega) hj
    rw [hE] at this
    exact this
  have HD : Hid (∀ w1 ln, Things W w1 (hl x ⟨M.has, pfB g M.bs j, pfT g M.ss j⟩ ⟨R.W, R.T, R.sh, ln, fset R.pg (lo c s).toNat (some (p, pfS g j)), R.cnt⟩ O ts) → Calls Tryz.prog 185 #[.pointer (some ⟨p, 0, none⟩)] w1 fun e w' => e = .returned (.int .i64 ((pfS g j).used : Int)) ∧ Things W w' (hl x ⟨M.has, pfB g M.bs j, pfT g M.ss j⟩ ⟨R.W, R.T, R.sh, ln, fset R.pg (lo c s).toNat (some (p, pfS g j)), R.cnt⟩ O ts)) := fun w1 ln h1 => z_pused h1 (cx.at h1) l2 (fset_same ..) (ok.free j).1
  have hc24 : (c : Int) < 8 := by omega
  have hu1 : (0 : Int) < ((pfS g j).used : Int) := by omega
  have HP : Hid (∀ w1, Things W w1 (hl x ⟨M.has, pfB g M.bs j, pfT g M.ss j⟩ ⟨R.W, R.T, R.sh, R.ln, fset R.pg (lo c s).toNat (some (p, pfS g j)), R.cnt⟩ O ts) → w1.cell? ⟨x.h, 28 + c, none⟩ = some (.pointer (some ⟨x.N c, 0, none⟩)) ∧ Calls Tryz.prog 184 #[.pointer (some ⟨x.N c, 0, none⟩), .int .i64 (lo c s)] w1 fun e w' => e = .returned (.int .i64 (liPE (R.ln c) (lo c s))) ∧ Things W w' (hl x ⟨M.has, pfB g M.bs j, pfT g M.ss j⟩ ⟨R.W, R.T, R.sh, fset R.ln c (liP (R.ln c) (lo c s)), fset R.pg (lo c s).toNat (some (p, pfS g j)), R.cnt⟩ O ts)) := fun w1 h1 => ⟨hob_l (z_blk h1) (by omega), z_push h1 (by omega) lk ll hi⟩
  by_cases hF : g.Full
  · rw [if_pos hF]
    rw [decide_eq_true hF] at HU
    clear h cx hp ok cl hm hj lk ll hk hu hE l1 l2 hi hF hs
    generalize ((pfS g j).used : Int) = un at *
    generalize hv : lo c s = v at *
    generalize (s : Int) = s' at *
    generalize hN : x.N c = N at *
    generalize liPE (R.ln c) v = pe at *
    go_enter Tryz.func130, Tryz.ntmps130
    go_wp2_with fail
    refine H0.out.mono ?_
    rintro e w1 ⟨rfl, h1⟩
    obtain ⟨c1, k1⟩ := HZ.out _ h1
    have H1 := hid (HU.out _ h1)
    clear h1 H0 HZ HU
    go_wp2_with fail
    refine H1.out.mono ?_
    rintro e w2 ⟨rfl, h2⟩
    have H2 := hid (HF.out _ h2)
    clear h2 H1 HF c1 k1
    go_wp2_with fail
    refine H2.out.mono ?_
    rintro e w3 ⟨rfl, h3⟩
    obtain ⟨c3, h4⟩ := HP.out _ h3
    have H3 := hid h4
    clear h3 h4 H2 HP
    go_wp2_with fail
    refine H3.out.mono ?_
    rintro e w4 ⟨rfl, h4⟩
    have H4 := hid (HD.out _ _ h4)
    clear h4 H3 HD c3
    go_wp2_with fail
    refine H4.out.mono ?_
    rintro e w5 ⟨rfl, h5⟩
    have T5 := hid h5
    clear h5 H4
    go_wp2
    go_ret
    exact ⟨by simp, T5.out⟩
  · rw [if_neg hF]
    rw [decide_eq_false hF] at HU
    clear h cx hp ok cl hm hj lk ll hk hu hE l1 l2 hi hF hs HP
    generalize ((pfS g j).used : Int) = un at *
    generalize hv : lo c s = v at *
    generalize (s : Int) = s' at *
    go_enter Tryz.func130, Tryz.ntmps130
    go_wp2_with fail
    refine H0.out.mono ?_
    rintro e w1 ⟨rfl, h1⟩
    obtain ⟨c1, k1⟩ := HZ.out _ h1
    have H1 := hid (HU.out _ h1)
    clear h1 H0 HZ HU
    go_wp2_with fail
    refine H1.out.mono ?_
    rintro e w2 ⟨rfl, h2⟩
    have H2 := hid (HF.out _ h2)
    clear h2 H1 HF c1 k1
    go_wp2_with fail
    refine H2.out.mono ?_
    rintro e w3 ⟨rfl, h3⟩
    have H4 := hid (HD.out _ _ h3)
    clear h3 H2 HD
    go_wp2_with fail
    refine H4.out.mono ?_
    rintro e w5 ⟨rfl, h5⟩
    have T5 := hid h5
    clear h5 H4
    go_wp2
    go_ret
    exact ⟨by simp, T5.out⟩
set_option maxRecDepth 20000 in
set_option maxHeartbeats 2000000 in
theorem i_fb_last (cx : Cx W O) (h : Things W w (hl x M R O ts)) {c s p : Nat} {g : Pg} {j : Int} (hc : c ≤ 7) (hs : s < sn c) (hp : R.pg (lo c s).toNat = some (p, g)) (ok : g.Ok M.bs) (cl : g.Clean M.bs) (hm : g.May j) (hj : I64 j) (lk : LiOk (R.ln c)) (ll : (R.ln c).length ≤ 5000) (hk : M.ss.length ≤ 890000) (hu : (pfS g j).used = 0) (hF : ¬ g.Full) (tp : TpOk C M.has R.T) (ms : MsOk ⟨M.has, pfB g M.bs j, pfT g M.ss j⟩) (cov : ∀ i : Nat, i < pn c → ¬ tbF R.T (lo c s + i) < 0) : Calls Tryz.prog 130 #[.pointer (some ⟨x.h, 0, none⟩), .int .i64 (c : Int), .int .i64 (s : Int), .int .i64 j] w fun e w' => e = .returned (.int .i64 (Sf.giE (R.sh c) s)) ∧ Things W w' (hl x (letN (pn c) (lo c s) ⟨M.has, pfB g M.bs j, pfT g M.ss j⟩ R.T).1 ⟨R.W, (letN (pn c) (lo c s) ⟨M.has, pfB g M.bs j, pfT g M.ss j⟩ R.T).2, fset R.sh c (Sf.giS (R.sh c) s), fset R.ln c (liR (R.ln c) (lo c s)), fset R.pg (lo c s).toNat none, R.cnt - 1⟩ O ts) := by
  obtain ⟨l1, l2⟩ := lo_small_in hc hs
  have hi : I64 (lo c s) := ⟨by omega, by omega⟩
  have H0 : Hid (Calls Tryz.prog 181 #[.int .i64 (c : Int), .int .i64 (s : Int)] w fun e w' => e = .returned (.int .i64 (lo c s)) ∧ Things W w' (hl x M R O ts)) := (i_local (cx.at h) (by omega) hs).mono fun e w' ⟨he, f⟩ => ⟨he, h.kept f⟩
  have HZ : Hid (∀ w1, Things W w1 (hl x M R O ts) → w1.cell? ⟨x.h, 36, none⟩ = some (.map (some x.pb)) ∧ (Instr.lookup 143 (.map (some x.pb)) (.int .i64 (lo c s)) false).run Tryz.prog w1 = .ok (.pointer (some ⟨p, 0, none⟩)) w1) := fun w1 h1 => by
    have lkp := (h1.op17 8 rfl).look (x := lo c s) (wf_of hi)
    rw [pgm_at l1, hp] at lkp
    exact ⟨hob_p (z_blk h1), lkp⟩
  have HU : Hid (∀ w1, Things W w1 (hl x M R O ts) → Calls Tryz.prog 182 #[.pointer (some ⟨p, 0, none⟩)] w1 fun e w' => e = .returned (.bool (decide g.Full)) ∧ Things W w' (hl x M R O ts)) := fun w1 h1 => z_pfull h1 (cx.at h1) l2 hp ok
  have hE : pfE g j = 0 := (ok.freed cl j).2.2.1.2 hm
  have HF : Hid (∀ w1, Things W w1 (hl x M R O ts) → Calls Tryz.prog 183 #[.pointer (some ⟨p, 0, none⟩), .int .i64 j] w1 fun e w' => e = .returned (.int .i64 0) ∧ Things W w' (hl x ⟨M.has, pfB g M.bs j, pfT g M.ss j⟩ ⟨R.W, R.T, R.sh, R.ln, fset R.pg (lo c s).toNat (some (p, pfS g j)), R.cnt⟩ O ts)) := fun w1 h1 => by
    have := z_pfree h1 (cx.at h1) l2 hp ok (by omega) hj
    rw [hE] at this
    exact this
  have HD : Hid (∀ w1 ln, Things W w1 (hl x ⟨M.has, pfB g M.bs j, pfT g M.ss j⟩ ⟨R.W, R.T, R.sh, ln, fset R.pg (lo c s).toNat (some (p, pfS g j)), R.cnt⟩ O ts) → Calls Tryz.prog 185 #[.pointer (some ⟨p, 0, none⟩)] w1 fun e w' => e = .returned (.int .i64 ((pfS g j).used : Int)) ∧ Things W w' (hl x ⟨M.has, pfB g M.bs j, pfT g M.ss j⟩ ⟨R.W, R.T, R.sh, ln, fset R.pg (lo c s).toNat (some (p, pfS g j)), R.cnt⟩ O ts)) := fun w1 ln h1 => z_pused h1 (cx.at h1) l2 (fset_same ..) (ok.free j).1
  have hc24 : (c : Int) < 8 := by omega
  rw [hu] at HD
  rw [decide_eq_false hF] at HU
  have HP : Hid (∀ w1, Things W w1 (hl x ⟨M.has, pfB g M.bs j, pfT g M.ss j⟩ ⟨R.W, R.T, R.sh, R.ln, fset R.pg (lo c s).toNat (some (p, pfS g j)), R.cnt⟩ O ts) → w1.cell? ⟨x.h, 28 + c, none⟩ = some (.pointer (some ⟨x.N c, 0, none⟩)) ∧ Calls Tryz.prog 186 #[.pointer (some ⟨x.N c, 0, none⟩), .int .i64 (lo c s)] w1 fun e w' => e = .returned (.int .i64 (liRE (R.ln c) (lo c s))) ∧ Things W w' (hl x ⟨M.has, pfB g M.bs j, pfT g M.ss j⟩ ⟨R.W, R.T, R.sh, fset R.ln c (liR (R.ln c) (lo c s)), fset R.pg (lo c s).toNat (some (p, pfS g j)), R.cnt⟩ O ts)) := fun w1 h1 => ⟨hob_l (z_blk h1) (by omega), z_remove h1 (by omega) lk ll hi⟩
  have HM : Hid (∀ w1, Things W w1 (hl x ⟨M.has, pfB g M.bs j, pfT g M.ss j⟩ ⟨R.W, R.T, R.sh, fset R.ln c (liR (R.ln c) (lo c s)), fset R.pg (lo c s).toNat (some (p, pfS g j)), R.cnt⟩ O ts) → w1.cell? ⟨x.h, 36, none⟩ = some (.map (some x.pb)) ∧ ∃ w', (Builtin.delete_ #[143, 3] 0 #[.map (some x.pb), .int .i64 (lo c s)]).run Tryz.prog w1 = .ok (.tuple #[]) w' ∧ Things W w' (hl x ⟨M.has, pfB g M.bs j, pfT g M.ss j⟩ ⟨R.W, R.T, R.sh, fset R.ln c (liR (R.ln c) (lo c s)), fset R.pg (lo c s).toNat none, R.cnt - 1⟩ O ts)) := fun w1 h1 => by
    refine ⟨hob_p (z_blk h1), ?_⟩
    have := z_mdel h1 l1 l2 (fset_same ..) 0
    rw [fset_fset] at this
    exact this
  have HK : Hid (∀ w1, Things W w1 (hl x ⟨M.has, pfB g M.bs j, pfT g M.ss j⟩ ⟨R.W, R.T, R.sh, fset R.ln c (liR (R.ln c) (lo c s)), fset R.pg (lo c s).toNat none, R.cnt - 1⟩ O ts) → Calls Tryz.prog 131 #[.pointer (some ⟨x.h, 0, none⟩), .int .i64 (c : Int), .int .i64 (s : Int)] w1 fun e w' => e = .returned (.int .i64 (Sf.giE (R.sh c) s)) ∧ Things W w' (hl x (letN (pn c) (lo c s) ⟨M.has, pfB g M.bs j, pfT g M.ss j⟩ R.T).1 ⟨R.W, (letN (pn c) (lo c s) ⟨M.has, pfB g M.bs j, pfT g M.ss j⟩ R.T).2, fset R.sh c (Sf.giS (R.sh c) s), fset R.ln c (liR (R.ln c) (lo c s)), fset R.pg (lo c s).toNat none, R.cnt - 1⟩ O ts)) := fun w1 h1 => i_close cx h1 (C := C) tp ms (by omega) hs cov (by have := hp_pfT_len (g := g) M.ss j; show (pfT g M.ss j).length ≤ _; omega)
  · clear h cx hp ok cl hm hj lk ll hk hE l1 l2 hi hF hs tp ms cov
    generalize (letN (pn c) (lo c s) ⟨M.has, pfB g M.bs j, pfT g M.ss j⟩ R.T).1 = M9 at *
    generalize (letN (pn c) (lo c s) ⟨M.has, pfB g M.bs j, pfT g M.ss j⟩ R.T).2 = T9 at *
    generalize hv : lo c s = v at *
    generalize Sf.giE (R.sh c) s = E at *
    generalize fset R.sh c (Sf.giS (R.sh c) s) = sh9 at *
    generalize (s : Int) = s' at *
    generalize hN : x.N c = N at *
    generalize liRE (R.ln c) v = pe at *
    go_enter Tryz.func130, Tryz.ntmps130
    go_wp2_with fail
    refine H0.out.mono ?_
    rintro e w1 ⟨rfl, h1⟩
    obtain ⟨c1, k1⟩ := HZ.out _ h1
    have H1 := hid (HU.out _ h1)
    clear h1 H0 HZ HU
    go_wp2_with fail
    refine H1.out.mono ?_
    rintro e w2 ⟨rfl, h2⟩
    have H2 := hid (HF.out _ h2)
    clear h2 H1 HF c1 k1
    go_wp2_with fail
    refine H2.out.mono ?_
    rintro e w3 ⟨rfl, h3⟩
    have H4 := hid (HD.out _ _ h3)
    clear h3 H2 HD
    go_wp2_with fail
    refine H4.out.mono ?_
    rintro e w4 ⟨rfl, h4⟩
    obtain ⟨c5, h5⟩ := HP.out _ h4
    have H5 := hid h5
    clear h4 h5 H4 HP
    go_wp2_with fail
    refine H5.out.mono ?_
    rintro e w6 ⟨rfl, h6⟩
    obtain ⟨c6, w7, hr7, h7⟩ := HM.out _ h6
    have H7 := hid (HK.out _ h7)
    clear h6 h7 H5 HM HK c5
    go_wp2_with fail
    refine H7.out.mono ?_
    rintro e w8 ⟨rfl, h8⟩
    have T8 := hid h8
    clear h8 H7
    go_wp2
    go_ret
    exact ⟨by simp, T8.out⟩
end
end Go.Proofs.YtndhbnhobhkmaaaGreatDoor
