/-
  The heap's own calls that open a page of small blocks and take blocks back: open, freeBlock.
-/
import Derived.Test.YtioplfbkfokkfaaGreatDoorHpCallsD
namespace Go.Proofs.YtioplfbkfokkfaaGreatDoor
open Go.RowKit
open An

section
variable {W w : World} {x : Px} {M : Ms} {R : Rs} {O : World → (Nat → Prop) → Prop} {ts : List (World → (Nat → Prop) → Prop)} {C : Nat → Prop}
theorem pgm_set {pg : Nat → Option (Nat × Pg)} {v : Int} {u p : Nat} {g : Pg} (h : v = (u : Int)) : pgm (fset pg u (some (p, g))) = fun z => if z = v then some p else pgm pg z := by
  funext z
  subst h
  unfold pgm fset
  by_cases e : z = (u : Int)
  · subst e; simp
  · rw [if_neg e]
    by_cases h0 : 0 ≤ z
    · rw [if_pos h0, if_pos h0, if_neg (by omega)]
    · rw [if_neg h0, if_neg h0]
theorem pgm_del {pg : Nat → Option (Nat × Pg)} {v : Int} {u : Nat} (h : v = (u : Int)) : pgm (fset pg u none) = fun z => if z = v then none else pgm pg z := by
  funext z
  subst h
  unfold pgm fset
  by_cases e : z = (u : Int)
  · subst e; simp
  · rw [if_neg e]
    by_cases h0 : 0 ≤ z
    · rw [if_pos h0, if_pos h0, if_neg (by omega)]
    · rw [if_neg h0, if_neg h0]
theorem z_mput {p u : Nat} {g : Pg} (h : Things W w (hl x M R O ts ++ [Pm p x.a g])) {v : Int} (hv : v = (u : Int)) (hu : u < 6400) (hno : R.pg u = none) (hc : R.cnt < maxLen) : ∃ w', (Instr.mapUpdate 120 (.map (some x.pb)) (.int .i64 v) (.pointer (some ⟨p, 0, none⟩))).run Tryz.prog w = .ok () w' ∧ Things W w' (hl x M ⟨R.W, R.T, R.sh, R.ln, fset R.pg u (some (p, g)), R.cnt + 1⟩ O ts) := by
  have hi : I64 v := ⟨by omega, by omega⟩
  obtain ⟨w', hr, o, f⟩ := (h.op17 8 rfl).store hc (wf_of hi) p
  have e0 : pgm R.pg v = none := by rw [pgm_at hv, hno]; rfl
  rw [e0, ← pgm_set (g := g) hv] at o
  simp only [Option.isSome_none, Bool.false_eq_true, if_false] at o
  refine ⟨w', hr, ?_⟩
  have h1 := h.turned17 8 rfl o f
  have hF : pgf x R.pg u = Non := by unfold pgf; rw [hno]; rfl
  have h2 : Things W w' (hl x M R O ts |>.set 8 (Mg x.pb (R.cnt + 1) (pgm (fset R.pg u (some (p, g))))) |>.append [Pm p x.a g]) := h1
  have h3 := Things.put h2 9 rfl (pgf_good x R.pg) hF
  have e2 := pgf_set x R.pg u (some (p, g))
  have e3 : pgt x.a (some (p, g)) = Pm p x.a g := rfl
  rw [e3] at e2
  rw [e2] at h3
  exact h3
theorem z_mdel {p u : Nat} {g : Pg} (h : Things W w (hl x M R O ts)) {v : Int} (hv : v = (u : Int)) (hu : u < 6400) (hp : R.pg u = some (p, g)) (ty : TypeId) : ∃ w', (Builtin.delete_ #[120, 3] ty #[.map (some x.pb), .int .i64 v]).run Tryz.prog w = .ok (.tuple #[]) w' ∧ Things W w' (hl x M ⟨R.W, R.T, R.sh, R.ln, fset R.pg u none, R.cnt - 1⟩ O ts) := by
  have hi : I64 v := ⟨by omega, by omega⟩
  obtain ⟨w', hr, o, f⟩ := (h.op17 8 rfl).drop (wf_of hi) ty
  have e0 : pgm R.pg v = some p := by rw [pgm_at hv, hp]; rfl
  rw [e0, ← pgm_del hv] at o
  simp only [Option.isSome_some, if_true] at o
  refine ⟨w', hr, ?_⟩
  have h1 := h.turned17 8 rfl o f
  have h3 := h1.forget 9 rfl (pgf_good x R.pg) hu
  have e2 := pgf_set x R.pg u none
  have e3 : pgt x.a none = Non := rfl
  rw [e3] at e2
  rw [e2] at h3
  exact h3
set_option maxRecDepth 20000 in
theorem i_open_no {c : Int} (h : Hid (Calls Tryz.prog 212 #[.pointer (some ⟨x.h, 0, none⟩), .int .i64 c] w fun e w' => e = .returned (.tuple #[.int .i64 0, .int .i64 13]) ∧ Things W w' (hl x M R O ts))) : Calls Tryz.prog 170 #[.pointer (some ⟨x.h, 0, none⟩), .int .i64 c] w fun e w' => e = .returned (.int .i64 13) ∧ Things W w' (hl x M R O ts) := by
  go_enter Tryz.func170, Tryz.ntmps170
  go_wp2_with fail
  refine h.out.mono ?_
  rintro e w1 ⟨rfl, h1⟩
  have T1 := hid h1
  clear h1 h
  go_wp2
  go_ret
  exact ⟨by simp, T1.out⟩
set_option maxRecDepth 20000 in
set_option maxHeartbeats 2000000 in
theorem i_open_yes (cx : Cx W O) {c s q : Nat} (hc : c ≤ 7) (hs : s < sn c) (h : Hid (Calls Tryz.prog 212 #[.pointer (some ⟨x.h, 0, none⟩), .int .i64 (c : Int)] w fun e w' => e = .returned (.tuple #[.int .i64 (s : Int), .int .i64 0]) ∧ Things W w' (hl x M R O ts))) (tb : TbOk R.T) (hq : tbF R.T (lo c s) = q) (hb : q * 512 + 512 ≤ M.bs.length) (hb2 : M.bs.length ≤ 2097152) (hno : R.pg (lo c s).toNat = none) (hcn : R.cnt < maxLen) (lk : LiOk (R.ln c)) (ll : (R.ln c).length ≤ 5000) : Calls Tryz.prog 170 #[.pointer (some ⟨x.h, 0, none⟩), .int .i64 (c : Int)] w fun e w' => e = .returned (.int .i64 (liPE (R.ln c) (lo c s))) ∧ ∃ p, Things W w' (hl x M ⟨R.W, R.T, R.sh, fset R.ln c (liP (R.ln c) (lo c s)), fset R.pg (lo c s).toNat (some (p, ⟨q * 512, c, 0, [], []⟩)), R.cnt + 1⟩ O ts) := by
  obtain ⟨l1, l2⟩ := lo_small_in hc hs
  have hi : I64 (lo c s) := ⟨by omega, by omega⟩
  have HL : Hid (∀ w1, Things W w1 (hl x M R O ts) → Calls Tryz.prog 188 #[.int .i64 (c : Int), .int .i64 (s : Int)] w1 fun e w' => e = .returned (.int .i64 (lo c s)) ∧ Things W w' (hl x M R O ts)) := fun w1 h1 => (i_local (cx.at h1) (by omega) hs).mono fun e w' ⟨he, f⟩ => ⟨he, h1.kept f⟩
  have HC : Hid (∀ w1 M R ts, Things W w1 (hl x M R O ts) → w1.cell? ⟨x.h, 0, none⟩ = some (.pointer (some ⟨x.a, 0, none⟩)) ∧ w1.cell? ⟨x.h, 3, none⟩ = some (.pointer (some ⟨x.t, 0, none⟩))) := fun w1 M R ts h1 => ⟨hob_c0 (z_blk h1), hob_c3 (z_blk h1)⟩
  have HF : Hid (∀ w1, Things W w1 (hl x M R O ts) → Calls Tryz.prog 147 #[.pointer (some ⟨x.t, 0, none⟩), .int .i64 (lo c s)] w1 fun e w' => e = .returned (.int .i64 (q : Int)) ∧ Things W w' (hl x M R O ts)) := fun w1 h1 => (z_tfind h1 tb hi).mono fun e w' ⟨he, f⟩ => ⟨by rw [he, hq], h1.kept f⟩
  have HN : Hid (∀ w1, Things W w1 (hl x M R O ts) → Calls Tryz.prog 216 #[.pointer (some ⟨x.a, 0, none⟩), .int .i64 ((q : Int) * 512), .int .i64 (c : Int)] w1 fun e w' => ∃ p, e = .returned (.tuple #[.pointer (some ⟨p, 0, none⟩), .int .i64 0]) ∧ Things W w' (hl x M R O ts ++ [Pm p x.a ⟨q * 512, c, 0, [], []⟩])) := fun w1 h1 => by
    have := z_pnew h1 (cx.at h1) (b := q * 512) (kd := c) hc ⟨by omega, by omega, by omega⟩
    rw [show ((q * 512 : Nat) : Int) = (q : Int) * 512 by omega] at this
    exact this
  have HM : Hid (∀ w1 p, Things W w1 (hl x M R O ts ++ [Pm p x.a ⟨q * 512, c, 0, [], []⟩]) → ∃ w', (Instr.mapUpdate 120 (.map (some x.pb)) (.int .i64 (lo c s)) (.pointer (some ⟨p, 0, none⟩))).run Tryz.prog w1 = .ok () w' ∧ Things W w' (hl x M ⟨R.W, R.T, R.sh, R.ln, fset R.pg (lo c s).toNat (some (p, ⟨q * 512, c, 0, [], []⟩)), R.cnt + 1⟩ O ts)) := fun w1 p h1 => z_mput h1 l1 l2 hno hcn
  have HP : Hid (∀ w1 M R' ts, R'.ln = R.ln → Things W w1 (hl x M R' O ts) → w1.cell? ⟨x.h, 28 + c, none⟩ = some (.pointer (some ⟨x.N c, 0, none⟩)) ∧ Calls Tryz.prog 191 #[.pointer (some ⟨x.N c, 0, none⟩), .int .i64 (lo c s)] w1 fun e w' => e = .returned (.int .i64 (liPE (R.ln c) (lo c s))) ∧ Things W w' (hl x M ⟨R'.W, R'.T, R'.sh, fset R.ln c (liP (R.ln c) (lo c s)), R'.pg, R'.cnt⟩ O ts)) := fun w1 M R' ts e h1 => by
    refine ⟨hob_l (z_blk h1) (by omega), ?_⟩
    have := z_push h1 (c := c) (by omega) (by rw [e]; exact lk) (by rw [e]; exact ll) hi
    rw [e] at this
    exact this
  have hcp : Hid (∀ w1 ts, Things W w1 (hl x M R O ts) → w1.cell? ⟨x.h, 36, none⟩ = some (.map (some x.pb))) := fun w1 ts h1 => hob_p (z_blk h1)
  have hw : IntKind.i64.wrap ((q : Int) * 512) = (q : Int) * 512 := pw ⟨by omega, by omega⟩
  have hc24 : (c : Int) < 8 := by omega
  clear cx hs tb hq hb hb2 hno hcn lk ll l1 l2 hi
  generalize hu : (lo c s).toNat = u at *
  generalize hG : (⟨q * 512, c, 0, [], []⟩ : Pg) = G at *
  clear hu hG
  generalize lo c s = v at *
  generalize (s : Int) = s' at *
  generalize (q : Int) = q' at *
  generalize hm : q' * 512 = qm at *
  generalize liPE (R.ln c) v = E at *
  generalize hNN : x.N c = NN at *
  go_enter Tryz.func170, Tryz.ntmps170
  go_wp2_with fail
  refine h.out.mono ?_
  rintro e w1 ⟨rfl, h1⟩
  have H1 := hid (HL.out _ h1)
  clear h1 h HL
  go_wp2_with fail
  refine H1.out.mono ?_
  rintro e w2 ⟨rfl, h2⟩
  have TD : Hid (Things W w2.drew (hl x M R O ts)) := h2.kept (Fr.refl _ _).drew
  obtain ⟨c0, c3⟩ := HC.out _ _ _ _ h2
  obtain ⟨d0, d3⟩ := HC.out _ _ _ _ TD.out
  clear h2 H1
  go_wp2_with fail
  go_region_held3 (fun w' => w'.cell? ⟨x.h, 0, none⟩ = some (.pointer (some ⟨x.a, 0, none⟩)) ∧ w'.cell? ⟨x.h, 3, none⟩ = some (.pointer (some ⟨x.t, 0, none⟩))) (first | exact ⟨by assumption, by assumption⟩ | go_keep) (first | (go_at_call 216; refine (HN.out _ T5.out).mono ?_; rintro e w6 ⟨p, rfl, h6⟩; have T6 := hid h6; obtain ⟨e0, e3⟩ := HC.out _ _ _ _ h6; clear h6) | (go_at_call 147; refine (HF.out _ TD.out).mono ?_; rintro e w5 ⟨rfl, h5⟩; have T5 := hid h5; obtain ⟨f0, f3⟩ := HC.out _ _ _ _ h5; clear h5))
  all_goals
    obtain ⟨w7, hr, h7⟩ := HM.out _ _ T6.out
    have c36 := hcp.out _ _ T6.out
    obtain ⟨c7, h8⟩ := HP.out _ _ ⟨R.W, R.T, R.sh, R.ln, fset R.pg u (some (p, G)), R.cnt + 1⟩ _ rfl h7
    have H8 := hid h8
    clear h7 h8 HM HP HC HF HN TD T5 T6 hcp
    go_wp2_with fail
    refine H8.out.mono ?_
    rintro e w9 ⟨rfl, h9⟩
    have T9 := hid h9
    clear h9 H8
    go_wp2
    go_ret
    exact ⟨by simp, p, T9.out⟩
set_option maxRecDepth 20000 in
set_option maxHeartbeats 2000000 in
theorem i_fb_some (cx : Cx W O) (h : Things W w (hl x M R O ts)) {c s p : Nat} {g : Pg} {j : Int} (hc : c ≤ 7) (hs : s < sn c) (hp : R.pg (lo c s).toNat = some (p, g)) (ok : g.Ok M.bs) (cl : g.Clean M.bs) (hm : g.May j) (hj : I64 j) (lk : LiOk (R.ln c)) (ll : (R.ln c).length ≤ 5000) (hk : M.ss.length ≤ 890000) (hu : (pfS g j).used ≠ 0) : Calls Tryz.prog 139 #[.pointer (some ⟨x.h, 0, none⟩), .int .i64 (c : Int), .int .i64 (s : Int), .int .i64 j] w fun e w' => e = .returned (.int .i64 0) ∧ Things W w' (hl x ⟨M.has, pfB g M.bs j, pfT g M.ss j⟩ ⟨R.W, R.T, R.sh, if g.Full then fset R.ln c (liP (R.ln c) (lo c s)) else R.ln, fset R.pg (lo c s).toNat (some (p, pfS g j)), R.cnt⟩ O ts) := by
  obtain ⟨l1, l2⟩ := lo_small_in hc hs
  have hi : I64 (lo c s) := ⟨by omega, by omega⟩
  have H0 : Hid (Calls Tryz.prog 188 #[.int .i64 (c : Int), .int .i64 (s : Int)] w fun e w' => e = .returned (.int .i64 (lo c s)) ∧ Things W w' (hl x M R O ts)) := (i_local (cx.at h) (by omega) hs).mono fun e w' ⟨he, f⟩ => ⟨he, h.kept f⟩
  have HZ : Hid (∀ w1, Things W w1 (hl x M R O ts) → w1.cell? ⟨x.h, 36, none⟩ = some (.map (some x.pb)) ∧ (Instr.lookup 120 (.map (some x.pb)) (.int .i64 (lo c s)) false).run Tryz.prog w1 = .ok (.pointer (some ⟨p, 0, none⟩)) w1) := fun w1 h1 => by
    have lkp := (h1.op17 8 rfl).look (x := lo c s) (wf_of hi)
    rw [pgm_at l1, hp] at lkp
    exact ⟨hob_p (z_blk h1), lkp⟩
  have HU : Hid (∀ w1, Things W w1 (hl x M R O ts) → Calls Tryz.prog 189 #[.pointer (some ⟨p, 0, none⟩)] w1 fun e w' => e = .returned (.bool (decide g.Full)) ∧ Things W w' (hl x M R O ts)) := fun w1 h1 => z_pfull h1 (cx.at h1) l2 hp ok
  have hE : pfE g j = 0 := (ok.freed cl j).2.2.1.2 hm
  have HF : Hid (∀ w1, Things W w1 (hl x M R O ts) → Calls Tryz.prog 190 #[.pointer (some ⟨p, 0, none⟩), .int .i64 j] w1 fun e w' => e = .returned (.int .i64 0) ∧ Things W w' (hl x ⟨M.has, pfB g M.bs j, pfT g M.ss j⟩ ⟨R.W, R.T, R.sh, R.ln, fset R.pg (lo c s).toNat (some (p, pfS g j)), R.cnt⟩ O ts)) := fun w1 h1 => by
    have := z_pfree h1 (cx.at h1) l2 hp ok (by omega) hj
    rw [hE] at this
    exact this
  have HD : Hid (∀ w1 ln, Things W w1 (hl x ⟨M.has, pfB g M.bs j, pfT g M.ss j⟩ ⟨R.W, R.T, R.sh, ln, fset R.pg (lo c s).toNat (some (p, pfS g j)), R.cnt⟩ O ts) → Calls Tryz.prog 192 #[.pointer (some ⟨p, 0, none⟩)] w1 fun e w' => e = .returned (.int .i64 ((pfS g j).used : Int)) ∧ Things W w' (hl x ⟨M.has, pfB g M.bs j, pfT g M.ss j⟩ ⟨R.W, R.T, R.sh, ln, fset R.pg (lo c s).toNat (some (p, pfS g j)), R.cnt⟩ O ts)) := fun w1 ln h1 => z_pused h1 (cx.at h1) l2 (fset_same ..) (ok.free j).1
  have hc24 : (c : Int) < 8 := by omega
  have hu1 : (0 : Int) < ((pfS g j).used : Int) := by omega
  have HP : Hid (∀ w1, Things W w1 (hl x ⟨M.has, pfB g M.bs j, pfT g M.ss j⟩ ⟨R.W, R.T, R.sh, R.ln, fset R.pg (lo c s).toNat (some (p, pfS g j)), R.cnt⟩ O ts) → w1.cell? ⟨x.h, 28 + c, none⟩ = some (.pointer (some ⟨x.N c, 0, none⟩)) ∧ Calls Tryz.prog 191 #[.pointer (some ⟨x.N c, 0, none⟩), .int .i64 (lo c s)] w1 fun e w' => e = .returned (.int .i64 (liPE (R.ln c) (lo c s))) ∧ Things W w' (hl x ⟨M.has, pfB g M.bs j, pfT g M.ss j⟩ ⟨R.W, R.T, R.sh, fset R.ln c (liP (R.ln c) (lo c s)), fset R.pg (lo c s).toNat (some (p, pfS g j)), R.cnt⟩ O ts)) := fun w1 h1 => ⟨hob_l (z_blk h1) (by omega), z_push h1 (by omega) lk ll hi⟩
  by_cases hF : g.Full
  · rw [if_pos hF]
    rw [decide_eq_true hF] at HU
    clear h cx hp ok cl hm hj lk ll hk hu hE l1 l2 hi hF hs
    generalize ((pfS g j).used : Int) = un at *
    generalize hv : lo c s = v at *
    generalize (s : Int) = s' at *
    generalize hN : x.N c = N at *
    generalize liPE (R.ln c) v = pe at *
    go_enter Tryz.func139, Tryz.ntmps139
    go_wp2_with fail
    refine H0.out.mono ?_
    rintro e w1 ⟨rfl, h1⟩
    obtain ⟨c1, k1⟩ := HZ.out _ h1
    have H1 := hid (HU.out _ h1)
    clear h1 H0 HZ HU
    go_wp2_with fail
    refine H1.out.mono ?_
    rintro e w2 ⟨rfl, h2⟩
    have H2 := hid (HF.out _ h2)
    clear h2 H1 HF c1 k1
    go_wp2_with fail
    refine H2.out.mono ?_
    rintro e w3 ⟨rfl, h3⟩
    obtain ⟨c3, h4⟩ := HP.out _ h3
    have H3 := hid h4
    clear h3 h4 H2 HP
    go_wp2_with fail
    refine H3.out.mono ?_
    rintro e w4 ⟨rfl, h4⟩
    have H4 := hid (HD.out _ _ h4)
    clear h4 H3 HD c3
    go_wp2_with fail
    refine H4.out.mono ?_
    rintro e w5 ⟨rfl, h5⟩
    have T5 := hid h5
    clear h5 H4
    go_wp2
    go_ret
    exact ⟨by simp, T5.out⟩
  · rw [if_neg hF]
    rw [decide_eq_false hF] at HU
    clear h cx hp ok cl hm hj lk ll hk hu hE l1 l2 hi hF hs HP
    generalize ((pfS g j).used : Int) = un at *
    generalize hv : lo c s = v at *
    generalize (s : Int) = s' at *
    go_enter Tryz.func139, Tryz.ntmps139
    go_wp2_with fail
    refine H0.out.mono ?_
    rintro e w1 ⟨rfl, h1⟩
    obtain ⟨c1, k1⟩ := HZ.out _ h1
    have H1 := hid (HU.out _ h1)
    clear h1 H0 HZ HU
    go_wp2_with fail
    refine H1.out.mono ?_
    rintro e w2 ⟨rfl, h2⟩
    have H2 := hid (HF.out _ h2)
    clear h2 H1 HF c1 k1
    go_wp2_with fail
    refine H2.out.mono ?_
    rintro e w3 ⟨rfl, h3⟩
    have H4 := hid (HD.out _ _ h3)
    clear h3 H2 HD
    go_wp2_with fail
    refine H4.out.mono ?_
    rintro e w5 ⟨rfl, h5⟩
    have T5 := hid h5
    clear h5 H4
    go_wp2
    go_ret
    exact ⟨by simp, T5.out⟩
set_option maxRecDepth 20000 in
set_option maxHeartbeats 2000000 in
theorem i_fb_last (cx : Cx W O) (h : Things W w (hl x M R O ts)) {c s p : Nat} {g : Pg} {j : Int} (hc : c ≤ 7) (hs : s < sn c) (hp : R.pg (lo c s).toNat = some (p, g)) (ok : g.Ok M.bs) (cl : g.Clean M.bs) (hm : g.May j) (hj : I64 j) (lk : LiOk (R.ln c)) (ll : (R.ln c).length ≤ 5000) (hk : M.ss.length ≤ 890000) (hu : (pfS g j).used = 0) (hF : ¬ g.Full) (tp : TpOk C M.has R.T) (ms : MsOk ⟨M.has, pfB g M.bs j, pfT g M.ss j⟩) (cov : ∀ i : Nat, i < pn c → ¬ tbF R.T (lo c s + i) < 0) : Calls Tryz.prog 139 #[.pointer (some ⟨x.h, 0, none⟩), .int .i64 (c : Int), .int .i64 (s : Int), .int .i64 j] w fun e w' => e = .returned (.int .i64 (Sf.giE (R.sh c) s)) ∧ Things W w' (hl x (letN (pn c) (lo c s) ⟨M.has, pfB g M.bs j, pfT g M.ss j⟩ R.T).1 ⟨R.W, (letN (pn c) (lo c s) ⟨M.has, pfB g M.bs j, pfT g M.ss j⟩ R.T).2, fset R.sh c (Sf.giS (R.sh c) s), fset R.ln c (liR (R.ln c) (lo c s)), fset R.pg (lo c s).toNat none, R.cnt - 1⟩ O ts) := by
  obtain ⟨l1, l2⟩ := lo_small_in hc hs
  have hi : I64 (lo c s) := ⟨by omega, by omega⟩
  have H0 : Hid (Calls Tryz.prog 188 #[.int .i64 (c : Int), .int .i64 (s : Int)] w fun e w' => e = .returned (.int .i64 (lo c s)) ∧ Things W w' (hl x M R O ts)) := (i_local (cx.at h) (by omega) hs).mono fun e w' ⟨he, f⟩ => ⟨he, h.kept f⟩
  have HZ : Hid (∀ w1, Things W w1 (hl x M R O ts) → w1.cell? ⟨x.h, 36, none⟩ = some (.map (some x.pb)) ∧ (Instr.lookup 120 (.map (some x.pb)) (.int .i64 (lo c s)) false).run Tryz.prog w1 = .ok (.pointer (some ⟨p, 0, none⟩)) w1) := fun w1 h1 => by
    have lkp := (h1.op17 8 rfl).look (x := lo c s) (wf_of hi)
    rw [pgm_at l1, hp] at lkp
    exact ⟨hob_p (z_blk h1), lkp⟩
  have HU : Hid (∀ w1, Things W w1 (hl x M R O ts) → Calls Tryz.prog 189 #[.pointer (some ⟨p, 0, none⟩)] w1 fun e w' => e = .returned (.bool (decide g.Full)) ∧ Things W w' (hl x M R O ts)) := fun w1 h1 => z_pfull h1 (cx.at h1) l2 hp ok
  have hE : pfE g j = 0 := (ok.freed cl j).2.2.1.2 hm
  have HF : Hid (∀ w1, Things W w1 (hl x M R O ts) → Calls Tryz.prog 190 #[.pointer (some ⟨p, 0, none⟩), .int .i64 j] w1 fun e w' => e = .returned (.int .i64 0) ∧ Things W w' (hl x ⟨M.has, pfB g M.bs j, pfT g M.ss j⟩ ⟨R.W, R.T, R.sh, R.ln, fset R.pg (lo c s).toNat (some (p, pfS g j)), R.cnt⟩ O ts)) := fun w1 h1 => by
    have := z_pfree h1 (cx.at h1) l2 hp ok (by omega) hj
    rw [hE] at this
    exact this
  have HD : Hid (∀ w1 ln, Things W w1 (hl x ⟨M.has, pfB g M.bs j, pfT g M.ss j⟩ ⟨R.W, R.T, R.sh, ln, fset R.pg (lo c s).toNat (some (p, pfS g j)), R.cnt⟩ O ts) → Calls Tryz.prog 192 #[.pointer (some ⟨p, 0, none⟩)] w1 fun e w' => e = .returned (.int .i64 ((pfS g j).used : Int)) ∧ Things W w' (hl x ⟨M.has, pfB g M.bs j, pfT g M.ss j⟩ ⟨R.W, R.T, R.sh, ln, fset R.pg (lo c s).toNat (some (p, pfS g j)), R.cnt⟩ O ts)) := fun w1 ln h1 => z_pused h1 (cx.at h1) l2 (fset_same ..) (ok.free j).1
  have hc24 : (c : Int) < 8 := by omega
  rw [hu] at HD
  rw [decide_eq_false hF] at HU
  have HP : Hid (∀ w1, Things W w1 (hl x ⟨M.has, pfB g M.bs j, pfT g M.ss j⟩ ⟨R.W, R.T, R.sh, R.ln, fset R.pg (lo c s).toNat (some (p, pfS g j)), R.cnt⟩ O ts) → w1.cell? ⟨x.h, 28 + c, none⟩ = some (.pointer (some ⟨x.N c, 0, none⟩)) ∧ Calls Tryz.prog 193 #[.pointer (some ⟨x.N c, 0, none⟩), .int .i64 (lo c s)] w1 fun e w' => e = .returned (.int .i64 (liRE (R.ln c) (lo c s))) ∧ Things W w' (hl x ⟨M.has, pfB g M.bs j, pfT g M.ss j⟩ ⟨R.W, R.T, R.sh, fset R.ln c (liR (R.ln c) (lo c s)), fset R.pg (lo c s).toNat (some (p, pfS g j)), R.cnt⟩ O ts)) := fun w1 h1 => ⟨hob_l (z_blk h1) (by omega), z_remove h1 (by omega) lk ll hi⟩
  have HM : Hid (∀ w1, Things W w1 (hl x ⟨M.has, pfB g M.bs j, pfT g M.ss j⟩ ⟨R.W, R.T, R.sh, fset R.ln c (liR (R.ln c) (lo c s)), fset R.pg (lo c s).toNat (some (p, pfS g j)), R.cnt⟩ O ts) → w1.cell? ⟨x.h, 36, none⟩ = some (.map (some x.pb)) ∧ ∃ w', (Builtin.delete_ #[120, 3] 0 #[.map (some x.pb), .int .i64 (lo c s)]).run Tryz.prog w1 = .ok (.tuple #[]) w' ∧ Things W w' (hl x ⟨M.has, pfB g M.bs j, pfT g M.ss j⟩ ⟨R.W, R.T, R.sh, fset R.ln c (liR (R.ln c) (lo c s)), fset R.pg (lo c s).toNat none, R.cnt - 1⟩ O ts)) := fun w1 h1 => by
    refine ⟨hob_p (z_blk h1), ?_⟩
    have := z_mdel h1 l1 l2 (fset_same ..) 0
    rw [fset_fset] at this
    exact this
  have HK : Hid (∀ w1, Things W w1 (hl x ⟨M.has, pfB g M.bs j, pfT g M.ss j⟩ ⟨R.W, R.T, R.sh, fset R.ln c (liR (R.ln c) (lo c s)), fset R.pg (lo c s).toNat none, R.cnt - 1⟩ O ts) → Calls Tryz.prog 140 #[.pointer (some ⟨x.h, 0, none⟩), .int .i64 (c : Int), .int .i64 (s : Int)] w1 fun e w' => e = .returned (.int .i64 (Sf.giE (R.sh c) s)) ∧ Things W w' (hl x (letN (pn c) (lo c s) ⟨M.has, pfB g M.bs j, pfT g M.ss j⟩ R.T).1 ⟨R.W, (letN (pn c) (lo c s) ⟨M.has, pfB g M.bs j, pfT g M.ss j⟩ R.T).2, fset R.sh c (Sf.giS (R.sh c) s), fset R.ln c (liR (R.ln c) (lo c s)), fset R.pg (lo c s).toNat none, R.cnt - 1⟩ O ts)) := fun w1 h1 => i_close cx h1 (C := C) tp ms (by omega) hs cov (by have := hp_pfT_len (g := g) M.ss j; show (pfT g M.ss j).length ≤ _; omega)
  · clear h cx hp ok cl hm hj lk ll hk hE l1 l2 hi hF hs tp ms cov
    generalize (letN (pn c) (lo c s) ⟨M.has, pfB g M.bs j, pfT g M.ss j⟩ R.T).1 = M9 at *
    generalize (letN (pn c) (lo c s) ⟨M.has, pfB g M.bs j, pfT g M.ss j⟩ R.T).2 = T9 at *
    generalize hv : lo c s = v at *
    generalize Sf.giE (R.sh c) s = E at *
    generalize fset R.sh c (Sf.giS (R.sh c) s) = sh9 at *
    generalize (s : Int) = s' at *
    generalize hN : x.N c = N at *
    generalize liRE (R.ln c) v = pe at *
    go_enter Tryz.func139, Tryz.ntmps139
    go_wp2_with fail
    refine H0.out.mono ?_
    rintro e w1 ⟨rfl, h1⟩
    obtain ⟨c1, k1⟩ := HZ.out _ h1
    have H1 := hid (HU.out _ h1)
    clear h1 H0 HZ HU
    go_wp2_with fail
    refine H1.out.mono ?_
    rintro e w2 ⟨rfl, h2⟩
    have H2 := hid (HF.out _ h2)
    clear h2 H1 HF c1 k1
    go_wp2_with fail
    refine H2.out.mono ?_
    rintro e w3 ⟨rfl, h3⟩
    have H4 := hid (HD.out _ _ h3)
    clear h3 H2 HD
    go_wp2_with fail
    refine H4.out.mono ?_
    rintro e w4 ⟨rfl, h4⟩
    obtain ⟨c5, h5⟩ := HP.out _ h4
    have H5 := hid h5
    clear h4 h5 H4 HP
    go_wp2_with fail
    refine H5.out.mono ?_
    rintro e w6 ⟨rfl, h6⟩
    obtain ⟨c6, w7, hr7, h7⟩ := HM.out _ h6
    have H7 := hid (HK.out _ h7)
    clear h6 h7 H5 HM HK c5
    go_wp2_with fail
    refine H7.out.mono ?_
    rintro e w8 ⟨rfl, h8⟩
    have T8 := hid h8
    clear h8 H7
    go_wp2
    go_ret
    exact ⟨by simp, T8.out⟩
end
end Go.Proofs.YtioplfbkfokkfaaGreatDoor
