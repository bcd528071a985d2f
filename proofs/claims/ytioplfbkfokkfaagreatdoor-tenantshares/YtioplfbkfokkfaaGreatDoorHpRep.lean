/-
  The heap's own calls that open a page of small blocks and take blocks back: open, freeBlock.
  What lies in memory and the heap that it stands for; a heap as one thing, and as things side by side.
-/
import Derived.Test.YtioplfbkfokkfaaGreatDoorHpCallsD
namespace Go.Proofs.YtioplfbkfokkfaaGreatDoor
open Go.RowKit
open An

section
variable {W w : World} {x : Px} {M : Ms} {R : Rs} {O : World → (Nat → Prop) → Prop} {ts : List (World → (Nat → Prop) → Prop)} {C : Nat → Prop}
theorem pgm_set {pg : Nat → Option (Nat × Pg)} {v : Int} {u p : Nat} {g : Pg} (h : v = (u : Int)) : pgm (fset pg u (some (p, g))) = fun z => if z = v then some p else pgm pg z := by
  funext z
  subst h
  unfold pgm fset
  by_cases e : z = (u : Int)
  · subst e; simp
  · rw [if_neg e]
    by_cases h0 : 0 ≤ z
    · rw [if_pos h0, if_pos h0, if_neg (by omega)]
    · rw [if_neg h0, if_neg h0]
theorem pgm_del {pg : Nat → Option (Nat × Pg)} {v : Int} {u : Nat} (h : v = (u : Int)) : pgm (fset pg u none) = fun z => if z = v then none else pgm pg z := by
  funext z
  subst h
  unfold pgm fset
  by_cases e : z = (u : Int)
  · subst e; simp
  · rw [if_neg e]
    by_cases h0 : 0 ≤ z
    · rw [if_pos h0, if_pos h0, if_neg (by omega)]
    · rw [if_neg h0, if_neg h0]
/-- A page is put into the table of pages. -/
theorem z_mput {p u : Nat} {g : Pg} (h : Things W w (hl x M R O ts ++ [Pm p x.a g])) {v : Int} (hv : v = (u : Int)) (hu : u < 6400) (hno : R.pg u = none) (hc : R.cnt < maxLen) : ∃ w', (Instr.mapUpdate 120 (.map (some x.pb)) (.int .i64 v) (.pointer (some ⟨p, 0, none⟩))).run Tryz.prog w = .ok () w' ∧ Things W w' (hl x M ⟨R.W, R.T, R.sh, R.ln, fset R.pg u (some (p, g)), R.cnt + 1⟩ O ts) := by
  have hi : I64 v := ⟨by omega, by omega⟩
  obtain ⟨w', hr, o, f⟩ := (h.op17 8 rfl).store hc (wf_of hi) p
  have e0 : pgm R.pg v = none := by rw [pgm_at hv, hno]; rfl
  rw [e0, ← pgm_set (g := g) hv] at o
  simp only [Option.isSome_none, Bool.false_eq_true, if_false] at o
  refine ⟨w', hr, ?_⟩
  have h1 := h.turned17 8 rfl o f
  have hF : pgf x R.pg u = Non := by unfold pgf; rw [hno]; rfl
  have h2 : Things W w' (hl x M R O ts |>.set 8 (Mg x.pb (R.cnt + 1) (pgm (fset R.pg u (some (p, g))))) |>.append [Pm p x.a g]) := h1
  have h3 := Things.put h2 9 rfl (pgf_good x R.pg) hF
  have e2 := pgf_set x R.pg u (some (p, g))
  have e3 : pgt x.a (some (p, g)) = Pm p x.a g := rfl
  rw [e3] at e2
  rw [e2] at h3
  exact h3
/-- A page is taken out of the table of pages. -/
theorem z_mdel {p u : Nat} {g : Pg} (h : Things W w (hl x M R O ts)) {v : Int} (hv : v = (u : Int)) (hu : u < 6400) (hp : R.pg u = some (p, g)) (ty : TypeId) : ∃ w', (Builtin.delete_ #[120, 3] ty #[.map (some x.pb), .int .i64 v]).run Tryz.prog w = .ok (.tuple #[]) w' ∧ Things W w' (hl x M ⟨R.W, R.T, R.sh, R.ln, fset R.pg u none, R.cnt - 1⟩ O ts) := by
  have hi : I64 v := ⟨by omega, by omega⟩
  obtain ⟨w', hr, o, f⟩ := (h.op17 8 rfl).drop (wf_of hi) ty
  have e0 : pgm R.pg v = some p := by rw [pgm_at hv, hp]; rfl
  rw [e0, ← pgm_del hv] at o
  simp only [Option.isSome_some, if_true] at o
  refine ⟨w', hr, ?_⟩
  have h1 := h.turned17 8 rfl o f
  have h3 := h1.forget 9 rfl (pgf_good x R.pg) hu
  have e2 := pgf_set x R.pg u none
  have e3 : pgt x.a none = Non := rfl
  rw [e3] at e2
  rw [e2] at h3
  exact h3
set_option maxRecDepth 20000 in
theorem i_open_no {c : Int} (h : Hid (Calls Tryz.prog 212 #[.pointer (some ⟨x.h, 0, none⟩), .int .i64 c] w fun e w' => e = .returned (.tuple #[.int .i64 0, .int .i64 13]) ∧ Things W w' (hl x M R O ts))) : Calls Tryz.prog 170 #[.pointer (some ⟨x.h, 0, none⟩), .int .i64 c] w fun e w' => e = .returned (.int .i64 13) ∧ Things W w' (hl x M R O ts) := by
  go_enter Tryz.func170, Tryz.ntmps170
  go_wp2_with fail
  refine h.out.mono ?_
  rintro e w1 ⟨rfl, h1⟩
  have T1 := hid h1
  clear h1 h
  go_wp2
  go_ret
  exact ⟨by simp, T1.out⟩
set_option maxRecDepth 20000 in
set_option maxHeartbeats 2000000 in
theorem i_open_yes (cx : Cx W O) {c s q : Nat} (hc : c ≤ 7) (hs : s < sn c) (h : Hid (Calls Tryz.prog 212 #[.pointer (some ⟨x.h, 0, none⟩), .int .i64 (c : Int)] w fun e w' => e = .returned (.tuple #[.int .i64 (s : Int), .int .i64 0]) ∧ Things W w' (hl x M R O ts))) (tb : TbOk R.T) (hq : tbF R.T (lo c s) = q) (hb : q * 512 + 512 ≤ M.bs.length) (hb2 : M.bs.length ≤ 2097152) (hno : R.pg (lo c s).toNat = none) (hcn : R.cnt < maxLen) (lk : LiOk (R.ln c)) (ll : (R.ln c).length ≤ 5000) : Calls Tryz.prog 170 #[.pointer (some ⟨x.h, 0, none⟩), .int .i64 (c : Int)] w fun e w' => e = .returned (.int .i64 (liPE (R.ln c) (lo c s))) ∧ ∃ p, Things W w' (hl x M ⟨R.W, R.T, R.sh, fset R.ln c (liP (R.ln c) (lo c s)), fset R.pg (lo c s).toNat (some (p, ⟨q * 512, c, 0, [], []⟩)), R.cnt + 1⟩ O ts) := by
  obtain ⟨l1, l2⟩ := lo_small_in hc hs
  have hi : I64 (lo c s) := ⟨by omega, by omega⟩
  have HL : Hid (∀ w1, Things W w1 (hl x M R O ts) → Calls Tryz.prog 188 #[.int .i64 (c : Int), .int .i64 (s : Int)] w1 fun e w' => e = .returned (.int .i64 (lo c s)) ∧ Things W w' (hl x M R O ts)) := fun w1 h1 => (i_local (cx.at h1) (by omega) hs).mono fun e w' ⟨he, f⟩ => ⟨he, h1.kept f⟩
  have HC : Hid (∀ w1 M R ts, Things W w1 (hl x M R O ts) → w1.cell? ⟨x.h, 0, none⟩ = some (.pointer (some ⟨x.a, 0, none⟩)) ∧ w1.cell? ⟨x.h, 3, none⟩ = some (.pointer (some ⟨x.t, 0, none⟩))) := fun w1 M R ts h1 => ⟨hob_c0 (z_blk h1), hob_c3 (z_blk h1)⟩
  have HF : Hid (∀ w1, Things W w1 (hl x M R O ts) → Calls Tryz.prog 147 #[.pointer (some ⟨x.t, 0, none⟩), .int .i64 (lo c s)] w1 fun e w' => e = .returned (.int .i64 (q : Int)) ∧ Things W w' (hl x M R O ts)) := fun w1 h1 => (z_tfind h1 tb hi).mono fun e w' ⟨he, f⟩ => ⟨by rw [he, hq], h1.kept f⟩
  have HN : Hid (∀ w1, Things W w1 (hl x M R O ts) → Calls Tryz.prog 216 #[.pointer (some ⟨x.a, 0, none⟩), .int .i64 ((q : Int) * 512), .int .i64 (c : Int)] w1 fun e w' => ∃ p, e = .returned (.tuple #[.pointer (some ⟨p, 0, none⟩), .int .i64 0]) ∧ Things W w' (hl x M R O ts ++ [Pm p x.a ⟨q * 512, c, 0, [], []⟩])) := fun w1 h1 => by
    have := z_pnew h1 (cx.at h1) (b := q * 512) (kd := c) hc ⟨by omega, by omega, by omega⟩
    rw [show ((q * 512 : Nat) : Int) = (q : Int) * 512 by omega] at this
    exact this
  have HM : Hid (∀ w1 p, Things W w1 (hl x M R O ts ++ [Pm p x.a ⟨q * 512, c, 0, [], []⟩]) → ∃ w', (Instr.mapUpdate 120 (.map (some x.pb)) (.int .i64 (lo c s)) (.pointer (some ⟨p, 0, none⟩))).run Tryz.prog w1 = .ok () w' ∧ Things W w' (hl x M ⟨R.W, R.T, R.sh, R.ln, fset R.pg (lo c s).toNat (some (p, ⟨q * 512, c, 0, [], []⟩)), R.cnt + 1⟩ O ts)) := fun w1 p h1 => z_mput h1 l1 l2 hno hcn
  have HP : Hid (∀ w1 M R' ts, R'.ln = R.ln → Things W w1 (hl x M R' O ts) → w1.cell? ⟨x.h, 28 + c, none⟩ = some (.pointer (some ⟨x.N c, 0, none⟩)) ∧ Calls Tryz.prog 191 #[.pointer (some ⟨x.N c, 0, none⟩), .int .i64 (lo c s)] w1 fun e w' => e = .returned (.int .i64 (liPE (R.ln c) (lo c s))) ∧ Things W w' (hl x M ⟨R'.W, R'.T, R'.sh, fset R.ln c (liP (R.ln c) (lo c s)), R'.pg, R'.cnt⟩ O ts)) := fun w1 M R' ts e h1 => by
    refine ⟨hob_l (z_blk h1) (by omega), ?_⟩
    have := z_push h1 (c := c) (by omega) (by rw [e]; exact lk) (by rw [e]; exact ll) hi
    rw [e] at this
    exact this
  have hcp : Hid (∀ w1 ts, Things W w1 (hl x M R O ts) → w1.cell? ⟨x.h, 36, none⟩ = some (.map (some x.pb))) := fun w1 ts h1 => hob_p (z_blk h1)
  have hw : IntKind.i64.wrap ((q : Int) * 512) = (q : Int) * 512 := pw ⟨by omega, by omega⟩
  have hc24 : (c : Int) < 8 := by omega
  clear cx hs tb hq hb hb2 hno hcn lk ll l1 l2 hi
  generalize hu : (lo c s).toNat = u at *
  generalize hG : (⟨q * 512, c, 0, [], []⟩ : Pg) = G at *
  clear hu hG
  generalize lo c s = v at *
  generalize (s : Int) = s' at *
  generalize (q : Int) = q' at *
  generalize hm : q' * 512 = qm at *
  generalize liPE (R.ln c) v = E at *
  generalize hNN : x.N c = NN at *
  go_enter Tryz.func170, Tryz.ntmps170
  go_wp2_with fail
  refine h.out.mono ?_
  rintro e w1 ⟨rfl, h1⟩
  have H1 := hid (HL.out _ h1)
  clear h1 h HL
  go_wp2_with fail
  refine H1.out.mono ?_
  rintro e w2 ⟨rfl, h2⟩
  have TD : Hid (Things W w2.drew (hl x M R O ts)) := h2.kept (Fr.refl _ _).drew
  obtain ⟨c0, c3⟩ := HC.out _ _ _ _ h2
  obtain ⟨d0, d3⟩ := HC.out _ _ _ _ TD.out
  clear h2 H1
  go_wp2_with fail
  go_region_held3 (fun w' => w'.cell? ⟨x.h, 0, none⟩ = some (.pointer (some ⟨x.a, 0, none⟩)) ∧ w'.cell? ⟨x.h, 3, none⟩ = some (.pointer (some ⟨x.t, 0, none⟩))) (first | exact ⟨by assumption, by assumption⟩ | go_keep) (first | (go_at_call 216; refine (HN.out _ T5.out).mono ?_; rintro e w6 ⟨p, rfl, h6⟩; have T6 := hid h6; obtain ⟨e0, e3⟩ := HC.out _ _ _ _ h6; clear h6) | (go_at_call 147; refine (HF.out _ TD.out).mono ?_; rintro e w5 ⟨rfl, h5⟩; have T5 := hid h5; obtain ⟨f0, f3⟩ := HC.out _ _ _ _ h5; clear h5))
  all_goals
    obtain ⟨w7, hr, h7⟩ := HM.out _ _ T6.out
    have c36 := hcp.out _ _ T6.out
    obtain ⟨c7, h8⟩ := HP.out _ _ ⟨R.W, R.T, R.sh, R.ln, fset R.pg u (some (p, G)), R.cnt + 1⟩ _ rfl h7
    have H8 := hid h8
    clear h7 h8 HM HP HC HF HN TD T5 T6 hcp
    go_wp2_with fail
    refine H8.out.mono ?_
    rintro e w9 ⟨rfl, h9⟩
    have T9 := hid h9
    clear h9 H8
    go_wp2
    go_ret
    exact ⟨by simp, p, T9.out⟩
set_option maxRecDepth 20000 in
set_option maxHeartbeats 2000000 in
theorem i_fb_some (cx : Cx W O) (h : Things W w (hl x M R O ts)) {c s p : Nat} {g : Pg} {j : Int} (hc : c ≤ 7) (hs : s < sn c) (hp : R.pg (lo c s).toNat = some (p, g)) (ok : g.Ok M.bs) (cl : g.Clean M.bs) (hm : g.May j) (hj : I64 j) (lk : LiOk (R.ln c)) (ll : (R.ln c).length ≤ 5000) (hk : M.ss.length ≤ 890000) (hu : (pfS g j).used ≠ 0) : Calls Tryz.prog 139 #[.pointer (some ⟨x.h, 0, none⟩), .int .i64 (c : Int), .int .i64 (s : Int), .int .i64 j] w fun e w' => e = .returned (.int .i64 0) ∧ Things W w' (hl x ⟨M.has, pfB g M.bs j, pfT g M.ss j⟩ ⟨R.W, R.T, R.sh, if g.Full then fset R.ln c (liP (R.ln c) (lo c s)) else R.ln, fset R.pg (lo c s).toNat (some (p, pfS g j)), R.cnt⟩ O ts) := by
  obtain ⟨l1, l2⟩ := lo_small_in hc hs
  have hi : I64 (lo c s) := ⟨by omega, by omega⟩
  have H0 : Hid (Calls Tryz.prog 188 #[.int .i64 (c : Int), .int .i64 (s : Int)] w fun e w' => e = .returned (.int .i64 (lo c s)) ∧ Things W w' (hl x M R O ts)) := (i_local (cx.at h) (by omega) hs).mono fun e w' ⟨he, f⟩ => ⟨he, h.kept f⟩
  have HZ : Hid (∀ w1, Things W w1 (hl x M R O ts) → w1.cell? ⟨x.h, 36, none⟩ = some (.map (some x.pb)) ∧ (Instr.lookup 120 (.map (some x.pb)) (.int .i64 (lo c s)) false).run Tryz.prog w1 = .ok (.pointer (some ⟨p, 0, none⟩)) w1) := fun w1 h1 => by
    have lkp := (h1.op17 8 rfl).look (x := lo c s) (wf_of hi)
    rw [pgm_at l1, hp] at lkp
    exact ⟨hob_p (z_blk h1), lkp⟩
  have HU : Hid (∀ w1, Things W w1 (hl x M R O ts) → Calls Tryz.prog 189 #[.pointer (some ⟨p, 0, none⟩)] w1 fun e w' => e = .returned (.bool (decide g.Full)) ∧ Things W w' (hl x M R O ts)) := fun w1 h1 => z_pfull h1 (cx.at h1) l2 hp ok
  have hE : pfE g j = 0 := (ok.freed cl j).2.2.1.2 hm
  have HF : Hid (∀ w1, Things W w1 (hl x M R O ts) → Calls Tryz.prog 190 #[.pointer (some ⟨p, 0, none⟩), .int .i64 j] w1 fun e w' => e = .returned (.int .i64 0) ∧ Things W w' (hl x ⟨M.has, pfB g M.bs j, pfT g M.ss j⟩ ⟨R.W, R.T, R.sh, R.ln, fset R.pg (lo c s).toNat (some (p, pfS g j)), R.cnt⟩ O ts)) := fun w1 h1 => by
    have := z_pfree h1 (cx.at h1) l2 hp ok (by omega) hj
    rw [hE] at this
    exact this
  have HD : Hid (∀ w1 ln, Things W w1 (hl x ⟨M.has, pfB g M.bs j, pfT g M.ss j⟩ ⟨R.W, R.T, R.sh, ln, fset R.pg (lo c s).toNat (some (p, pfS g j)), R.cnt⟩ O ts) → Calls Tryz.prog 192 #[.pointer (some ⟨p, 0, none⟩)] w1 fun e w' => e = .returned (.int .i64 ((pfS g j).used : Int)) ∧ Things W w' (hl x ⟨M.has, pfB g M.bs j, pfT g M.ss j⟩ ⟨R.W, R.T, R.sh, ln, fset R.pg (lo c s).toNat (some (p, pfS g j)), R.cnt⟩ O ts)) := fun w1 ln h1 => z_pused h1 (cx.at h1) l2 (fset_same ..) (ok.free j).1
  have hc24 : (c : Int) < 8 := by omega
  have hu1 : (0 : Int) < ((pfS g j).used : Int) := by omega
  have HP : Hid (∀ w1, Things W w1 (hl x ⟨M.has, pfB g M.bs j, pfT g M.ss j⟩ ⟨R.W, R.T, R.sh, R.ln, fset R.pg (lo c s).toNat (some (p, pfS g j)), R.cnt⟩ O ts) → w1.cell? ⟨x.h, 28 + c, none⟩ = some (.pointer (some ⟨x.N c, 0, none⟩)) ∧ Calls Tryz.prog 191 #[.pointer (some ⟨x.N c, 0, none⟩), .int .i64 (lo c s)] w1 fun e w' => e = .returned (.int .i64 (liPE (R.ln c) (lo c s))) ∧ Things W w' (hl x ⟨M.has, pfB g M.bs j, pfT g M.ss j⟩ ⟨R.W, R.T, R.sh, fset R.ln c (liP (R.ln c) (lo c s)), fset R.pg (lo c s).toNat (some (p, pfS g j)), R.cnt⟩ O ts)) := fun w1 h1 => ⟨hob_l (z_blk h1) (by omega), z_push h1 (by omega) lk ll hi⟩
  by_cases hF : g.Full
  · rw [if_pos hF]
    rw [decide_eq_true hF] at HU
    clear h cx hp ok cl hm hj lk ll hk hu hE l1 l2 hi hF hs
    generalize ((pfS g j).used : Int) = un at *
    generalize hv : lo c s = v at *
    generalize (s : Int) = s' at *
    generalize hN : x.N c = N at *
    generalize liPE (R.ln c) v = pe at *
    go_enter Tryz.func139, Tryz.ntmps139
    go_wp2_with fail
    refine H0.out.mono ?_
    rintro e w1 ⟨rfl, h1⟩
    obtain ⟨c1, k1⟩ := HZ.out _ h1
    have H1 := hid (HU.out _ h1)
    clear h1 H0 HZ HU
    go_wp2_with fail
    refine H1.out.mono ?_
    rintro e w2 ⟨rfl, h2⟩
    have H2 := hid (HF.out _ h2)
    clear h2 H1 HF c1 k1
    go_wp2_with fail
    refine H2.out.mono ?_
    rintro e w3 ⟨rfl, h3⟩
    obtain ⟨c3, h4⟩ := HP.out _ h3
    have H3 := hid h4
    clear h3 h4 H2 HP
    go_wp2_with fail
    refine H3.out.mono ?_
    rintro e w4 ⟨rfl, h4⟩
    have H4 := hid (HD.out _ _ h4)
    clear h4 H3 HD c3
    go_wp2_with fail
    refine H4.out.mono ?_
    rintro e w5 ⟨rfl, h5⟩
    have T5 := hid h5
    clear h5 H4
    go_wp2
    go_ret
    exact ⟨by simp, T5.out⟩
  · rw [if_neg hF]
    rw [decide_eq_false hF] at HU
    clear h cx hp ok cl hm hj lk ll hk hu hE l1 l2 hi hF hs HP
    generalize ((pfS g j).used : Int) = un at *
    generalize hv : lo c s = v at *
    generalize (s : Int) = s' at *
    go_enter Tryz.func139, Tryz.ntmps139
    go_wp2_with fail
    refine H0.out.mono ?_
    rintro e w1 ⟨rfl, h1⟩
    obtain ⟨c1, k1⟩ := HZ.out _ h1
    have H1 := hid (HU.out _ h1)
    clear h1 H0 HZ HU
    go_wp2_with fail
    refine H1.out.mono ?_
    rintro e w2 ⟨rfl, h2⟩
    have H2 := hid (HF.out _ h2)
    clear h2 H1 HF c1 k1
    go_wp2_with fail
    refine H2.out.mono ?_
    rintro e w3 ⟨rfl, h3⟩
    have H4 := hid (HD.out _ _ h3)
    clear h3 H2 HD
    go_wp2_with fail
    refine H4.out.mono ?_
    rintro e w5 ⟨rfl, h5⟩
    have T5 := hid h5
    clear h5 H4
    go_wp2
    go_ret
    exact ⟨by simp, T5.out⟩
set_option maxRecDepth 20000 in
set_option maxHeartbeats 2000000 in
theorem i_fb_last (cx : Cx W O) (h : Things W w (hl x M R O ts)) {c s p : Nat} {g : Pg} {j : Int} (hc : c ≤ 7) (hs : s < sn c) (hp : R.pg (lo c s).toNat = some (p, g)) (ok : g.Ok M.bs) (cl : g.Clean M.bs) (hm : g.May j) (hj : I64 j) (lk : LiOk (R.ln c)) (ll : (R.ln c).length ≤ 5000) (hk : M.ss.length ≤ 890000) (hu : (pfS g j).used = 0) (hF : ¬ g.Full) (tp : TpOk C M.has R.T) (ms : MsOk ⟨M.has, pfB g M.bs j, pfT g M.ss j⟩) (cov : ∀ i : Nat, i < pn c → ¬ tbF R.T (lo c s + i) < 0) : Calls Tryz.prog 139 #[.pointer (some ⟨x.h, 0, none⟩), .int .i64 (c : Int), .int .i64 (s : Int), .int .i64 j] w fun e w' => e = .returned (.int .i64 (Sf.giE (R.sh c) s)) ∧ Things W w' (hl x (letN (pn c) (lo c s) ⟨M.has, pfB g M.bs j, pfT g M.ss j⟩ R.T).1 ⟨R.W, (letN (pn c) (lo c s) ⟨M.has, pfB g M.bs j, pfT g M.ss j⟩ R.T).2, fset R.sh c (Sf.giS (R.sh c) s), fset R.ln c (liR (R.ln c) (lo c s)), fset R.pg (lo c s).toNat none, R.cnt - 1⟩ O ts) := by
  obtain ⟨l1, l2⟩ := lo_small_in hc hs
  have hi : I64 (lo c s) := ⟨by omega, by omega⟩
  have H0 : Hid (Calls Tryz.prog 188 #[.int .i64 (c : Int), .int .i64 (s : Int)] w fun e w' => e = .returned (.int .i64 (lo c s)) ∧ Things W w' (hl x M R O ts)) := (i_local (cx.at h) (by omega) hs).mono fun e w' ⟨he, f⟩ => ⟨he, h.kept f⟩
  have HZ : Hid (∀ w1, Things W w1 (hl x M R O ts) → w1.cell? ⟨x.h, 36, none⟩ = some (.map (some x.pb)) ∧ (Instr.lookup 120 (.map (some x.pb)) (.int .i64 (lo c s)) false).run Tryz.prog w1 = .ok (.pointer (some ⟨p, 0, none⟩)) w1) := fun w1 h1 => by
    have lkp := (h1.op17 8 rfl).look (x := lo c s) (wf_of hi)
    rw [pgm_at l1, hp] at lkp
    exact ⟨hob_p (z_blk h1), lkp⟩
  have HU : Hid (∀ w1, Things W w1 (hl x M R O ts) → Calls Tryz.prog 189 #[.pointer (some ⟨p, 0, none⟩)] w1 fun e w' => e = .returned (.bool (decide g.Full)) ∧ Things W w' (hl x M R O ts)) := fun w1 h1 => z_pfull h1 (cx.at h1) l2 hp ok
  have hE : pfE g j = 0 := (ok.freed cl j).2.2.1.2 hm
  have HF : Hid (∀ w1, Things W w1 (hl x M R O ts) → Calls Tryz.prog 190 #[.pointer (some ⟨p, 0, none⟩), .int .i64 j] w1 fun e w' => e = .returned (.int .i64 0) ∧ Things W w' (hl x ⟨M.has, pfB g M.bs j, pfT g M.ss j⟩ ⟨R.W, R.T, R.sh, R.ln, fset R.pg (lo c s).toNat (some (p, pfS g j)), R.cnt⟩ O ts)) := fun w1 h1 => by
    have := z_pfree h1 (cx.at h1) l2 hp ok (by omega) hj
    rw [hE] at this
    exact this
  have HD : Hid (∀ w1 ln, Things W w1 (hl x ⟨M.has, pfB g M.bs j, pfT g M.ss j⟩ ⟨R.W, R.T, R.sh, ln, fset R.pg (lo c s).toNat (some (p, pfS g j)), R.cnt⟩ O ts) → Calls Tryz.prog 192 #[.pointer (some ⟨p, 0, none⟩)] w1 fun e w' => e = .returned (.int .i64 ((pfS g j).used : Int)) ∧ Things W w' (hl x ⟨M.has, pfB g M.bs j, pfT g M.ss j⟩ ⟨R.W, R.T, R.sh, ln, fset R.pg (lo c s).toNat (some (p, pfS g j)), R.cnt⟩ O ts)) := fun w1 ln h1 => z_pused h1 (cx.at h1) l2 (fset_same ..) (ok.free j).1
  have hc24 : (c : Int) < 8 := by omega
  rw [hu] at HD
  rw [decide_eq_false hF] at HU
  have HP : Hid (∀ w1, Things W w1 (hl x ⟨M.has, pfB g M.bs j, pfT g M.ss j⟩ ⟨R.W, R.T, R.sh, R.ln, fset R.pg (lo c s).toNat (some (p, pfS g j)), R.cnt⟩ O ts) → w1.cell? ⟨x.h, 28 + c, none⟩ = some (.pointer (some ⟨x.N c, 0, none⟩)) ∧ Calls Tryz.prog 193 #[.pointer (some ⟨x.N c, 0, none⟩), .int .i64 (lo c s)] w1 fun e w' => e = .returned (.int .i64 (liRE (R.ln c) (lo c s))) ∧ Things W w' (hl x ⟨M.has, pfB g M.bs j, pfT g M.ss j⟩ ⟨R.W, R.T, R.sh, fset R.ln c (liR (R.ln c) (lo c s)), fset R.pg (lo c s).toNat (some (p, pfS g j)), R.cnt⟩ O ts)) := fun w1 h1 => ⟨hob_l (z_blk h1) (by omega), z_remove h1 (by omega) lk ll hi⟩
  have HM : Hid (∀ w1, Things W w1 (hl x ⟨M.has, pfB g M.bs j, pfT g M.ss j⟩ ⟨R.W, R.T, R.sh, fset R.ln c (liR (R.ln c) (lo c s)), fset R.pg (lo c s).toNat (some (p, pfS g j)), R.cnt⟩ O ts) → w1.cell? ⟨x.h, 36, none⟩ = some (.map (some x.pb)) ∧ ∃ w', (Builtin.delete_ #[120, 3] 0 #[.map (some x.pb), .int .i64 (lo c s)]).run Tryz.prog w1 = .ok (.tuple #[]) w' ∧ Things W w' (hl x ⟨M.has, pfB g M.bs j, pfT g M.ss j⟩ ⟨R.W, R.T, R.sh, fset R.ln c (liR (R.ln c) (lo c s)), fset R.pg (lo c s).toNat none, R.cnt - 1⟩ O ts)) := fun w1 h1 => by
    refine ⟨hob_p (z_blk h1), ?_⟩
    have := z_mdel h1 l1 l2 (fset_same ..) 0
    rw [fset_fset] at this
    exact this
  have HK : Hid (∀ w1, Things W w1 (hl x ⟨M.has, pfB g M.bs j, pfT g M.ss j⟩ ⟨R.W, R.T, R.sh, fset R.ln c (liR (R.ln c) (lo c s)), fset R.pg (lo c s).toNat none, R.cnt - 1⟩ O ts) → Calls Tryz.prog 140 #[.pointer (some ⟨x.h, 0, none⟩), .int .i64 (c : Int), .int .i64 (s : Int)] w1 fun e w' => e = .returned (.int .i64 (Sf.giE (R.sh c) s)) ∧ Things W w' (hl x (letN (pn c) (lo c s) ⟨M.has, pfB g M.bs j, pfT g M.ss j⟩ R.T).1 ⟨R.W, (letN (pn c) (lo c s) ⟨M.has, pfB g M.bs j, pfT g M.ss j⟩ R.T).2, fset R.sh c (Sf.giS (R.sh c) s), fset R.ln c (liR (R.ln c) (lo c s)), fset R.pg (lo c s).toNat none, R.cnt - 1⟩ O ts)) := fun w1 h1 => i_close cx h1 (C := C) tp ms (by omega) hs cov (by have := hp_pfT_len (g := g) M.ss j; show (pfT g M.ss j).length ≤ _; omega)
  · clear h cx hp ok cl hm hj lk ll hk hE l1 l2 hi hF hs tp ms cov
    generalize (letN (pn c) (lo c s) ⟨M.has, pfB g M.bs j, pfT g M.ss j⟩ R.T).1 = M9 at *
    generalize (letN (pn c) (lo c s) ⟨M.has, pfB g M.bs j, pfT g M.ss j⟩ R.T).2 = T9 at *
    generalize hv : lo c s = v at *
    generalize Sf.giE (R.sh c) s = E at *
    generalize fset R.sh c (Sf.giS (R.sh c) s) = sh9 at *
    generalize (s : Int) = s' at *
    generalize hN : x.N c = N at *
    generalize liRE (R.ln c) v = pe at *
    go_enter Tryz.func139, Tryz.ntmps139
    go_wp2_with fail
    refine H0.out.mono ?_
    rintro e w1 ⟨rfl, h1⟩
    obtain ⟨c1, k1⟩ := HZ.out _ h1
    have H1 := hid (HU.out _ h1)
    clear h1 H0 HZ HU
    go_wp2_with fail
    refine H1.out.mono ?_
    rintro e w2 ⟨rfl, h2⟩
    have H2 := hid (HF.out _ h2)
    clear h2 H1 HF c1 k1
    go_wp2_with fail
    refine H2.out.mono ?_
    rintro e w3 ⟨rfl, h3⟩
    have H4 := hid (HD.out _ _ h3)
    clear h3 H2 HD
    go_wp2_with fail
    refine H4.out.mono ?_
    rintro e w4 ⟨rfl, h4⟩
    obtain ⟨c5, h5⟩ := HP.out _ h4
    have H5 := hid h5
    clear h4 h5 H4 HP
    go_wp2_with fail
    refine H5.out.mono ?_
    rintro e w6 ⟨rfl, h6⟩
    obtain ⟨c6, w7, hr7, h7⟩ := HM.out _ h6
    have H7 := hid (HK.out _ h7)
    clear h6 h7 H5 HM HK c5
    go_wp2_with fail
    refine H7.out.mono ?_
    rintro e w8 ⟨rfl, h8⟩
    have T8 := hid h8
    clear h8 H7
    go_wp2
    go_ret
    exact ⟨by simp, T8.out⟩
end
end Go.Proofs.YtioplfbkfokkfaaGreatDoor

namespace Go.Proofs.YtioplfbkfokkfaaGreatDoor
open Go.RowKit
open An

/-- The slots of a kind, as a shelf has them. -/
def shL (L : List Hd) (c : Nat) : List Bool := (List.range (sn c)).map (heldB L c)
section
variable {L L' : List Hd} {c d s t : Nat} {g : Pg}
theorem shL_length : (shL L c).length = sn c := by simp [shL]
theorem shL_get (hs : s < sn c) : (shL L c)[s]'(by rw [shL_length]; exact hs) = heldB L c s := by simp [shL]
theorem shL_isT (hs : s < sn c) : Sf.isT (shL L c) s = heldB L c s := by
  unfold Sf.isT Sf.hasN
  rw [shL_length, decide_eq_true ⟨by omega, by omega⟩, Bool.true_and, Int.toNat_natCast, List.getD_eq_getElem?_getD, List.getElem?_eq_getElem (by rw [shL_length]; exact hs), Option.getD_some, shL_get hs]
theorem shL_low : Sf.low (shL L c) = hSl L c := by
  rcases Cq.low_cases (fun s => !heldB L c s) (sn c) with ⟨h1, h2, h3⟩ | ⟨h1, h2⟩
  · have h1 : hSl L c < sn c := h1
    refine Sf.low_unique _ _ (by rw [shL_length]; exact h1) ?_ fun i hi => ?_
    · rw [shL_get h1]
      have h2 : (!heldB L c (hSl L c)) = true := h2
      simpa using h2
    · have hi : i < hSl L c := hi
      rw [shL_get (by omega)]
      have := h3 i hi
      simpa using this
  · have h1 : hSl L c = sn c := h1
    rw [h1, ← shL_length (L := L)]
    exact Sf.low_full _ fun i hi => by
      rw [shL_length] at hi
      rw [shL_get hi]
      have := h2 i hi
      simpa using this
theorem shL_yes (h : hSl L c < sn c) : Sf.lowI (shL L c) = (hSl L c : Int) := by unfold Sf.lowI; rw [shL_low, shL_length, if_pos h]
theorem shL_no (h : ¬ hSl L c < sn c) : Sf.lowI (shL L c) = -1 := by unfold Sf.lowI; rw [shL_low, shL_length, if_neg h]
theorem heldB_keys (h : L.map (fun x => (x.kind, x.slot)) = L'.map fun x => (x.kind, x.slot)) (c s : Nat) : heldB L c s = heldB L' c s := by
  have key : ∀ L : List Hd, heldB L c s = true ↔ (c, s) ∈ L.map fun x => (x.kind, x.slot) := fun L => by
    rw [heldB_iff, List.mem_map]
    constructor
    · rintro ⟨x, hx, h1, h2⟩; exact ⟨x, hx, by rw [h1, h2]⟩
    · rintro ⟨x, hx, h1⟩; simp only [Prod.mk.injEq] at h1; exact ⟨x, hx, h1⟩
  have : heldB L c s = true ↔ heldB L' c s = true := by rw [key L, key L', h]
  cases h1 : heldB L c s <;> cases h2 : heldB L' c s <;> simp_all
theorem shL_keys (h : L.map (fun x => (x.kind, x.slot)) = L'.map fun x => (x.kind, x.slot)) (c : Nat) : shL L c = shL L' c := by
  unfold shL
  apply List.map_congr_left
  intro s _
  exact heldB_keys h c s
theorem taS_in (hs : s < sn c) : Sf.taS (shL L c) s = (shL L c).set s true := by
  unfold Sf.taS Sf.hasN
  rw [shL_length, if_pos (by simp; omega), Int.toNat_natCast]
theorem giS_in (hs : s < sn c) : Sf.giS (shL L c) s = (shL L c).set s false := by
  unfold Sf.giS Sf.hasN
  rw [shL_length, if_pos (by simp; omega), Int.toNat_natCast]
theorem taE_in (hs : s < sn c) (hn : ¬ Held L c s) : Sf.taE (shL L c) s = 0 := by
  unfold Sf.taE
  rw [shL_isT hs, if_pos (by unfold Sf.hasN; rw [shL_length]; simp; omega)]
  have : heldB L c s = false := by
    cases h : heldB L c s
    · rfl
    · exact (hn (heldB_iff.1 h)).elim
  rw [this]; rfl
theorem giE_in (hs : s < sn c) (hn : Held L c s) : Sf.giE (shL L c) s = 0 := by
  unfold Sf.giE
  rw [shL_isT hs, heldB_iff.2 hn, if_pos (by unfold Sf.hasN; rw [shL_length]; simp; omega)]; rfl
theorem heldB_add : heldB (L ++ [⟨c, s, g⟩]) d t = (heldB L d t || decide (c = d ∧ s = t)) := by simp [heldB]
theorem heldB_del : heldB (hDel L c s) d t = (heldB L d t && decide (¬ (d = c ∧ t = s))) := by
  have : heldB (hDel L c s) d t = true ↔ (heldB L d t && decide (¬ (d = c ∧ t = s))) = true := by
    rw [heldB_iff, Bool.and_eq_true, heldB_iff, decide_eq_true_eq]
    constructor
    · rintro ⟨x, hx, rfl, rfl⟩
      have := mem_hDel.1 hx
      exact ⟨⟨x, this.1, rfl, rfl⟩, this.2⟩
    · rintro ⟨⟨x, hx, rfl, rfl⟩, h2⟩
      exact ⟨x, mem_hDel.2 ⟨hx, h2⟩, rfl, rfl⟩
  cases h1 : heldB (hDel L c s) d t <;> cases h2 : (heldB L d t && decide (¬ (d = c ∧ t = s))) <;> simp_all
theorem shL_add (hs : s < sn c) : shL (L ++ [⟨c, s, g⟩]) d = fset (shL L) c (Sf.taS (shL L c) s) d := by
  rw [taS_in hs]
  by_cases e : d = c
  · subst e
    rw [fset_same]
    apply List.ext_getElem (by rw [List.length_set, shL_length, shL_length])
    intro i h1 h2
    rw [shL_length] at h1
    rw [shL_get h1, List.getElem_set, heldB_add]
    by_cases e2 : s = i
    · subst e2; simp
    · rw [if_neg e2, shL_get h1]; simp [e2]
  · rw [fset_ne _ _ e]
    unfold shL
    apply List.map_congr_left
    intro i _
    rw [heldB_add]
    simp [show ¬ c = d from fun k => e k.symm]
theorem shL_del (hs : s < sn c) : shL (hDel L c s) d = fset (shL L) c (Sf.giS (shL L c) s) d := by
  rw [giS_in hs]
  by_cases e : d = c
  · subst e
    rw [fset_same]
    apply List.ext_getElem (by rw [List.length_set, shL_length, shL_length])
    intro i h1 h2
    rw [shL_length] at h1
    rw [shL_get h1, List.getElem_set, heldB_del]
    by_cases e2 : s = i
    · subst e2; simp
    · rw [if_neg e2, shL_get h1]; simp [show ¬ i = s from fun k => e2 k.symm]
  · rw [fset_ne _ _ e]
    unfold shL
    apply List.map_congr_left
    intro i _
    rw [heldB_del]
    simp [e]
end
/-- What lies in memory stands for that heap. -/
structure Rep17 (R : Rs) (H : Hp) : Prop where
  W : R.W = H.W
  T : R.T = H.T
  sh : ∀ c, c < 24 → R.sh c = shL H.L c
  ln : ∀ c, c < 8 → R.ln c = H.ln c
  pg : ∀ v g, v < 6400 → ((∃ p, R.pg v = some (p, g)) ↔ ∃ x ∈ H.L, x.kind ≤ 7 ∧ lo x.kind x.slot = (v : Int) ∧ x.pg = g)
  hi : ∀ v, 6400 ≤ v → R.pg v = none
  cn : R.cnt = pgN R.pg
theorem pgN_same {pg : Nat → Option (Nat × Pg)} {u : Nat} {y : Nat × Pg} (h : (pg u).isSome = true) : pgN (fset pg u (some y)) = pgN pg := by
  unfold pgN
  apply Cq.cnt_ext
  intro i _
  by_cases e : i = u
  · subst e; rw [fset_same, h]; rfl
  · rw [fset_ne _ _ e]
theorem pgN_more {pg : Nat → Option (Nat × Pg)} {u : Nat} {y : Nat × Pg} (hu : u < 6400) (h : pg u = none) : pgN (fset pg u (some y)) = pgN pg + 1 := by
  unfold pgN
  refine Cq.cnt_less 6400 hu (by rw [fset_same]; rfl) (by rw [h]; rfl) fun i _ hne => ?_
  rw [fset_ne _ _ hne]
theorem pgN_less {pg : Nat → Option (Nat × Pg)} {u : Nat} (hu : u < 6400) (h : (pg u).isSome = true) : pgN (fset pg u none) = pgN pg - 1 := by
  have : pgN pg = pgN (fset pg u none) + 1 := by
    unfold pgN
    refine Cq.cnt_less 6400 hu h (by rw [fset_same]; rfl) fun i _ hne => ?_
    rw [fset_ne _ _ hne]
  omega
section
variable {C : Nat → Prop} {M : Ms} {R : Rs} {H : Hp} {c s p : Nat} {g : Pg} {T' : Tb} {ln1 ln2 : Nat → List Int}
theorem lo_same {x : Hd} (h : HpOk C M H) (hx : x ∈ H.L) (hc : c ≤ 23) (hs : s < sn c) (e : lo x.kind x.slot = lo c s) : x.kind = c ∧ x.slot = s := by
  obtain ⟨a1, a2⟩ := h.at_ x hx
  have p1 := (pn_facts a1).1.1
  have p2 := (pn_facts hc).1.1
  have := lo_one a1 a2 hc hs (i := 0) (i' := 0) (by omega) (by omega) (by simpa using e)
  exact ⟨this.1, this.2.1⟩
theorem Rep17.at (r : Rep17 R H) (h : HpOk C M H) {x : Hd} (hx : x ∈ H.L) (h7 : x.kind ≤ 7) : ∃ p, R.pg (lo x.kind x.slot).toNat = some (p, x.pg) := by
  obtain ⟨l1, l2⟩ := lo_small_in h7 (h.at_ x hx).2
  exact (r.pg _ x.pg l2).2 ⟨x, hx, h7, l1, rfl⟩
theorem Rep17.empty (r : Rep17 R H) (h : HpOk C M H) (h7 : c ≤ 7) (hs : s < sn c) (hn : ¬ Held H.L c s) : R.pg (lo c s).toNat = none := by
  obtain ⟨l1, l2⟩ := lo_small_in h7 hs
  cases e : R.pg (lo c s).toNat with
  | none => rfl
  | some y =>
    exfalso
    obtain ⟨x, hx, x1, x2, _⟩ := (r.pg _ y.2 l2).1 ⟨y.1, e⟩
    rw [← l1] at x2
    have := lo_same h hx (by omega) hs x2
    exact hn ⟨x, hx, this⟩
theorem Rep17.ok (r : Rep17 R H) (h : HpOk C M H) : PgOk M R := fun v p g e => by
  by_cases hv : v < 6400
  · obtain ⟨x, hx, x1, _, rfl⟩ := (r.pg v g hv).1 ⟨p, e⟩
    exact (h.sm x hx x1).ok
  · rw [r.hi v (by omega)] at e; cases e
theorem ln_ok (h : HpOk C M H) (c : Nat) : LiOk (H.ln c) ∧ (H.ln c).length ≤ 5000 := by
  have key : ∀ v ∈ H.ln c, ∃ s : Nat, c ≤ 7 ∧ s < 256 ∧ v = lo c s ∧ lo c s = ((c + 1) * 256 + s : Nat) := fun v hv => by
    obtain ⟨x, hx, x1, x2, x3, _⟩ := ((h.ln c).2 v).1 hv
    obtain ⟨a1, a2⟩ := h.at_ x hx
    subst x1
    have := (pn_facts a1).2.1.2
    exact ⟨x.slot, x2, by omega, x3, lo_small x2 _⟩
  refine ⟨⟨(h.ln c).1, fun v hv => ?_⟩, ?_⟩
  · obtain ⟨s, h1, h2, h3, h4⟩ := key v hv
    omega
  · have hn : ((H.ln c).map Int.toNat).Nodup := by
      rw [List.nodup_iff_pairwise_ne, List.pairwise_map]
      refine List.Pairwise.imp_of_mem ?_ (List.nodup_iff_pairwise_ne.1 (h.ln c).1)
      intro a b ha hb hne e
      obtain ⟨s, h1, h2, h3, h4⟩ := key a ha
      obtain ⟨s', k1, k2, k3, k4⟩ := key b hb
      exact hne (by omega)
    have := nodup_short 2304 _ hn fun v hv => by
      obtain ⟨a, ha, rfl⟩ := List.mem_map.1 hv
      obtain ⟨s, h1, h2, h3, h4⟩ := key a ha
      omega
    rw [List.length_map] at this
    omega
/-- A small page turns. -/
theorem Rep17.page (r : Rep17 R H) (h : HpOk C M H) {x : Hd} (hx : x ∈ H.L) (h7 : x.kind ≤ 7) (hp : R.pg (lo x.kind x.slot).toNat = some (p, x.pg)) (hl : ∀ c, c < 8 → ln1 c = ln2 c) : Rep17 ⟨R.W, R.T, R.sh, ln1, fset R.pg (lo x.kind x.slot).toNat (some (p, g)), R.cnt⟩ ⟨H.W, H.T, hSet H.L x.kind x.slot g, ln2⟩ := by
  obtain ⟨a1, a2⟩ := h.at_ x hx
  obtain ⟨l1, l2⟩ := lo_small_in h7 a2
  refine ⟨r.W, r.T, fun c hc => ?_, hl, fun v g' hv => ?_, fun v hv => ?_, ?_⟩
  · rw [r.sh c hc]; exact (shL_keys hSet_keys c).symm
  · show (∃ p', fset R.pg (lo x.kind x.slot).toNat (some (p, g)) v = some (p', g')) ↔ ∃ y ∈ hSet H.L x.kind x.slot g, _
    by_cases e : v = (lo x.kind x.slot).toNat
    · subst e
      rw [fset_same]
      constructor
      · rintro ⟨p', e⟩
        simp only [Option.some.injEq, Prod.mk.injEq] at e
        exact ⟨⟨x.kind, x.slot, g⟩, (mem_hSet h.nd hx).2 (.inl rfl), h7, l1, e.2⟩
      · rintro ⟨y, hy, y1, y2, y3⟩
        rcases (mem_hSet h.nd hx).1 hy with rfl | ⟨e1, e2⟩
        · exact ⟨p, by rw [← y3]⟩
        · rw [← l1] at y2
          exact (e2 (lo_same h e1 a1 a2 y2)).elim
    · rw [fset_ne _ _ e, r.pg v g' hv]
      constructor
      · rintro ⟨y, hy, y1, y2, y3⟩
        exact ⟨y, (mem_hSet h.nd hx).2 (.inr ⟨hy, fun e2 => e (by rw [e2.1, e2.2] at y2; omega)⟩), y1, y2, y3⟩
      · rintro ⟨y, hy, y1, y2, y3⟩
        rcases (mem_hSet h.nd hx).1 hy with rfl | ⟨e1, e2⟩
        · exact (e (by have y2 : lo x.kind x.slot = v := y2; omega)).elim
        · exact ⟨y, e1, y1, y2, y3⟩
  · show fset R.pg (lo x.kind x.slot).toNat (some (p, g)) v = none
    rw [fset_ne _ _ (by omega)]; exact r.hi v hv
  · show R.cnt = pgN (fset R.pg _ _)
    rw [pgN_same (by rw [hp]; rfl)]; exact r.cn
/-- A run is held. -/
theorem Rep17.run (r : Rep17 R H) (h8 : 8 ≤ c) (hc : c ≤ 23) (hs : s < sn c) : Rep17 ⟨R.W, T', fset R.sh c (Sf.taS (R.sh c) s), R.ln, R.pg, R.cnt⟩ ⟨H.W, T', H.L ++ [⟨c, s, g⟩], H.ln⟩ := by
  refine ⟨r.W, rfl, fun d hd => ?_, r.ln, fun v g' hv => ?_, r.hi, r.cn⟩
  · show fset R.sh c (Sf.taS (R.sh c) s) d = shL (H.L ++ [⟨c, s, g⟩]) d
    rw [shL_add hs, r.sh c (by omega)]
    by_cases e : d = c
    · subst e; rw [fset_same, fset_same]
    · rw [fset_ne _ _ e, fset_ne _ _ e, r.sh d hd]
  · rw [r.pg v g' hv]
    constructor
    · rintro ⟨y, hy, rest⟩; exact ⟨y, List.mem_append_left _ hy, rest⟩
    · rintro ⟨y, hy, y1, rest⟩
      rcases List.mem_append.1 hy with e | e
      · exact ⟨y, e, y1, rest⟩
      · simp only [List.mem_singleton] at e
        subst e
        have y1 : c ≤ 7 := y1
        omega
/-- A small slot is held, with its page. -/
theorem Rep17.small (r : Rep17 R H) (h : HpOk C M H) (h7 : c ≤ 7) (hs : s < sn c) (hn : ¬ Held H.L c s) (hl : ∀ c, c < 8 → ln1 c = ln2 c) : Rep17 ⟨R.W, T', fset R.sh c (Sf.taS (R.sh c) s), ln1, fset R.pg (lo c s).toNat (some (p, g)), R.cnt + 1⟩ ⟨H.W, T', H.L ++ [⟨c, s, g⟩], ln2⟩ := by
  obtain ⟨l1, l2⟩ := lo_small_in h7 hs
  refine ⟨r.W, rfl, fun d hd => ?_, hl, fun v g' hv => ?_, fun v hv => ?_, ?_⟩
  · show fset R.sh c (Sf.taS (R.sh c) s) d = shL (H.L ++ [⟨c, s, g⟩]) d
    rw [shL_add hs, r.sh c (by omega)]
    by_cases e : d = c
    · subst e; rw [fset_same, fset_same]
    · rw [fset_ne _ _ e, fset_ne _ _ e, r.sh d hd]
  · show (∃ p', fset R.pg (lo c s).toNat (some (p, g)) v = some (p', g')) ↔ ∃ y ∈ H.L ++ [⟨c, s, g⟩], _
    by_cases e : v = (lo c s).toNat
    · subst e
      rw [fset_same]
      constructor
      · rintro ⟨p', e⟩
        simp only [Option.some.injEq, Prod.mk.injEq] at e
        exact ⟨⟨c, s, g⟩, by simp, h7, l1, e.2⟩
      · rintro ⟨y, hy, y1, y2, y3⟩
        rcases List.mem_append.1 hy with e | e
        · rw [← l1] at y2
          exact (hn ⟨y, e, lo_same h e (by omega) hs y2⟩).elim
        · simp only [List.mem_singleton] at e
          subst e
          exact ⟨p, by rw [← y3]⟩
    · rw [fset_ne _ _ e, r.pg v g' hv]
      constructor
      · rintro ⟨y, hy, rest⟩; exact ⟨y, List.mem_append_left _ hy, rest⟩
      · rintro ⟨y, hy, y1, y2, y3⟩
        rcases List.mem_append.1 hy with e2 | e2
        · exact ⟨y, e2, y1, y2, y3⟩
        · simp only [List.mem_singleton] at e2
          subst e2
          exact (e (by have y2 : lo c s = v := y2; omega)).elim
  · show fset R.pg (lo c s).toNat (some (p, g)) v = none
    rw [fset_ne _ _ (by omega)]; exact r.hi v hv
  · show R.cnt + 1 = pgN (fset R.pg _ _)
    rw [pgN_more l2 (r.empty h h7 hs hn), r.cn]
/-- A slot is let go of. -/
theorem Rep17.delRun (r : Rep17 R H) {x : Hd} (h8 : 8 ≤ x.kind) (hc : x.kind ≤ 23) (hs : x.slot < sn x.kind) : Rep17 ⟨R.W, T', fset R.sh x.kind (Sf.giS (R.sh x.kind) x.slot), R.ln, R.pg, R.cnt⟩ ⟨H.W, T', hDel H.L x.kind x.slot, H.ln⟩ := by
  refine ⟨r.W, rfl, fun d hd => ?_, r.ln, fun v g' hv => ?_, r.hi, r.cn⟩
  · show fset R.sh x.kind (Sf.giS (R.sh x.kind) x.slot) d = shL (hDel H.L x.kind x.slot) d
    rw [shL_del hs, r.sh x.kind (by omega)]
    by_cases e : d = x.kind
    · subst e; rw [fset_same, fset_same]
    · rw [fset_ne _ _ e, fset_ne _ _ e, r.sh d hd]
  · rw [r.pg v g' hv]
    constructor
    · rintro ⟨y, hy, y1, rest⟩; exact ⟨y, mem_hDel.2 ⟨hy, fun e => by omega⟩, y1, rest⟩
    · rintro ⟨y, hy, rest⟩; exact ⟨y, (mem_hDel.1 hy).1, rest⟩
theorem Rep17.delSmall (r : Rep17 R H) (h : HpOk C M H) {x : Hd} (hx : x ∈ H.L) (h7 : x.kind ≤ 7) (hp : R.pg (lo x.kind x.slot).toNat = some (p, x.pg)) (hl : ∀ c, c < 8 → ln1 c = ln2 c) : Rep17 ⟨R.W, T', fset R.sh x.kind (Sf.giS (R.sh x.kind) x.slot), ln1, fset R.pg (lo x.kind x.slot).toNat none, R.cnt - 1⟩ ⟨H.W, T', hDel H.L x.kind x.slot, ln2⟩ := by
  obtain ⟨a1, a2⟩ := h.at_ x hx
  obtain ⟨l1, l2⟩ := lo_small_in h7 a2
  refine ⟨r.W, rfl, fun d hd => ?_, hl, fun v g' hv => ?_, fun v hv => ?_, ?_⟩
  · show fset R.sh x.kind (Sf.giS (R.sh x.kind) x.slot) d = shL (hDel H.L x.kind x.slot) d
    rw [shL_del a2, r.sh x.kind (by omega)]
    by_cases e : d = x.kind
    · subst e; rw [fset_same, fset_same]
    · rw [fset_ne _ _ e, fset_ne _ _ e, r.sh d hd]
  · show (∃ p', fset R.pg (lo x.kind x.slot).toNat none v = some (p', g')) ↔ ∃ y ∈ hDel H.L x.kind x.slot, _
    by_cases e : v = (lo x.kind x.slot).toNat
    · subst e
      rw [fset_same]
      constructor
      · rintro ⟨p', e⟩; cases e
      · rintro ⟨y, hy, y1, y2, y3⟩
        rw [← l1] at y2
        exact ((mem_hDel.1 hy).2 (lo_same h (mem_hDel.1 hy).1 a1 a2 y2)).elim
    · rw [fset_ne _ _ e, r.pg v g' hv]
      constructor
      · rintro ⟨y, hy, y1, y2, y3⟩
        exact ⟨y, mem_hDel.2 ⟨hy, fun e2 => e (by rw [e2.1, e2.2] at y2; omega)⟩, y1, y2, y3⟩
      · rintro ⟨y, hy, rest⟩; exact ⟨y, (mem_hDel.1 hy).1, rest⟩
  · show fset R.pg (lo x.kind x.slot).toNat none v = none
    rw [fset_ne _ _ (by omega)]; exact r.hi v hv
  · show R.cnt - 1 = pgN (fset R.pg _ _)
    rw [pgN_less l2 (by rw [hp]; rfl), r.cn]
end
end Go.Proofs.YtioplfbkfokkfaaGreatDoor
