/-
  The program's heap as one thing; opened into things side by side, and closed again.
  Malloc: its ways, over what lies in memory.
-/
import Derived.Test.YtioplfbkfokkfaaGreatDoorHpRep
namespace Go.Proofs.YtioplfbkfokkfaaGreatDoor
open Go.RowKit
open An

/-- All that is the heap's own but for its table. -/
def Hy (x : Px) (R : Rs) : World → (Nat → Prop) → Prop := Both (Blk x.h (hob x R.W.length)) (Both (Lv x.ad R.W) (Both (Fam 24 (shf x R.sh)) (Both (Fam 8 (lnf x R.ln)) (Both (Mg x.pb R.cnt (pgm R.pg)) (Fam 6400 (pgf x R.pg))))))
theorem Hy.good (x : Px) (R : Rs) : Good (Hy x R) := Both.good (Blk.good ..) (Both.good (Lv.good ..) (Both.good (Fam.good (shf_good _ _)) (Both.good (Fam.good (lnf_good _ _)) (Both.good (Mg.good ..) (Fam.good (pgf_good _ _))))))
/-- The program's heap but for its table. -/
def Hx (h a m t k : Nat) (H : Hp) (w : World) (Z : Nat → Prop) : Prop := ∃ (x : Px) (R : Rs), (x.h = h ∧ x.a = a ∧ x.m = m ∧ x.t = t ∧ x.k = k) ∧ Rep17 R H ∧ Hy x R w Z
theorem Hx.good (h a m t k : Nat) (H : Hp) : Good (Hx h a m t k H) :=
  ⟨fun ⟨x, R, e, r, p⟩ f hs => ⟨x, R, e, r, (Hy.good x R).carry p f hs⟩, fun ⟨x, R, e, r, p⟩ k1 k2 => ⟨x, R, e, r, (Hy.good x R).mono p k1 k2⟩⟩
/-- With its table; with the arena and the map besides. -/
def Hm (h a m t k : Nat) (H : Hp) : World → (Nat → Prop) → Prop := Both (Hx h a m t k H) (Tm t H.T)
theorem Hm.good (h a m t k : Nat) (H : Hp) : Good (Hm h a m t k H) := Both.good (Hx.good ..) (Tm.good ..)
def Ac (a m k : Nat) (M : Ms) : World → (Nat → Prop) → Prop := Both (Am 104 a M.bs M.ss) (Ct m k M.has)
theorem Ac.good (a m k : Nat) (M : Ms) : Good (Ac a m k M) := Both.good (Am.good _ _ _ _) (Ct.good _ _ _)
def Hs (a m h t k : Nat) (M : Ms) (H : Hp) : World → (Nat → Prop) → Prop := Both (Ac a m k M) (Hm h a m t k H)
theorem Hs.good (a m h t k : Nat) (M : Ms) (H : Hp) : Good (Hs a m h t k M H) := Both.good (Ac.good ..) (Hm.good ..)
/-- All of it, laid open. -/
def Hz (x : Px) (M : Ms) (R : Rs) : World → (Nat → Prop) → Prop := Both (Ac x.a x.m x.k M) (Both (Hy x R) (Tm x.t R.T))
theorem Hz.good (x : Px) (M : Ms) (R : Rs) : Good (Hz x M R) := Both.good (Ac.good ..) (Both.good (Hy.good ..) (Tm.good ..))
theorem Hs.into {a m h t k : Nat} {M : Ms} {H : Hp} {w : World} {U : Nat → Prop} (q : Hs a m h t k M H w U) : ∃ (x : Px) (R : Rs), (x.h = h ∧ x.a = a ∧ x.m = m ∧ x.t = t ∧ x.k = k) ∧ Rep17 R H ∧ Hz x M R w U := by
  obtain ⟨Z, Y, h1, ⟨Z2, Y2, ⟨x, R, ⟨rfl, rfl, rfl, rfl, rfl⟩, r, p⟩, g2, g3, g4, g5, g6⟩, h3, h4, h5, h6⟩ := q
  exact ⟨x, R, ⟨rfl, rfl, rfl, rfl, rfl⟩, r, Z, Y, h1, ⟨Z2, Y2, p, by rw [r.T]; exact g2, g3, g4, g5, g6⟩, h3, h4, h5, h6⟩
theorem Hz.back {x : Px} {M : Ms} {R : Rs} {H : Hp} {w : World} {U : Nat → Prop} (q : Hz x M R w U) (r : Rep17 R H) : Hs x.a x.m x.h x.t x.k M H w U := by
  obtain ⟨Z, Y, h1, ⟨Z2, Y2, p, g2, g3, g4, g5, g6⟩, h3, h4, h5, h6⟩ := q
  exact ⟨Z, Y, h1, ⟨Z2, Y2, ⟨x, R, ⟨rfl, rfl, rfl, rfl, rfl⟩, r, p⟩, by rw [← r.T]; exact g2, g3, g4, g5, g6⟩, h3, h4, h5, h6⟩
section
variable {W w : World} {x : Px} {M : Ms} {R : Rs} {O : World → (Nat → Prop) → Prop} {U : Nat → Prop}
theorem Hz.opened (h : Things W w [Hz x M R, O]) : Things W w (hl x M R O []) := by
  have h1 := h.open2 0 (P := Ac x.a x.m x.k M) (Q := Both (Hy x R) (Tm x.t R.T)) rfl (Ac.good ..) (Both.good (Hy.good ..) (Tm.good ..))
  have h2 := h1.open2 0 (P := Am 104 x.a M.bs M.ss) (Q := Ct x.m x.k M.has) rfl (Am.good ..) (Ct.good ..)
  have h3 := h2.open2 2 (P := Hy x R) (Q := Tm x.t R.T) rfl (Hy.good ..) (Tm.good ..)
  have h4 := h3.open2 2 (P := Blk x.h (hob x R.W.length)) (Q := Both (Lv x.ad R.W) (Both (Fam 24 (shf x R.sh)) (Both (Fam 8 (lnf x R.ln)) (Both (Mg x.pb R.cnt (pgm R.pg)) (Fam 6400 (pgf x R.pg)))))) rfl (Blk.good ..) (Both.good (Lv.good ..) (Both.good (Fam.good (shf_good _ _)) (Both.good (Fam.good (lnf_good _ _)) (Both.good (Mg.good ..) (Fam.good (pgf_good _ _))))))
  have h5 := h4.open2 5 (P := Lv x.ad R.W) (Q := Both (Fam 24 (shf x R.sh)) (Both (Fam 8 (lnf x R.ln)) (Both (Mg x.pb R.cnt (pgm R.pg)) (Fam 6400 (pgf x R.pg))))) rfl (Lv.good ..) (Both.good (Fam.good (shf_good _ _)) (Both.good (Fam.good (lnf_good _ _)) (Both.good (Mg.good ..) (Fam.good (pgf_good _ _)))))
  have h6 := h5.open2 6 (P := Fam 24 (shf x R.sh)) (Q := Both (Fam 8 (lnf x R.ln)) (Both (Mg x.pb R.cnt (pgm R.pg)) (Fam 6400 (pgf x R.pg)))) rfl (Fam.good (shf_good _ _)) (Both.good (Fam.good (lnf_good _ _)) (Both.good (Mg.good ..) (Fam.good (pgf_good _ _))))
  have h7 := h6.open2 7 (P := Fam 8 (lnf x R.ln)) (Q := Both (Mg x.pb R.cnt (pgm R.pg)) (Fam 6400 (pgf x R.pg))) rfl (Fam.good (lnf_good _ _)) (Both.good (Mg.good ..) (Fam.good (pgf_good _ _)))
  exact h7.open2 8 (P := Mg x.pb R.cnt (pgm R.pg)) (Q := Fam 6400 (pgf x R.pg)) rfl (Mg.good ..) (Fam.good (pgf_good _ _))
theorem Hz.closed (h : Things W w (hl x M R O [])) : Things W w [Hz x M R, O] := by
  have h1 : Things W w ([Am 104 x.a M.bs M.ss, O, Blk x.h (hob x R.W.length), Ct x.m x.k M.has, Tm x.t R.T, Lv x.ad R.W, Fam 24 (shf x R.sh), Fam 8 (lnf x R.ln), Mg x.pb R.cnt (pgm R.pg)] ++ [Fam 6400 (pgf x R.pg)]) := h
  have h2 := h1.join 8 rfl
  have h3 : Things W w ([Am 104 x.a M.bs M.ss, O, Blk x.h (hob x R.W.length), Ct x.m x.k M.has, Tm x.t R.T, Lv x.ad R.W, Fam 24 (shf x R.sh), Fam 8 (lnf x R.ln)] ++ [Both (Mg x.pb R.cnt (pgm R.pg)) (Fam 6400 (pgf x R.pg))]) := h2
  have h4 := h3.join 7 rfl
  have h5 : Things W w ([Am 104 x.a M.bs M.ss, O, Blk x.h (hob x R.W.length), Ct x.m x.k M.has, Tm x.t R.T, Lv x.ad R.W, Fam 24 (shf x R.sh)] ++ [Both (Fam 8 (lnf x R.ln)) (Both (Mg x.pb R.cnt (pgm R.pg)) (Fam 6400 (pgf x R.pg)))]) := h4
  have h6 := h5.join 6 rfl
  have h7 : Things W w ([Am 104 x.a M.bs M.ss, O, Blk x.h (hob x R.W.length), Ct x.m x.k M.has, Tm x.t R.T, Lv x.ad R.W] ++ [Both (Fam 24 (shf x R.sh)) (Both (Fam 8 (lnf x R.ln)) (Both (Mg x.pb R.cnt (pgm R.pg)) (Fam 6400 (pgf x R.pg))))]) := h6
  have h8 := h7.join 5 rfl
  have h9 : Things W w ([Am 104 x.a M.bs M.ss, O, Blk x.h (hob x R.W.length), Ct x.m x.k M.has, Tm x.t R.T] ++ [Both (Lv x.ad R.W) (Both (Fam 24 (shf x R.sh)) (Both (Fam 8 (lnf x R.ln)) (Both (Mg x.pb R.cnt (pgm R.pg)) (Fam 6400 (pgf x R.pg)))))]) := h8
  have h10 := h9.join 2 rfl
  have h11 : Things W w ([Am 104 x.a M.bs M.ss, O, Hy x R, Ct x.m x.k M.has] ++ [Tm x.t R.T]) := h10
  have h12 := h11.join 2 rfl
  have h13 : Things W w ([Am 104 x.a M.bs M.ss, O, Both (Hy x R) (Tm x.t R.T)] ++ [Ct x.m x.k M.has]) := h12
  have h14 := h13.join 0 rfl
  have h15 : Things W w ([Ac x.a x.m x.k M, O] ++ [Both (Hy x R) (Tm x.t R.T)]) := h14
  exact h15.join 0 rfl
/-- Blocks that are none of the tables'. -/
def Apart17 (U : Nat → Prop) : Prop := ¬ U 0 ∧ ¬ U 2
theorem cx_old {w0 : World} (gr : G17 w0) (fu : Apart17 U) : Cx (Bare w0) (Old w0 U) := ⟨fun {w ts} h hj => by
  obtain ⟨Z, ⟨_, h2, _⟩, _⟩ := h.get 1 hj
  refine ⟨?_, ?_⟩
  · intro j hj
    rw [World.cell?_of_block (h2 0 (Tab.pos gr.1) fu.1).2]
    exact gr.1 j hj
  · intro j hj
    rw [World.cell?_of_block (h2 2 (Sf.Tab.pos gr.2) fu.2).2]
    exact gr.2 j hj⟩
theorem Hz.begin {w0 : World} (q : Hz x M R w0 U) : Things (Bare w0) w0 (hl x M R (Old w0 U) []) := Hz.opened (Things.begin (Hz.good ..) q q.lt)
theorem Hz.finish {w0 : World} {M' : Ms} {R' : Rs} {H' : Hp} (h : Things (Bare w0) w (hl x M' R' (Old w0 U) [])) (hz : ∀ i, U i → i < w0.heap.size) (r : Rep17 R' H') : ∃ U', Hs x.a x.m x.h x.t x.k M' H' w U' ∧ Gw w0 w U U' := by
  obtain ⟨U', h1, h2⟩ := Things.finish (ts := []) (Hz.closed h) hz
  exact ⟨U', h1.back r, h2⟩
end
/-- What the calls ask. -/
structure Hc (k : Nat) (M : Ms) (H : Hp) : Prop where
  ok : HpOk (fun q => Cq.inW k H.W q = true) M H
  ms : MsOk M
  k1 : 1 ≤ k
  k2 : k ≤ 32
  ss : M.ss.length ≤ 890000
  W : H.W.length ≤ 17592186044416
/-- Free, by what was found there. -/
def hFr (M : Ms) (H : Hp) (c s j E : Int) : Ms × Hp × Int := if E = 0 then hF M H c.toNat s.toNat j else (M, H, 13)
/-- Whether a block is had, told by what is held. -/
theorem hasR_had {C : Nat → Prop} {M : Ms} {R : Rs} {H : Hp} (r : Rep17 R H) (h : HpOk C M H) {c s : Nat} (hc : c ≤ 23) (hs : s < sn c) (j : Int) : hasR R c s j = (hHad H.L c s j).isSome := by
  unfold hasR hHad
  by_cases h7 : c ≤ 7
  · rw [if_pos h7]
    cases e : hAt H.L c s with
    | none =>
      rw [r.empty h h7 hs (hAt_none e)]
      rfl
    | some x =>
      obtain ⟨x1, rfl, rfl⟩ := hAt_some e
      obtain ⟨p, hp⟩ := r.at h x1 h7
      rw [hp]
      show decide (x.pg.May j) = (if x.kind ≤ 7 ∧ ¬ x.pg.May j then none else some x).isSome
      by_cases hm : x.pg.May j
      · rw [if_neg fun e => e.2 hm]; simp [hm]
      · rw [if_pos ⟨h7, hm⟩]; simp [hm]
  · rw [if_neg h7, r.sh c (by omega), shL_isT hs]
    cases e : hAt H.L c s with
    | none =>
      cases e2 : heldB H.L c s
      · rfl
      · exact (hAt_none e (heldB_iff.1 e2)).elim
    | some x =>
      obtain ⟨x1, rfl, rfl⟩ := hAt_some e
      show heldB H.L x.kind x.slot = (if x.kind ≤ 7 ∧ ¬ x.pg.May j then none else some x).isSome
      rw [if_neg fun e => h7 e.1, heldB_iff.2 ⟨x, x1, rfl, rfl⟩]
      rfl
end Go.Proofs.YtioplfbkfokkfaaGreatDoor

namespace Go.Proofs.YtioplfbkfokkfaaGreatDoor
open Go.RowKit
open An

section
variable {W w : World} {x : Px} {M : Ms} {R : Rs} {O : World → (Nat → Prop) → Prop} {ts : List (World → (Nat → Prop) → Prop)}
set_option maxRecDepth 20000 in
theorem i_malloc_size (cx : Cx W O) (h : Things W w (hl x M R O ts)) {n : Int} (hn : ofI n < 0) : Calls Tryz.prog 119 #[.pointer (some ⟨x.h, 0, none⟩), .int .i64 n] w fun e w' => e = .returned (.tuple #[.int .i64 0, .int .i64 2]) ∧ Things W w' (hl x M R O ts) := by
  have H1 : Hid (Calls Tryz.prog 53 #[.int .i64 n] w fun e w' => e = .returned (.int .i64 (ofI n)) ∧ Things W w' (hl x M R O ts)) := (k_of n (cx.at h).k).mono fun e w' ⟨he, k⟩ => ⟨he, h.kept k.fr⟩
  clear cx h
  generalize ofI n = o at *
  go_enter Tryz.func119, Tryz.ntmps119
  go_wp2_with fail
  refine wp_scope_jumps 0 (fun _ _ => False) (fun _ _ => 0) rfl ?first (fun _ _ h => h.elim)
  case first =>
    go_wp2_with fail
    refine H1.out.mono ?_
    rintro e w1 ⟨rfl, h1⟩
    have T1 := hid h1
    clear h1 H1
    go_wp2
    rw [jump_ret]
    go_ret2
    exact ⟨by simp, T1.out⟩
set_option maxRecDepth 20000 in
theorem i_malloc_run (cx : Cx W O) (h : Things W w (hl x M R O ts)) {n : Int} {c : Nat} (hn : ofI n = c) (h8 : ¬ c ≤ 7) (hc : c ≤ 23) {a E : Int} {P : World → Prop} (hr : ∀ w1, Things W w1 (hl x M R O ts) → Calls Tryz.prog 167 #[.pointer (some ⟨x.h, 0, none⟩), .int .i64 (c : Int)] w1 fun e w' => e = .returned (.tuple #[.int .i64 a, .int .i64 E]) ∧ P w') : Calls Tryz.prog 119 #[.pointer (some ⟨x.h, 0, none⟩), .int .i64 n] w fun e w' => e = .returned (.tuple #[.int .i64 a, .int .i64 E]) ∧ P w' := by
  have H1 : Hid (Calls Tryz.prog 53 #[.int .i64 n] w fun e w' => e = .returned (.int .i64 (c : Int)) ∧ Things W w' (hl x M R O ts)) := (k_of n (cx.at h).k).mono fun e w' ⟨he, k⟩ => ⟨by rw [he, hn], h.kept k.fr⟩
  have H2 : Hid (∀ w1, Things W w1 (hl x M R O ts) → Calls Tryz.prog 138 #[.int .i64 (c : Int)] w1 fun e w' => e = .returned (.bool false) ∧ w' = w1) := fun w1 h1 => by
    have := i_small (cx.at h1) hc
    rw [decide_eq_false h8] at this
    exact this
  have H3 := hid hr
  clear cx h hr hn hc h8
  go_enter Tryz.func119, Tryz.ntmps119
  go_wp2_with fail
  refine wp_scope_jumps 0 (fun _ _ => False) (fun _ _ => 0) rfl ?first (fun _ _ h => h.elim)
  case first =>
    go_wp2_with fail
    refine H1.out.mono ?_
    rintro e w1 ⟨rfl, h1⟩
    have H4 := hid (H2.out _ h1)
    have H5 := hid (H3.out _ h1)
    clear h1 H1 H2 H3
    go_wp2_with fail
    refine H4.out.mono ?_
    rintro e w2 ⟨rfl, hw2⟩
    obtain rfl := hw2.symm
    clear H4 hw2
    go_wp2_with fail
    refine H5.out.mono ?_
    rintro e w3 ⟨rfl, h3⟩
    have T3 := hid h3
    clear h3 H5
    go_wp2
    rw [jump_ret]
    go_ret2
    exact ⟨by simp, T3.out⟩
set_option maxRecDepth 20000 in
theorem i_malloc_front (cx : Cx W O) (h : Things W w (hl x M R O ts)) {n v : Int} {c : Nat} (hn : ofI n = c) (h7 : c ≤ 7) (lk : LiOk (R.ln c)) (hv : liF (R.ln c) = v) (hv0 : 0 ≤ v) {a E : Int} {P : World → Prop} (hr : ∀ w1, Things W w1 (hl x M R O ts) → Calls Tryz.prog 169 #[.pointer (some ⟨x.h, 0, none⟩), .int .i64 (c : Int), .int .i64 v] w1 fun e w' => e = .returned (.tuple #[.int .i64 a, .int .i64 E]) ∧ P w') : Calls Tryz.prog 119 #[.pointer (some ⟨x.h, 0, none⟩), .int .i64 n] w fun e w' => e = .returned (.tuple #[.int .i64 a, .int .i64 E]) ∧ P w' := by
  have H1 : Hid (Calls Tryz.prog 53 #[.int .i64 n] w fun e w' => e = .returned (.int .i64 (c : Int)) ∧ Things W w' (hl x M R O ts)) := (k_of n (cx.at h).k).mono fun e w' ⟨he, k⟩ => ⟨by rw [he, hn], h.kept k.fr⟩
  have H2 : Hid (∀ w1, Things W w1 (hl x M R O ts) → Calls Tryz.prog 138 #[.int .i64 (c : Int)] w1 fun e w' => e = .returned (.bool true) ∧ w' = w1) := fun w1 h1 => by
    have := i_small (cx.at h1) (c := c) (by omega)
    rw [decide_eq_true h7] at this
    exact this
  have HF : Hid (∀ w1, Things W w1 (hl x M R O ts) → w1.cell? ⟨x.h, 28 + c, none⟩ = some (.pointer (some ⟨x.N c, 0, none⟩)) ∧ Calls Tryz.prog 168 #[.pointer (some ⟨x.N c, 0, none⟩)] w1 fun e w' => e = .returned (.int .i64 v) ∧ Things W w' (hl x M R O ts)) := fun w1 h1 => ⟨hob_l (z_blk h1) (by omega), (z_front h1 (c := c) (by omega) lk).mono fun e w' ⟨he, f⟩ => ⟨by rw [he, hv], h1.kept f⟩⟩
  have hc8 : (c : Int) < 8 := by omega
  have H3 := hid hr
  clear cx h hr hn lk hv
  generalize hN : x.N c = N at *
  go_enter Tryz.func119, Tryz.ntmps119
  go_wp2_with fail
  refine wp_scope_jumps 0 (fun _ _ => False) (fun _ _ => 0) rfl ?first (fun _ _ h => h.elim)
  case first =>
    go_wp2_with fail
    refine H1.out.mono ?_
    rintro e w1 ⟨rfl, h1⟩
    have H4 := hid (H2.out _ h1)
    obtain ⟨c5, h5⟩ := HF.out _ h1
    have H5 := hid h5
    clear h1 h5 H1 H2 HF
    go_wp2_with fail
    refine H4.out.mono ?_
    rintro e w2 ⟨rfl, hw2⟩
    obtain rfl := hw2.symm
    clear H4 hw2
    go_wp2_with fail
    go_step3
    go_wp2_with fail
    refine H5.out.mono ?_
    rintro e w3 ⟨rfl, h3⟩
    have H6 := hid (H3.out _ h3)
    clear h3 H5 H3 c5
    go_wp2_with fail
    refine H6.out.mono ?_
    rintro e w4 ⟨rfl, h4⟩
    have T4 := hid h4
    clear h4 H6
    go_wp2
    rw [jump_ret]
    go_ret2
    exact ⟨by simp, T4.out⟩
set_option maxRecDepth 20000 in
theorem i_malloc_full (cx : Cx W O) (h : Things W w (hl x M R O ts)) {n : Int} {c : Nat} (hn : ofI n = c) (h7 : c ≤ 7) (hv : R.ln c = []) (hr : ∀ w1, Things W w1 (hl x M R O ts) → Calls Tryz.prog 170 #[.pointer (some ⟨x.h, 0, none⟩), .int .i64 (c : Int)] w1 fun e w' => e = .returned (.int .i64 13) ∧ Things W w' (hl x M R O ts)) : Calls Tryz.prog 119 #[.pointer (some ⟨x.h, 0, none⟩), .int .i64 n] w fun e w' => e = .returned (.tuple #[.int .i64 0, .int .i64 13]) ∧ Things W w' (hl x M R O ts) := by
  have H1 : Hid (Calls Tryz.prog 53 #[.int .i64 n] w fun e w' => e = .returned (.int .i64 (c : Int)) ∧ Things W w' (hl x M R O ts)) := (k_of n (cx.at h).k).mono fun e w' ⟨he, k⟩ => ⟨by rw [he, hn], h.kept k.fr⟩
  have H2 : Hid (∀ w1, Things W w1 (hl x M R O ts) → Calls Tryz.prog 138 #[.int .i64 (c : Int)] w1 fun e w' => e = .returned (.bool true) ∧ w' = w1) := fun w1 h1 => by
    have := i_small (cx.at h1) (c := c) (by omega)
    rw [decide_eq_true h7] at this
    exact this
  have HF : Hid (∀ w1, Things W w1 (hl x M R O ts) → w1.cell? ⟨x.h, 28 + c, none⟩ = some (.pointer (some ⟨x.N c, 0, none⟩)) ∧ Calls Tryz.prog 168 #[.pointer (some ⟨x.N c, 0, none⟩)] w1 fun e w' => e = .returned (.int .i64 (-1)) ∧ Things W w' (hl x M R O ts)) := fun w1 h1 => ⟨hob_l (z_blk h1) (by omega), (z_front h1 (c := c) (by omega) (by rw [hv]; exact LiOk.none)).mono fun e w' ⟨he, f⟩ => ⟨by rw [he, hv]; rfl, h1.kept f⟩⟩
  have hc8 : (c : Int) < 8 := by omega
  have H3 := hid hr
  clear cx h hr hn hv
  generalize hN : x.N c = N at *
  go_enter Tryz.func119, Tryz.ntmps119
  go_wp2_with fail
  refine wp_scope_jumps 0 (fun _ _ => False) (fun _ _ => 0) rfl ?first (fun _ _ h => h.elim)
  case first =>
    go_wp2_with fail
    refine H1.out.mono ?_
    rintro e w1 ⟨rfl, h1⟩
    have H4 := hid (H2.out _ h1)
    obtain ⟨c5, h5⟩ := HF.out _ h1
    have H5 := hid h5
    clear h1 h5 H1 H2 HF
    go_wp2_with fail
    refine H4.out.mono ?_
    rintro e w2 ⟨rfl, hw2⟩
    obtain rfl := hw2.symm
    clear H4 hw2
    go_wp2_with fail
    go_step3
    go_wp2_with fail
    refine H5.out.mono ?_
    rintro e w3 ⟨rfl, h3⟩
    have H6 := hid (H3.out _ h3)
    clear h3 H5 H3 c5
    go_wp2_with fail
    refine H6.out.mono ?_
    rintro e w4 ⟨rfl, h4⟩
    have T4 := hid h4
    clear h4 H6
    go_wp2
    rw [jump_ret]
    go_ret2
    exact ⟨by simp, T4.out⟩
set_option maxRecDepth 20000 in
set_option maxHeartbeats 2000000 in
theorem i_malloc_open (cx : Cx W O) (h : Things W w (hl x M R O ts)) {n v : Int} {c : Nat} (hn : ofI n = c) (h7 : c ≤ 7) (hv : R.ln c = []) (hv0 : 0 ≤ v) (hvm : v ≤ 6400) {M1 : Ms} {R1 : Nat → Rs} (hl1 : ∀ p, (R1 p).ln c = [v]) {a E : Int} {P : World → Prop} (hr : ∀ w1, Things W w1 (hl x M R O ts) → Calls Tryz.prog 170 #[.pointer (some ⟨x.h, 0, none⟩), .int .i64 (c : Int)] w1 fun e w' => e = .returned (.int .i64 0) ∧ ∃ p, Things W w' (hl x M1 (R1 p) O ts))
    (hk : ∀ w1 p, Things W w1 (hl x M1 (R1 p) O ts) → Calls Tryz.prog 169 #[.pointer (some ⟨x.h, 0, none⟩), .int .i64 (c : Int), .int .i64 v] w1 fun e w' => e = .returned (.tuple #[.int .i64 a, .int .i64 E]) ∧ P w') : Calls Tryz.prog 119 #[.pointer (some ⟨x.h, 0, none⟩), .int .i64 n] w fun e w' => e = .returned (.tuple #[.int .i64 a, .int .i64 E]) ∧ P w' := by
  have H1 : Hid (Calls Tryz.prog 53 #[.int .i64 n] w fun e w' => e = .returned (.int .i64 (c : Int)) ∧ Things W w' (hl x M R O ts)) := (k_of n (cx.at h).k).mono fun e w' ⟨he, k⟩ => ⟨by rw [he, hn], h.kept k.fr⟩
  have H2 : Hid (∀ w1, Things W w1 (hl x M R O ts) → Calls Tryz.prog 138 #[.int .i64 (c : Int)] w1 fun e w' => e = .returned (.bool true) ∧ w' = w1) := fun w1 h1 => by
    have := i_small (cx.at h1) (c := c) (by omega)
    rw [decide_eq_true h7] at this
    exact this
  have HF : Hid (∀ w1, Things W w1 (hl x M R O ts) → w1.cell? ⟨x.h, 28 + c, none⟩ = some (.pointer (some ⟨x.N c, 0, none⟩)) ∧ Calls Tryz.prog 168 #[.pointer (some ⟨x.N c, 0, none⟩)] w1 fun e w' => e = .returned (.int .i64 (-1)) ∧ Things W w' (hl x M R O ts)) := fun w1 h1 => ⟨hob_l (z_blk h1) (by omega), (z_front h1 (c := c) (by omega) (by rw [hv]; exact LiOk.none)).mono fun e w' ⟨he, f⟩ => ⟨by rw [he, hv]; rfl, h1.kept f⟩⟩
  have HG : Hid (∀ w1 p, Things W w1 (hl x M1 (R1 p) O ts) → w1.cell? ⟨x.h, 28 + c, none⟩ = some (.pointer (some ⟨x.N c, 0, none⟩)) ∧ Calls Tryz.prog 168 #[.pointer (some ⟨x.N c, 0, none⟩)] w1 fun e w' => e = .returned (.int .i64 v) ∧ Things W w' (hl x M1 (R1 p) O ts)) := fun w1 p h1 => ⟨hob_l (z_blk h1) (by omega), (z_front h1 (c := c) (by omega) (by rw [hl1 p]; exact ⟨by simp, fun y hy => by simp only [List.mem_singleton] at hy; subst hy; omega⟩)).mono fun e w' ⟨he, f⟩ => ⟨by rw [he, hl1 p]; rfl, h1.kept f⟩⟩
  have hc8 : (c : Int) < 8 := by omega
  have H3 := hid hr
  have HK := hid hk
  clear cx h hr hn hv hk hl1 hvm
  generalize hN : x.N c = N at *
  go_enter Tryz.func119, Tryz.ntmps119
  go_wp2_with fail
  refine wp_scope_jumps 0 (fun a' w' => ∃ (u1 u2 u3 u4 u5 u7 u8 u9 u10 u11 u12 u13 u14 u15 u16 u17 u18 u19 u20 u21 u22 u23 u24 u25 u26 u27 u28 u29 u30 u31 u32 u33 u34 u35 u36 u37 u38 u39 u40 u41 u42 u43 u44 u45 u46 : Value), Hid (∃ p, Things W w' (hl x M1 (R1 p) O ts)) ∧ a' = { tmps := #[.pointer (some ⟨x.h, 0, none⟩), u1, u2, u3, u4, u5, .int .i64 (c : Int), u7, u8, u9, u10, u11, u12, u13, u14, u15, u16, u17, u18, u19, u20, u21, u22, u23, u24, u25, u26, u27, u28, u29, u30, u31, u32, u33, u34, u35, u36, u37, u38, u39, u40, u41, u42, u43, u44, u45, u46], defers := [] }) (fun _ _ => 0) rfl ?first ?pass
  case first =>
    go_wp2_with fail
    refine H1.out.mono ?_
    rintro e w1 ⟨rfl, h1⟩
    have H4 := hid (H2.out _ h1)
    obtain ⟨c5, h5⟩ := HF.out _ h1
    have H5 := hid h5
    clear h1 h5 H1 H2 HF HG HK
    go_wp2_with fail
    refine H4.out.mono ?_
    rintro e w2 ⟨rfl, hw2⟩
    obtain rfl := hw2.symm
    clear H4 hw2
    go_wp2_with fail
    go_step3
    go_wp2_with fail
    refine H5.out.mono ?_
    rintro e w3 ⟨rfl, h3⟩
    have H6 := hid (H3.out _ h3)
    clear h3 H5 H3 c5
    go_wp2_with fail
    refine H6.out.mono ?_
    rintro e w4 ⟨rfl, h4⟩
    have T4 := hid h4
    clear h4 H6
    go_wp2
    go_step3
    exact ⟨rfl, _, _, _, _, _, _, _, _, _, _, _, _, _, _, _, _, _, _, _, _, _, _, _, _, _, _, _, _, _, _, _, _, _, _, _, _, _, _, _, _, _, _, _, _, _, T4, rfl⟩
  case pass =>
    rintro a' w1 ⟨u1, u2, u3, u4, u5, u7, u8, u9, u10, u11, u12, u13, u14, u15, u16, u17, u18, u19, u20, u21, u22, u23, u24, u25, u26, u27, u28, u29, u30, u31, u32, u33, u34, u35, u36, u37, u38, u39, u40, u41, u42, u43, u44, u45, u46, T, rfl⟩
    obtain ⟨p, h1⟩ := T.out
    obtain ⟨c5, h5⟩ := HG.out _ _ h1
    have H5 := hid h5
    clear T h1 h5 H1 H2 HF HG H3
    go_wp2_with fail
    refine H5.out.mono ?_
    rintro e w3 ⟨rfl, h3⟩
    have H6 := hid (HK.out _ _ h3)
    clear h3 H5 c5 HK
    go_wp2_with fail
    refine H6.out.mono ?_
    rintro e w4 ⟨rfl, h4⟩
    have T4 := hid h4
    clear h4 H6
    go_wp2
    rw [jump_ret]
    go_ret2
    exact ⟨by simp, T4.out⟩
end
end Go.Proofs.YtioplfbkfokkfaaGreatDoor
