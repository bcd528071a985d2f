/-
  What the calls leave of things side by side, of which one is an arena with its chains.
-/
import Derived.Test.YtjgkcaibapffhaaChState
namespace Go.Proofs.Ytjgkcaibapffhaa
open Go.RowKit
open An

section
variable {W w : World} {ts : List (World → (Nat → Prop) → Prop)} {a c : Nat} {bs : List UInt8} {ss : List Sp} {L : List (Nat × Ck)} {k : Ck}
theorem Things.ok (h : Things W w ts) (j : Nat) (hj : ts[j]? = some (Pc a bs ss L)) (i : Nat) (hi : L[i]? = some (c, k)) : k.Ok bs.length := by
  obtain ⟨U, h1, _⟩ := h.get j hj
  obtain ⟨Z, _, _, h3, _⟩ := h1.one Chm.chain i hi
  exact h3
theorem g_arena (h : Things W w ts) (n : Nat) (hn : n ≤ 2097152) : Calls Try.prog 15 #[.int .i64 n] w fun e w' => ∃ a, e = .returned (.tuple #[.pointer (some ⟨a, 0, none⟩), .int .i64 0]) ∧ Things W w' (ts ++ [Pc a (List.replicate n 0) [] []]) :=
  (am_new n w hn).mono fun _ _ ⟨a, _, he, hm, hz, f⟩ => ⟨a, he, h.more (Pc.good _ _ _ _) (Cs.bare hm) f fun i hi => ⟨hz i hi, hm.lt i hi⟩⟩
theorem y_arena (h : Things W w ts) (n : Nat) (hn : n ≤ 2097152) : Calls Try.prog 25 #[.int .i64 n] w fun e w' => ∃ a, e = .returned (.tuple #[.pointer (some ⟨a, 0, none⟩), .int .i64 0]) ∧ Things W w' (ts ++ [Rf a (List.replicate n 0) [] []]) :=
  (rm_new n w hn).mono fun _ _ ⟨a, _, he, hm, hz, f⟩ => ⟨a, he, h.more (Rf.good _ _ _ _) (Cs.bare hm) f fun i hi => ⟨hz i hi, hm.lt i hi⟩⟩
theorem g_new (h : Things W w ts) (j : Nat) (hj : ts[j]? = some (Pc a bs ss L)) {x u p : Int} (hn : NewOk bs.length x u p) : Calls Try.prog 16 #[.pointer (some ⟨a, 0, none⟩), .int .i64 x, .int .i64 u, .int .i64 p] w fun e w' => ∃ c, e = .returned (.tuple #[.pointer (some ⟨c, 0, none⟩), .int .i64 0]) ∧ Things W w' (ts.set j (Pc a bs ss (L ++ [(c, ⟨x.toNat, u.toNat, p.toNat, 0⟩)]))) := by
  obtain ⟨U, h1, _, h2⟩ := h.turn j hj
  exact (k_new h1 hn).mono fun e w' ⟨c, U', he, g1, g2⟩ => ⟨c, he, h2 _ w' U' (Pc.good _ _ _ _) g1 g2⟩
theorem g_new_no (h : Things W w ts) (j : Nat) (hj : ts[j]? = some (Pc a bs ss L)) {x u p : Int} (hn : ¬ NewOk bs.length x u p) (hx : x ≤ 9223372036854775807) : Calls Try.prog 16 #[.pointer (some ⟨a, 0, none⟩), .int .i64 x, .int .i64 u, .int .i64 p] w fun e w' => e = .returned (.tuple #[.pointer none, .int .i64 12]) ∧ Things W w' ts :=
  h.ask j hj fun _ p => k_new_no p hn hx
theorem g_push (h : Things W w ts) (j : Nat) (hj : ts[j]? = some (Pc a bs ss L)) (hk : ss.length ≤ 1000000) (i : Nat) (hi : L[i]? = some (c, k)) (x : Int) : Calls Try.prog 17 #[.pointer (some ⟨c, 0, none⟩), .int .i64 x] w fun e w' => e = .returned (.int .i64 (puE k x)) ∧ Things W w' (ts.set j (Pc a (puB k bs x) (puT k ss x) (L.set i (c, puS k x)))) :=
  h.lift j hj (Pc.good _ _ _ _) fun _ p => k_push p hk i hi x
theorem g_pop (h : Things W w ts) (j : Nat) (hj : ts[j]? = some (Pc a bs ss L)) (hk : ss.length < 1000000) (i : Nat) (hi : L[i]? = some (c, k)) : Calls Try.prog 19 #[.pointer (some ⟨c, 0, none⟩)] w fun e w' => e = .returned (.tuple #[.int .i64 (poV k bs), .int .i64 (poE k bs)]) ∧ Things W w' (ts.set j (Pc a (poB k bs) (poT k bs ss) (L.set i (c, poS k bs)))) :=
  h.lift j hj (Pc.good _ _ _ _) fun _ p => k_pop p hk i hi
theorem g_all (h : Things W w ts) (j : Nat) (hj : ts[j]? = some (Pc a bs ss L)) (hk : ss.length ≤ 900000) (i : Nat) (hi : L[i]? = some (c, k)) : Calls Try.prog 18 #[.pointer (some ⟨c, 0, none⟩)] w fun e w' => ∃ ad cap, e = .returned (.tuple #[.slice ad (nI (alL k bs)).length cap, .int .i64 (alE k bs)]) ∧ Things W w' (ts.set j (Pc a bs (alT k bs ss) L) ++ [Lv ad (nI (alL k bs))]) := by
  obtain ⟨U, h1, _, h2⟩ := h.turnMore j hj
  refine (k_all h1 hk i hi).mono fun e w' ⟨U', ⟨ad, cap, he, hn, hb⟩, g1, g2⟩ => ⟨ad, cap, he, h2 _ _ w' U' _ (Pc.good _ _ _ _) (Lv.good _ _) g1 g2 (Lv.new hn) fun b ⟨⟨off, e⟩, h0⟩ => ⟨(hb b off e).1, (Lv.new hn).2.2 b ⟨⟨off, e⟩, h0⟩, (hb b off e).2⟩⟩
theorem g_take (h : Things W w ts) (m : Nat) (hm : ts[m]? = some (Pc a bs ss L)) {i j d : Nat} {k2 : Ck} (hij : i ≠ j) (hi : L[i]? = some (c, k)) (hj : L[j]? = some (d, k2)) (hp : k2.per = k.per) : Calls Try.prog 21 #[.pointer (some ⟨c, 0, none⟩), .pointer (some ⟨d, 0, none⟩)] w fun e w' => e = .returned (.int .i64 (taE k)) ∧ Things W w' (ts.set m (Pc a bs ss ((L.set i (c, taS k k2)).set j (d, taD k k2)))) :=
  h.lift m hm (Pc.good _ _ _ _) fun _ p => k_take p hij hi hj hp
theorem g_move (h : Things W w ts) (j : Nat) (hj : ts[j]? = some (Pc a bs ss L)) (i : Nat) (hi : L[i]? = some (c, k)) (x : Int) (hx : x ≤ 9223372036854775807) : Calls Try.prog 22 #[.pointer (some ⟨c, 0, none⟩), .int .i64 x] w fun e w' => e = .returned (.int .i64 (moE k bs.length x)) ∧ Things W w' (ts.set j (Pc a bs ss (L.set i (c, moS k bs.length x)))) :=
  h.lift j hj (Pc.good _ _ _ _) fun _ p => k_move p i hi x hx
theorem g_put (h : Things W w ts) (j : Nat) (hj : ts[j]? = some (Pc a bs ss L)) (x u : Int) (hx : x ≤ 9223372036854775807) (hu0 : 0 ≤ u) (hu1 : u ≤ 18446744073709551615) (hk : ss.length ≤ 1000000) : Calls Try.prog 33 #[.pointer (some ⟨a, 0, none⟩), .int .i64 x, .int .u64 u] w fun e w' => e = .returned (.int .i64 (errE (inB x 8 bs.length))) ∧ Things W w' (ts.set j (Pc a (layB (inB x 8 bs.length) bs x (leb u.toNat 8)) (notS (inB x 8 bs.length) ss x 8 true) L)) :=
  h.lift j hj (Pc.good _ _ _ _) fun _ p => k_put p x u hx hu0 hu1 hk
theorem y_new (h : Things W w ts) (j : Nat) (hj : ts[j]? = some (Rf a bs ss L)) {x u p : Int} (hn : NewOk bs.length x u p) : Calls Try.prog 26 #[.pointer (some ⟨a, 0, none⟩), .int .i64 x, .int .i64 u, .int .i64 p] w fun e w' => ∃ c, e = .returned (.tuple #[.pointer (some ⟨c, 0, none⟩), .int .i64 0]) ∧ Things W w' (ts.set j (Rf a bs ss (L ++ [(c, ⟨x.toNat, u.toNat, p.toNat, 0⟩)]))) := by
  obtain ⟨U, h1, _, h2⟩ := h.turn j hj
  exact (x_new h1 hn).mono fun e w' ⟨c, U', he, g1, g2⟩ => ⟨c, he, h2 _ w' U' (Rf.good _ _ _ _) g1 g2⟩
theorem y_new_no (h : Things W w ts) (j : Nat) (hj : ts[j]? = some (Rf a bs ss L)) {x u p : Int} (hn : ¬ NewOk bs.length x u p) : Calls Try.prog 26 #[.pointer (some ⟨a, 0, none⟩), .int .i64 x, .int .i64 u, .int .i64 p] w fun e w' => e = .returned (.tuple #[.pointer none, .int .i64 12]) ∧ Things W w' ts :=
  h.ask j hj fun _ p => x_new_no p hn
theorem y_push (h : Things W w ts) (j : Nat) (hj : ts[j]? = some (Rf a bs ss L)) (hk : ss.length ≤ 1000000) (i : Nat) (hi : L[i]? = some (c, k)) (x : Int) : Calls Try.prog 28 #[.pointer (some ⟨c, 0, none⟩), .int .i64 x] w fun e w' => e = .returned (.int .i64 (puE k x)) ∧ Things W w' (ts.set j (Rf a (puB k bs x) (puT k ss x) (L.set i (c, puS k x)))) :=
  h.lift j hj (Rf.good _ _ _ _) fun _ p => x_push p hk i hi x
theorem y_pop (h : Things W w ts) (j : Nat) (hj : ts[j]? = some (Rf a bs ss L)) (hk : ss.length < 1000000) (i : Nat) (hi : L[i]? = some (c, k)) : Calls Try.prog 29 #[.pointer (some ⟨c, 0, none⟩)] w fun e w' => e = .returned (.tuple #[.int .i64 (poV k bs), .int .i64 (poE k bs)]) ∧ Things W w' (ts.set j (Rf a (poB k bs) (poT k bs ss) (L.set i (c, poS k bs)))) :=
  h.lift j hj (Rf.good _ _ _ _) fun _ p => x_pop p hk i hi
theorem y_all (h : Things W w ts) (j : Nat) (hj : ts[j]? = some (Rf a bs ss L)) (hk : ss.length ≤ 900000) (i : Nat) (hi : L[i]? = some (c, k)) : Calls Try.prog 30 #[.pointer (some ⟨c, 0, none⟩)] w fun e w' => ∃ ad cap, e = .returned (.tuple #[.slice ad (nI (alL k bs)).length cap, .int .i64 (alE k bs)]) ∧ Things W w' (ts.set j (Rf a bs (alT k bs ss) L) ++ [Lv ad (nI (alL k bs))]) := by
  obtain ⟨U, h1, _, h2⟩ := h.turnMore j hj
  refine (x_all h1 hk i hi).mono fun e w' ⟨U', ⟨ad, cap, he, hn, hb⟩, g1, g2⟩ => ⟨ad, cap, he, h2 _ _ w' U' _ (Rf.good _ _ _ _) (Lv.good _ _) g1 g2 (Lv.new hn) fun b ⟨⟨off, e⟩, h0⟩ => ⟨(hb b off e).1, (Lv.new hn).2.2 b ⟨⟨off, e⟩, h0⟩, (hb b off e).2⟩⟩
theorem y_take (h : Things W w ts) (m : Nat) (hm : ts[m]? = some (Rf a bs ss L)) {i j d : Nat} {k2 : Ck} (hij : i ≠ j) (hi : L[i]? = some (c, k)) (hj : L[j]? = some (d, k2)) (hp : k2.per = k.per) : Calls Try.prog 31 #[.pointer (some ⟨c, 0, none⟩), .pointer (some ⟨d, 0, none⟩)] w fun e w' => e = .returned (.int .i64 (taE k)) ∧ Things W w' (ts.set m (Rf a bs ss ((L.set i (c, taS k k2)).set j (d, taD k k2)))) :=
  h.lift m hm (Rf.good _ _ _ _) fun _ p => x_take p hij hi hj hp
theorem y_move (h : Things W w ts) (j : Nat) (hj : ts[j]? = some (Rf a bs ss L)) (i : Nat) (hi : L[i]? = some (c, k)) (x : Int) : Calls Try.prog 32 #[.pointer (some ⟨c, 0, none⟩), .int .i64 x] w fun e w' => e = .returned (.int .i64 (moE k bs.length x)) ∧ Things W w' (ts.set j (Rf a bs ss (L.set i (c, moS k bs.length x)))) :=
  h.lift j hj (Rf.good _ _ _ _) fun _ p => x_move p i hi x
theorem y_put (h : Things W w ts) (j : Nat) (hj : ts[j]? = some (Rf a bs ss L)) (x u : Int) (hx : x ≤ 9223372036854775807) (hu0 : 0 ≤ u) (hu1 : u ≤ 18446744073709551615) (hk : ss.length ≤ 1000000) : Calls Try.prog 34 #[.pointer (some ⟨a, 0, none⟩), .int .i64 x, .int .u64 u] w fun e w' => e = .returned (.int .i64 (errE (inB x 8 bs.length))) ∧ Things W w' (ts.set j (Rf a (layB (inB x 8 bs.length) bs x (leb u.toNat 8)) (notS (inB x 8 bs.length) ss x 8 true) L)) :=
  h.lift j hj (Rf.good _ _ _ _) fun _ p => x_put p x u hx hu0 hu1 hk
theorem g_empty (h : Things W w ts) (j : Nat) (hj : ts[j]? = some (Pc a bs ss L)) (i : Nat) (hi : L[i]? = some (c, k)) : Calls Try.prog 11 #[.pointer (some ⟨c, 0, none⟩)] w fun e w' => e = .returned (.bool (decide (k.hd = 0))) ∧ Things W w' ts :=
  h.ask j hj fun _ p => k_empty p i hi
theorem g_load (h : Things W w ts) (j : Nat) (hj : ts[j]? = some (Pc a bs ss L)) (p : Nat) (hin : p + 8 ≤ bs.length) (hk : ss.length ≤ 1000000) : Calls Try.prog 27 #[.pointer (some ⟨a, 0, none⟩), .int .i64 p] w fun e w' => e = .returned (.tuple #[.int .u64 (wd bs p), .int .i64 0]) ∧ Things W w' (ts.set j (Pc a bs (ss ++ [((p : Int), (8 : Int), false)]) L)) :=
  h.lift j hj (Pc.good _ _ _ _) fun _ q => k_load q p hin hk
theorem g_read (h : Things W w ts) (j : Nat) (hj : ts[j]? = some (Pc a bs ss L)) (p m : Nat) (hin : p + m ≤ bs.length) (hk : ss.length ≤ 1000000) : Calls Try.prog 13 #[.pointer (some ⟨a, 0, none⟩), .int .i64 p, .int .i64 m] w fun e w' => e = .returned (.tuple #[.string ⟨((bs.drop p).take m).toArray⟩, .int .i64 0]) ∧ Things W w' (ts.set j (Pc a bs (noted ss p m false) L)) :=
  h.lift j hj (Pc.good _ _ _ _) fun _ q => k_read q p m hin hk
theorem g_size (h : Things W w ts) (j : Nat) (hj : ts[j]? = some (Pc a bs ss L)) : Calls Try.prog 20 #[.pointer (some ⟨a, 0, none⟩)] w fun e w' => e = .returned (.int .i64 bs.length) ∧ Things W w' ts :=
  h.ask j hj fun _ q => (k_size q).mono fun _ _ ⟨he, hw⟩ => ⟨he, hw ▸ Fr.refl _ _⟩
end
end Go.Proofs.Ytjgkcaibapffhaa
