/-
  What the calls of package caps do: Grant, Restrict.
-/
import Derived.Test.YtcleheapfgapaaaDoorCaGive
namespace Go.Proofs.YtcleheapfgapaaaDoor
open Go.RowKit

section
variable {w : World} {a o ob s sb : Nat} {c : Ct}
set_option maxRecDepth 20000 in
theorem k_grant (h : Kt w a o ob s sb c) (x : Int) : Calls Tryd.prog 13 #[.pointer (some ⟨a, 0, none⟩), .int .i64 x] w fun e w' => e = .returned (.tuple #[.int .u64 (grV c x), .int .i64 (grE c x)]) ∧ Kt w' a o ob s sb (grS c x) ∧ Fr (fun i => i = a ∨ i = ob) w w' := by
  have HH := hid h
  by_cases hx : x < 0
  · have e1 : grV c x = 0 := if_pos hx
    have e2 : grE c x = 12 := if_pos hx
    have e3 : grS c x = c := if_pos hx
    rw [e1, e2, e3]
    clear h e1 e2 e3
    go_enter Tryd.func13, Tryd.ntmps13
    go_wp2
    go_ret2
    exact ⟨by simp, HH.out, Fr.refl _ _⟩
  · have HG := hid (k_give_o h (x := x) (r := 7) (by omega) (by omega))
    have e1 : grV c x = plV c 0 4096 7 := if_neg hx
    have e2 : grE c x = plE c 0 4096 := if_neg hx
    have e3 : grS c x = plS c 0 4096 7 x := if_neg hx
    rw [e1, e2, e3]
    have c2 := h.c2
    clear h e1 e2 e3 HH
    generalize plV c 0 4096 7 = v at *
    generalize plE c 0 4096 = q at *
    generalize plS c 0 4096 7 x = c' at *
    go_enter Tryd.func13, Tryd.ntmps13
    go_wp2_with fail
    refine HG.out.mono ?_
    rintro e w1 ⟨rfl, h1, f1⟩
    have H1 := hid (And.intro h1 f1)
    clear h1 f1 HG
    go_wp2
    go_ret2
    exact ⟨by simp, H1.out⟩
set_option maxRecDepth 20000 in
theorem k_restrict (h : Kt w a o ob s sb c) {b : Int} (b0 : 0 ≤ b) (b1 : b ≤ 18446744073709551615) (q : Int) : Calls Tryd.prog 17 #[.pointer (some ⟨a, 0, none⟩), .int .u64 b, .int .i64 q] w fun e w' => e = .returned (.tuple #[.int .u64 (reV c b q), .int .i64 (reE c b q)]) ∧ Kt w' a o ob s sb (reS c b q) ∧ Fr (fun i => i = a ∨ i = sb) w w' := by
  have HG := hid (h.good b0 b1)
  have HH := hid h
  cases hl : look c b with
  | none =>
    have e1 : reV c b q = 0 := by unfold reV; rw [hl]
    have e2 : reE c b q = 5 := by unfold reE; rw [hl]
    have e3 : reS c b q = c := by unfold reS; rw [hl]
    obtain ⟨g1, g2, g3, g4⟩ := go_none hl
    rw [g1, g2, g3, g4] at HG
    rw [e1, e2, e3]
    clear h g1 g2 g3 g4 e1 e2 e3 hl b0 b1
    go_enter Tryd.func17, Tryd.ntmps17
    go_wp2_with fail
    refine HG.out.mono ?_
    rintro e w1 ⟨rfl, h1, f1⟩
    have F1 := hid f1
    have H1 := hid h1
    clear f1 h1 HG HH
    go_wp2
    go_ret2
    exact ⟨by simp, H1.out.kept ((Fr.refl _ _).alloc _), (F1.out.alloc _).mono fun _ _ e => e.elim⟩
  | some x =>
    have hx := h.ok.kr x (look_mem hl).1
    obtain ⟨g1, g2, g3, g4⟩ := go_some hl
    rw [g1, g2, g3, g4] at HG
    have hxr : 1 ≤ x.r ∧ x.r ≤ 7 := by have := hx.1; unfold KR at this; omega
    by_cases hq : 1 ≤ q ∧ q ≤ 7
    case neg =>
      have e1 : reV c b q = 0 := by unfold reV; rw [hl]; exact if_neg hq
      have e2 : reE c b q = 2 := by unfold reE; rw [hl]; exact if_neg hq
      have e3 : reS c b q = c := by unfold reS; rw [hl]; exact if_neg hq
      rw [e1, e2, e3]
      clear h g1 g2 g3 g4 e1 e2 e3 hl b0 b1 hx hxr
      obtain ⟨xs, xr, xn, xa⟩ := x
      dsimp only at HG
      have hq2 : q < 1 ∨ (¬ q < 1 ∧ 7 < q) := by omega
      clear hq
      rcases hq2 with hq | ⟨hq, hq2⟩
      all_goals
        go_enter Tryd.func17, Tryd.ntmps17
        go_wp2_with fail
        refine HG.out.mono ?_
        rintro e w1 ⟨rfl, h1, f1⟩
        have F1 := hid f1
        have H1 := hid h1
        clear f1 h1 HG HH
        go_wp2
        go_ret2
        exact ⟨by simp, H1.out.kept ((Fr.refl _ _).alloc _), (F1.out.alloc _).mono fun _ _ e => e.elim⟩
    have HS := hid fun w => k_has x.a x.r x.n q w
    rw [andNot_sub hxr (by omega), show decide ((0 ≤ q ∧ q ≤ 7) ∧ sub x.r q = true) = sub x.r q by
      cases hs : sub x.r q
      · exact decide_eq_false fun h => by cases h.2
      · exact decide_eq_true ⟨by omega, rfl⟩] at HS
    have hq1 : ¬ q < 1 := by omega
    have hq2 : ¬ 7 < q := by omega
    cases hs : sub x.r q with
    | false =>
      have e1 : reV c b q = 0 := by unfold reV; rw [hl]; show (if 1 ≤ q ∧ q ≤ 7 then (if sub x.r q = true then _ else _) else _) = _; rw [if_pos hq, hs]; rfl
      have e2 : reE c b q = 5 := by unfold reE; rw [hl]; show (if 1 ≤ q ∧ q ≤ 7 then (if sub x.r q = true then _ else _) else _) = _; rw [if_pos hq, hs]; rfl
      have e3 : reS c b q = c := by unfold reS; rw [hl]; show (if 1 ≤ q ∧ q ≤ 7 then (if sub x.r q = true then _ else _) else _) = _; rw [if_pos hq, hs]; rfl
      rw [e1, e2, e3]
      rw [hs] at HS
      clear h g1 g2 g3 g4 e1 e2 e3 hl b0 b1 hx hxr hs hq
      obtain ⟨xs, xr, xn, xa⟩ := x
      dsimp only at HG HS
      go_enter Tryd.func17, Tryd.ntmps17
      go_wp2_with fail
      refine HG.out.mono ?_
      rintro e w1 ⟨rfl, h1, f1⟩
      have F1 := hid f1
      have P1 := hid (Hb.new w1 65 xa xr xn)
      have H1 := hid (h1.kept ((Fr.refl _ _).alloc (.cells #[.int .i64 xa, .int .i64 xr, .int .i64 xn] 65)))
      clear f1 HG h1 HH
      have c0 := P1.out.c0
      have c1 := P1.out.c1
      have c2 := P1.out.c2
      go_wp2_with fail
      refine (HS.out _).mono ?_
      rintro e w2 ⟨rfl, f2⟩
      have H2 := hid (H1.out.kept f2)
      have F2 := hid ((F1.out.alloc _).trans f2)
      clear f2 HS P1 F1 H1 c0 c1 c2
      go_wp2
      go_ret2
      exact ⟨by simp, H2.out, F2.out.mono fun _ _ e => e.elim⟩
    | true =>
      have e1 : reV c b q = plV c 4096 4160 q := by unfold reV; rw [hl]; show (if 1 ≤ q ∧ q ≤ 7 then (if sub x.r q = true then _ else _) else _) = _; rw [if_pos hq, hs]; rfl
      have e2 : reE c b q = plE c 4096 4160 := by unfold reE; rw [hl]; show (if 1 ≤ q ∧ q ≤ 7 then (if sub x.r q = true then _ else _) else _) = _; rw [if_pos hq, hs]; rfl
      have e3 : reS c b q = plS c 4096 4160 q x.a := by unfold reS; rw [hl]; show (if 1 ≤ q ∧ q ≤ 7 then (if sub x.r q = true then _ else _) else _) = _; rw [if_pos hq, hs]; rfl
      rw [e1, e2, e3]
      rw [hs] at HS
      have HV := hid fun (w0 : World) (h0 : Kt w0 a o ob s sb c) => k_give_s h0 (x := x.a) (r := q) hx.2.2 hq
      clear h g1 g2 g3 g4 e1 e2 e3 hl b0 b1 hx hxr hs hq
      generalize plV c 4096 4160 q = v at *
      generalize plE c 4096 4160 = ee at *
      obtain ⟨xs, xr, xn, xa⟩ := x
      dsimp only at HG HS HV ⊢
      generalize plS c 4096 4160 q xa = c' at *
      go_enter Tryd.func17, Tryd.ntmps17
      go_wp2_with fail
      refine HG.out.mono ?_
      rintro e w1 ⟨rfl, h1, f1⟩
      have HBn : Hid (¬ (w1.heap.size = a ∨ w1.heap.size = sb)) := fun e => by have := h1.lta; have := h1.shs.ltb; omega
      have F1 := hid f1
      have P1 := hid (Hb.new w1 65 xa xr xn)
      have H1 := hid (h1.kept ((Fr.refl _ _).alloc (.cells #[.int .i64 xa, .int .i64 xr, .int .i64 xn] 65)))
      clear f1 HG h1 HH
      have c0 := P1.out.c0
      have c1 := P1.out.c1
      have c2 := P1.out.c2
      go_wp2_with fail
      refine (HS.out _).mono ?_
      rintro e w2 ⟨rfl, f2⟩
      have H2 := hid (H1.out.kept f2)
      have F2 := hid ((F1.out.alloc _).trans f2)
      have P2 := hid (P1.out.carry f2 id)
      clear f2 HS P1 F1 H1 c0 c1 c2
      have c0 := P2.out.c0
      have c3 := H2.out.c3
      go_wp2_with fail
      generalize w1.heap.size = B at *
      go_region_held3 (fun w' => w'.cell? ⟨B, 0, none⟩ = some (.int .i64 xa) ∧ w'.cell? ⟨a, 3, none⟩ = some (.pointer (some ⟨s, 0, none⟩))) (first | exact ⟨by assumption, by assumption⟩ | go_keep) (first | (go_at_call 26; refine (HV.out _ (H2.out.kept (Fr.refl _ _).drew)).mono ?_; rintro e w3 ⟨rfl, h3, f3⟩; have H3 := hid h3; have c33 := h3.c3; have c03 := ((P2.out.carry (Fr.refl (fun _ => False) _).drew id).carry f3 HBn.out).c0; have F3 := hid (((F2.out.drew).mono (S' := fun i => i = a ∨ i = sb) fun _ _ e => e.elim).trans f3); clear h3 f3))
      go_wp2
      go_ret2
      exact ⟨by simp, H3.out, F3.out⟩
end
end Go.Proofs.YtcleheapfgapaaaDoor
