/-
  What the calls of package caps do: whose bits these are (good, Find).
  What the calls of package caps do: Find.
-/
import Derived.Test.YtioplfbkfokkfaaGreatDoorKaCallsA
import Derived.Test.YtioplfbkfokkfaaGreatDoorKhCalls
import Derived.Deep.RegionHeld3
namespace Go.Proofs.YtioplfbkfokkfaaGreatDoor.Ka
open Go.RowKit

def goA (c : Ct) (b : Int) : Int := ((look c b).map Sl.a).getD 0
def goR (c : Ct) (b : Int) : Int := ((look c b).map Sl.r).getD 0
def goN (c : Ct) (b : Int) : Int := ((look c b).map Sl.n).getD 0
def goE (c : Ct) (b : Int) : Int := if (look c b).isSome then 0 else 5
theorem go_none {c : Ct} {b : Int} (h : look c b = none) : goA c b = 0 ∧ goR c b = 0 ∧ goN c b = 0 ∧ goE c b = 5 := by
  unfold goA goR goN goE; rw [h]; exact ⟨rfl, rfl, rfl, rfl⟩
theorem go_slot {c : Ct} (hc : c.Ok) {b : Int} (hb : HB b) (h : c.T = unT b ∧ hR c.L (unS b) = unR b ∧ hN c.L (unS b) = unN b) : goA c b = hA c.L (unS b) ∧ goR c b = hR c.L (unS b) ∧ goN c b = hN c.L (unS b) ∧ goE c b = 0 := by
  have e := look_slot hc hb
  rw [if_pos h] at e
  have hn : sAt c.L (unS b) ≠ none := fun h2 => by
    have h3 := h.2.2
    unfold hN at h3
    rw [h2] at h3
    have := (un_yes hb).2.2.2.1
    have hk : HB b := hb
    unfold HB KR at hk
    simp at h3
    omega
  unfold goA goR goN goE hA hR hN
  rw [e]
  cases hs : sAt c.L (unS b) with
  | none => exact (hn hs).elim
  | some x => exact ⟨rfl, rfl, rfl, rfl⟩
theorem put3 {w w2 : World} {R : Nat} (hR : w.heap.size = R) (f : Fr (fun k => R ≤ k) w w2) (x y z : Value) : Fr (fun _ => False) w (((w2.setCell ⟨R, 0, none⟩ x).setCell ⟨R, 1, none⟩ y).setCell ⟨R, 2, none⟩ z) := by
  subst hR
  exact (((Fr.setCell f (p := ⟨w.heap.size, 0, none⟩) (Nat.le_refl _) _).setCell (p := ⟨w.heap.size, 1, none⟩) (Nat.le_refl _) _).setCell (p := ⟨w.heap.size, 2, none⟩) (Nat.le_refl _) _).new
set_option maxRecDepth 20000 in
theorem k_good {w : World} {a o ob s sb : Nat} {c : Ct} (h : Kt w a o ob s sb c) {b : Int} (b0 : 0 ≤ b) (b1 : b ≤ 18446744073709551615) : Calls Tryz.prog 83 #[.pointer (some ⟨a, 0, none⟩), .int .u64 b] w fun e w' => e = .returned (.tuple #[.agg #[.int .i64 (goA c b), .int .i64 (goR c b), .int .i64 (goN c b)], .int .i64 (goE c b)]) ∧ Fr (fun _ => False) w w' := by
  have HU := hid fun w => h_unpack b0 b1 w
  by_cases hb : HB b
  case neg =>
    have HE := hid (go_none (look_bad h.ok hb))
    obtain ⟨u1, u2, u3, u4, u5⟩ := un_no hb
    rw [u1, u2, u3, u4, u5] at HU
    clear u1 u2 u3 u4 u5 hb b0 b1
    rw [HE.out.1, HE.out.2.1, HE.out.2.2.1, HE.out.2.2.2]
    clear HE
    go_enter Tryz.func83, Tryz.ntmps83
    go_wp2_with fail
    refine (HU.out _).mono ?_
    rintro e w1 ⟨rfl, f1⟩
    have hr := (Hb.new w 127 0 0 0).carry f1 id
    have F1 := hid (((Fr.refl (fun k => w.heap.size ≤ k) w).alloc (.cells #[.int .i64 0, .int .i64 0, .int .i64 0] 127)).trans (f1.mono fun _ _ e => e.elim))
    generalize hRR : w.heap.size = R at hr F1
    clear f1 HU
    have hr2 := hr.carry ((Fr.refl (fun _ => False) _).alloc (.cells #[.int .i64 0, .int .i64 0, .int .i64 0, .int .i64 0] 188)) id
    have F2 := hid (F1.out.alloc (.cells #[.int .i64 0, .int .i64 0, .int .i64 0, .int .i64 0] 188))
    have z0 := hr2.c0
    have z1 := hr2.c1
    have z2 := hr2.c2
    have g := fun k => hr2.g k
    have HR := hid hr2
    clear hr hr2 F1
    go_wp2
    have P := HR.out.put 0 0 0
    have k0 := P.c0
    have k1 := P.c1
    have k2 := P.c2
    exact bodyPost_ret (v := .tuple #[.agg #[.int .i64 0, .int .i64 0, .int .i64 0], .int .i64 5]) (by simp [results, Tryz.results83, go_sem, k0, k1, k2]) rfl ⟨rfl, put3 hRR F2.out _ _ _⟩
  have HE1 := hid fun e => go_slot h.ok hb e
  have HE2 : Hid (¬ (c.T = unT b ∧ hR c.L (unS b) = unR b ∧ hN c.L (unS b) = unN b) → goA c b = 0 ∧ goR c b = 0 ∧ goN c b = 0 ∧ goE c b = 5) := fun hn => go_none (by rw [look_slot h.ok hb, if_neg hn])
  obtain ⟨u1, u2, u3, u4, u5⟩ := un_yes hb
  obtain ⟨k, hk, hkl⟩ : ∃ k : Nat, unS b = k ∧ k < 4160 := ⟨(unS b).toNat, by unfold HB KR at hb; omega, by unfold HB KR at hb; omega⟩
  rw [u5, hk] at HU
  rw [hk] at HE1 HE2
  clear u1 u2 u3 u4 u5 hk hb b0 b1
  generalize unT b = t at *
  generalize unR b = r at *
  generalize unN b = n at *
  generalize goA c b = gA at *
  generalize goR c b = gR at *
  generalize goN c b = gN at *
  generalize goE c b = gE at *
  have HH := hid h
  have HK : Hid (∀ w0, Kt w0 a o ob s sb c → _) := fun w0 h0 => k_key h0 k hkl
  clear h
  go_enter Tryz.func83, Tryz.ntmps83
  go_wp2_with fail
  refine (HU.out _).mono ?_
  rintro e w1 ⟨rfl, f1⟩
  have hr := (Hb.new w 127 0 0 0).carry f1 id
  have F1 := hid (((Fr.refl (fun k => w.heap.size ≤ k) w).alloc (.cells #[.int .i64 0, .int .i64 0, .int .i64 0] 127)).trans (f1.mono fun _ _ e => e.elim))
  have K1 := hid ((HH.out.kept ((Fr.refl (fun _ => False) w).alloc (.cells #[.int .i64 0, .int .i64 0, .int .i64 0] 127))).kept f1)
  generalize hRR : w.heap.size = R at hr F1
  clear f1 HU HH
  have hr2 := hid (hr.carry ((Fr.refl (fun _ => False) _).alloc (.cells #[.int .i64 t, .int .i64 k, .int .i64 r, .int .i64 n] 188)) id)
  have F2 := hid (F1.out.alloc (.cells #[.int .i64 t, .int .i64 k, .int .i64 r, .int .i64 n] 188))
  have K2 := hid (K1.out.kept ((Fr.refl (fun _ => False) _).alloc (.cells #[.int .i64 t, .int .i64 k, .int .i64 r, .int .i64 n] 188)))
  have B2 := hid (Kb.new w1 t k r n)
  have p0 := B2.out.c0
  have p1 := B2.out.c1
  have p2 := B2.out.c2
  have p3 := B2.out.c3
  clear hr F1 K1
  generalize hw2 : w1.alloc (.cells #[.int .i64 t, .int .i64 k, .int .i64 r, .int .i64 n] 188) = w2 at *
  generalize hB : w1.heap.size = B at *
  go_wp2_with fail
  clear hw2 hB
  by_cases he : c.T = t ∧ hR c.L k = r ∧ hN c.L k = n
  case neg =>
    have HE := hid (HE2.out he)
    have hcs : (t == c.T) = false ∨ ((t == c.T) = true ∧ (r == hR c.L k) = false) ∨ ((t == c.T) = true ∧ (r == hR c.L k) = true ∧ (n == hN c.L k) = false) := by
      simp only [beq_iff_eq, beq_eq_false_iff_ne]
      omega
    clear HE1 HE2 he
    generalize hR c.L k = r' at *
    generalize hN c.L k = n' at *
    rcases hcs with e1 | ⟨e1, e2⟩ | ⟨e1, e2, e3⟩
    all_goals
      go_region_held3 (fun w' => w'.cell? ⟨B, 0, none⟩ = some (.int .i64 t) ∧ w'.cell? ⟨B, 1, none⟩ = some (.int .i64 k) ∧ w'.cell? ⟨B, 2, none⟩ = some (.int .i64 r) ∧ w'.cell? ⟨B, 3, none⟩ = some (.int .i64 n)) (first | exact ⟨by assumption, by assumption, by assumption, by assumption⟩ | go_keep) (first | (go_at_call 121; refine (HK.out _ (K2.out.kept (Fr.refl _ _).drew)).mono ?_; rintro e w3 ⟨rfl, f3⟩; have B3 := hid ((B2.out.kept (Fr.refl _ _).drew).kept f3); have q0 := B3.out.c0; have q1 := B3.out.c1; have q2 := B3.out.c2; have q3 := B3.out.c3; have K3 := hid ((K2.out.kept (Fr.refl _ _).drew).kept f3); have hr3 := hid ((hr2.out.carry (Fr.refl (fun _ => False) _).drew id).carry f3 id); have F3 := hid ((F2.out.drew).trans (f3.mono fun _ _ e => e.elim)); clear f3))
      have z0 := hr3.out.c0
      have z1 := hr3.out.c1
      have z2 := hr3.out.c2
      have g := fun k => hr3.out.g k
      go_wp2
      have P := hr3.out.put 0 0 0
      have k0 := P.c0
      have k1 := P.c1
      have k2 := P.c2
      exact bodyPost_ret (v := .tuple #[.agg #[.int .i64 0, .int .i64 0, .int .i64 0], .int .i64 5]) (by simp [results, Tryz.results83, go_sem, k0, k1, k2]) rfl ⟨by rw [HE.out.1, HE.out.2.1, HE.out.2.2.1, HE.out.2.2.2], put3 hRR F3.out _ _ _⟩
  have HE := hid (HE1.out he)
  obtain ⟨rfl, rfl, rfl⟩ := he
  clear HE1 HE2
  go_region_held3 (fun w' => w'.cell? ⟨B, 0, none⟩ = some (.int .i64 c.T) ∧ w'.cell? ⟨B, 1, none⟩ = some (.int .i64 k) ∧ w'.cell? ⟨B, 2, none⟩ = some (.int .i64 (hR c.L k)) ∧ w'.cell? ⟨B, 3, none⟩ = some (.int .i64 (hN c.L k))) (first | exact ⟨by assumption, by assumption, by assumption, by assumption⟩ | go_keep) (first | (go_at_call 121; refine (HK.out _ (K2.out.kept (Fr.refl _ _).drew)).mono ?_; rintro e w3 ⟨rfl, f3⟩; have B3 := hid ((B2.out.kept (Fr.refl _ _).drew).kept f3); have q0 := B3.out.c0; have q1 := B3.out.c1; have q2 := B3.out.c2; have q3 := B3.out.c3; have K3 := hid ((K2.out.kept (Fr.refl _ _).drew).kept f3); have hr3 := hid ((hr2.out.carry (Fr.refl (fun _ => False) _).drew id).carry f3 id); have F3 := hid ((F2.out.drew).trans (f3.mono fun _ _ e => e.elim)); clear f3))
  have z0 := hr3.out.c0
  have z1 := hr3.out.c1
  have z2 := hr3.out.c2
  have g := fun k => hr3.out.g k
  have x0 := K3.out.ca k hkl
  have x1 := K3.out.cr k hkl
  have x2 := K3.out.cn k hkl
  go_wp2_with fail
  go_region
  go_wp2
  have P := hr3.out.put (hA c.L k) (hR c.L k) (hN c.L k)
  have k0 := P.c0
  have k1 := P.c1
  have k2 := P.c2
  exact bodyPost_ret (v := .tuple #[.agg #[.int .i64 (hA c.L k), .int .i64 (hR c.L k), .int .i64 (hN c.L k)], .int .i64 0]) (by simp [results, Tryz.results83, go_sem, k0, k1, k2]) rfl ⟨by rw [HE.out.1, HE.out.2.1, HE.out.2.2.1, HE.out.2.2.2], (put3 hRR F3.out _ _ _).drew⟩
theorem and_not_small (x : BitVec 64) (p : Nat) (hp : p < 8) (h : (x &&& ~~~(BitVec.ofNat 64 p)) = 0#64) : x.toNat < 8 := by
  have e : x.toNat = x.toNat % 2 ^ 3 := by
    apply Nat.eq_of_testBit_eq
    intro i
    rw [Nat.testBit_mod_two_pow]
    by_cases hi : i < 3
    · simp [hi]
    · have h1 : (x &&& ~~~(BitVec.ofNat 64 p)).getLsbD i = false := by rw [h]; simp
      rw [BitVec.getLsbD_and, BitVec.getLsbD_not, BitVec.getLsbD_ofNat] at h1
      have h2 : p.testBit i = false := Nat.testBit_lt_two_pow (Nat.lt_of_lt_of_le hp (by rw [show 8 = 2 ^ 3 from rfl]; exact Nat.pow_le_pow_right (by omega) (by omega)))
      rw [h2] at h1
      simp only [hi, decide_false, Bool.false_and]
      rw [BitVec.testBit_toNat]
      by_cases h64 : i < 64
      · simpa [h64] using h1
      · exact BitVec.getLsbD_of_ge _ _ (by omega)
  omega
theorem small_sub : ∀ p q : Fin 8, (Go.bits .andNot .i64 ((q.val : Nat) : Int) ((p.val : Nat) : Int) == 0) = sub ((p.val : Nat) : Int) ((q.val : Nat) : Int) := by decide +kernel
theorem andNot_sub {p q : Int} (hp : 1 ≤ p ∧ p ≤ 7) (hq : -9223372036854775808 ≤ q ∧ q ≤ 9223372036854775807) : (Go.bits .andNot .i64 q p == 0) = decide ((0 ≤ q ∧ q ≤ 7) ∧ sub p q = true) := by
  obtain ⟨p', rfl, hp'⟩ : ∃ p' : Nat, p = p' ∧ p' < 8 := ⟨p.toNat, by omega, by omega⟩
  by_cases h : 0 ≤ q ∧ q ≤ 7
  · obtain ⟨q', rfl, hq'⟩ : ∃ q' : Nat, q = q' ∧ q' < 8 := ⟨q.toNat, by omega, by omega⟩
    have := small_sub ⟨p', hp'⟩ ⟨q', hq'⟩
    rw [this]
    simp [h]
  · rw [decide_eq_false fun h2 => h h2.1, beq_eq_false_iff_ne]
    intro e
    have e1 : Go.bits .andNot .i64 q (p' : Int) = IntKind.i64.wrap ((BitVec.ofInt 64 q &&& ~~~(BitVec.ofInt 64 (p' : Int))).toNat : Int) := rfl
    rw [e1, IntKind.wrap_i64] at e
    have h1 := (BitVec.ofInt 64 q &&& ~~~(BitVec.ofInt 64 (p' : Int))).isLt
    have h2 : (BitVec.ofInt 64 q &&& ~~~(BitVec.ofInt 64 (p' : Int))).toNat = 0 := by omega
    have h3 := and_not_small (BitVec.ofInt 64 q) p' hp' (by
      apply BitVec.eq_of_toNat_eq
      rw [BitVec.ofInt_natCast] at h2
      simpa using h2)
    rw [BitVec.toNat_ofInt] at h3
    omega
end Go.Proofs.YtioplfbkfokkfaaGreatDoor.Ka

namespace Go.Proofs.YtioplfbkfokkfaaGreatDoor.Ka
open Go.RowKit

theorem go_some {c : Ct} {b : Int} {x : Sl} (h : look c b = some x) : goA c b = x.a ∧ goR c b = x.r ∧ goN c b = x.n ∧ goE c b = 0 := by
  unfold goA goR goN goE; rw [h]; exact ⟨rfl, rfl, rfl, rfl⟩
section
variable {w : World} {a o ob s sb : Nat} {c : Ct}
theorem Kt.good (h : Kt w a o ob s sb c) {b : Int} (b0 : 0 ≤ b) (b1 : b ≤ 18446744073709551615) : Calls Tryz.prog 83 #[.pointer (some ⟨a, 0, none⟩), .int .u64 b] w fun e w' => e = .returned (.tuple #[.agg #[.int .i64 (goA c b), .int .i64 (goR c b), .int .i64 (goN c b)], .int .i64 (goE c b)]) ∧ Kt w' a o ob s sb c ∧ Fr (fun _ => False) w w' :=
  (k_good h b0 b1).mono fun _ _ ⟨he, f⟩ => ⟨he, h.kept f, f⟩
set_option maxRecDepth 20000 in
theorem k_find (h : Kt w a o ob s sb c) {b : Int} (b0 : 0 ≤ b) (b1 : b ≤ 18446744073709551615) {q : Int} (hq : -9223372036854775808 ≤ q ∧ q ≤ 9223372036854775807) : Calls Tryz.prog 86 #[.pointer (some ⟨a, 0, none⟩), .int .u64 b, .int .i64 q] w fun e w' => e = .returned (.tuple #[.int .i64 (fiV c b q), .int .i64 (fiE c b q)]) ∧ Fr (fun _ => False) w w' := by
  have HG := hid (h.good b0 b1)
  cases hl : look c b with
  | none =>
    have e1 : fiV c b q = 0 := by unfold fiV; rw [hl]
    have e2 : fiE c b q = 5 := by unfold fiE; rw [hl]
    obtain ⟨g1, g2, g3, g4⟩ := go_none hl
    rw [g1, g2, g3, g4] at HG
    rw [e1, e2]
    clear h g1 g2 g3 g4 e1 e2 hl b0 b1 hq
    go_enter Tryz.func86, Tryz.ntmps86
    go_wp2_with fail
    refine HG.out.mono ?_
    rintro e w1 ⟨rfl, _, f1⟩
    have F1 := hid f1
    clear f1 HG
    go_wp2
    go_ret2
    exact ⟨by simp, F1.out.alloc _⟩
  | some x =>
    have hx := h.ok.kr x (look_mem hl).1
    have HH := hid fun w => k_has x.a x.r x.n q w
    rw [andNot_sub (by have := hx.1; unfold KR at this; omega) hq] at HH
    obtain ⟨g1, g2, g3, g4⟩ := go_some hl
    rw [g1, g2, g3, g4] at HG
    have e1 : fiV c b q = if fiOk x q then x.a else 0 := by unfold fiV; rw [hl]
    have e2 : fiE c b q = if fiOk x q then 0 else 5 := by unfold fiE; rw [hl]
    rw [e1, e2]
    clear h g1 g2 g3 g4 e1 e2 hl b0 b1 hq hx
    obtain ⟨xs, xr, xn, xa⟩ := x
    dsimp only at HG HH ⊢
    by_cases hf : fiOk ⟨xs, xr, xn, xa⟩ q
    · rw [decide_eq_true hf] at HH
      rw [if_pos hf, if_pos hf]
      clear hf
      go_enter Tryz.func86, Tryz.ntmps86
      go_wp2_with fail
      refine HG.out.mono ?_
      rintro e w1 ⟨rfl, _, f1⟩
      have F1 := hid f1
      have P1 := hid (Hb.new w1 127 xa xr xn)
      clear f1 HG
      have c0 := P1.out.c0
      have c1 := P1.out.c1
      have c2 := P1.out.c2
      go_wp2_with fail
      refine (HH.out _).mono ?_
      rintro e w2 ⟨rfl, f2⟩
      have P2 := hid (P1.out.carry f2 id)
      have F2 := hid ((F1.out.alloc _).trans f2)
      clear f2 HH P1 F1 c0 c1 c2
      have c0 := P2.out.c0
      go_wp2
      go_ret2
      exact ⟨by simp, F2.out⟩
    · rw [decide_eq_false hf] at HH
      rw [if_neg hf, if_neg hf]
      clear hf
      go_enter Tryz.func86, Tryz.ntmps86
      go_wp2_with fail
      refine HG.out.mono ?_
      rintro e w1 ⟨rfl, _, f1⟩
      have F1 := hid f1
      have P1 := hid (Hb.new w1 127 xa xr xn)
      clear f1 HG
      have c0 := P1.out.c0
      have c1 := P1.out.c1
      have c2 := P1.out.c2
      go_wp2_with fail
      refine (HH.out _).mono ?_
      rintro e w2 ⟨rfl, f2⟩
      have F2 := hid ((F1.out.alloc _).trans f2)
      clear f2 HH P1 F1 c0 c1 c2
      go_wp2
      go_ret2
      exact ⟨by simp, F2.out⟩
end
end Go.Proofs.YtioplfbkfokkfaaGreatDoor.Ka
