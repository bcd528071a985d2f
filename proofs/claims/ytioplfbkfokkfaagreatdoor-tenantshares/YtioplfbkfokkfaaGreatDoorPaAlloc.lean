/-
  What the calls of package page do: where a page may lie, what it tells, the nil page.
  What the calls of package page do: Alloc (a backward goto).
  What the calls of package chain do: All (a backward goto).
  What the calls of package page do: Alloc, by its four ways.
-/
import Derived.Test.YtioplfbkfokkfaaGreatDoorPaProg
import Derived.ScopeJumps
namespace Go.Proofs.YtioplfbkfokkfaaGreatDoor
open Go.RowKit
open An

section
variable {w0 w : World} {Z0 Z U : Nat → Prop} {a p rd wt sa sb : Nat} {bs : List UInt8} {ss : List Sp} {g : Pg}
set_option maxRecDepth 20000 in
set_option maxHeartbeats 1000000 in
theorem l_lies (h : Am 104 a bs ss w Z) {x : Int} (hi : I64 x) : Calls Tryz.prog 202 #[.pointer (some ⟨a, 0, none⟩), .int .i64 x] w fun e w' => e = .returned (.bool (decide (Fits bs.length x))) ∧ w' = w := by
  have H1 := hid (am_size h)
  have hl := h.le
  obtain ⟨i1, i2⟩ := hi
  clear h
  generalize bs.length = n at *
  by_cases h0 : 0 ≤ x
  case neg =>
    have he : Hid (decide (Fits n x) = false) := decide_eq_false fun m => h0 m.1
    generalize decide (Fits n x) = v at *
    go_enter Tryz.func202, Tryz.ntmps202
    go_wp2
    go_ret
    exact ⟨by rw [he.out]; simp, rfl⟩
  have ht := Int.tmod_eq_emod_of_nonneg (b := 512) h0
  by_cases h1 : x % 512 = 0
  case neg =>
    have he : Hid (decide (Fits n x) = false) := decide_eq_false fun m => h1 m.2.1
    generalize decide (Fits n x) = v at *
    have hb : ((x % 512) == 0) = false := by simp; omega
    go_enter Tryz.func202, Tryz.ntmps202
    go_wp2
    go_ret
    exact ⟨by rw [he.out]; simp, rfl⟩
  have hw : IntKind.i64.wrap ((n : Int) - x) = n - x := wrapI _ (by omega) (by omega)
  by_cases h3 : (512 : Int) ≤ n - x
  · have he : Hid (decide (Fits n x) = true) := decide_eq_true ⟨h0, h1, by omega⟩
    generalize decide (Fits n x) = v at *
    go_enter Tryz.func202, Tryz.ntmps202
    go_wp2_with fail
    refine H1.out.mono ?_
    rintro e w1 ⟨rfl, hw⟩
    obtain rfl := hw.symm
    go_wp2
    go_ret
    exact ⟨by rw [he.out]; simp, rfl⟩
  · have he : Hid (decide (Fits n x) = false) := decide_eq_false fun m => h3 (by omega)
    generalize decide (Fits n x) = v at *
    go_enter Tryz.func202, Tryz.ntmps202
    go_wp2_with fail
    refine H1.out.mono ?_
    rintro e w1 ⟨rfl, hw⟩
    obtain rfl := hw.symm
    go_wp2
    go_ret
    exact ⟨by rw [he.out]; simp; omega, rfl⟩
set_option maxRecDepth 20000 in
theorem l_full (ok : g.Ok bs) (h : Pp w0 Z0 w p a rd wt sa sb Z bs ss g) : Calls Tryz.prog 189 #[.pointer (some ⟨p, 0, none⟩)] w fun e w' => e = .returned (.bool (decide g.Full)) ∧ w' = w := by
  have H1 := hid (Sf.s_free h.sh)
  have c6 := h.pw.c6
  have hu := hs_used ok
  clear h
  by_cases hf : g.Full
  · have he : Hid (decide g.Full = true) := decide_eq_true hf
    have h0 : Sf.frees (hs g) = 0 := by unfold Pg.Full at hf; omega
    rw [h0] at H1
    generalize decide g.Full = v at *
    clear hf ok hu h0
    go_enter Tryz.func189, Tryz.ntmps189
    go_wp2_with fail
    refine H1.out.mono ?_
    rintro e w1 ⟨rfl, hw⟩
    obtain rfl := hw.symm
    go_wp2
    go_ret
    exact ⟨by rw [he.out]; simp, rfl⟩
  · have he : Hid (decide g.Full = false) := decide_eq_false hf
    have h0 : Sf.frees (hs g) ≠ 0 := fun e => hf (by unfold Pg.Full; omega)
    generalize decide g.Full = v at *
    generalize Sf.frees (hs g) = m at *
    have h1 : ((m : Int) == 0) = false := by simp; omega
    clear hf ok hu h0
    go_enter Tryz.func189, Tryz.ntmps189
    go_wp2_with fail
    refine H1.out.mono ?_
    rintro e w1 ⟨rfl, hw⟩
    obtain rfl := hw.symm
    go_wp2
    go_ret
    exact ⟨by rw [he.out]; simp, rfl⟩
set_option maxRecDepth 20000 in
set_option maxHeartbeats 1000000 in
theorem l_used (ok : g.Ok bs) (h : Pp w0 Z0 w p a rd wt sa sb Z bs ss g) : Calls Tryz.prog 192 #[.pointer (some ⟨p, 0, none⟩)] w fun e w' => e = .returned (.int .i64 (g.used : Int)) ∧ Fr (fun _ => False) w w' := by
  have c6 := h.pw.c6
  have hu := hs_used ok
  have hp := (kind_facts g.kind ok.kind).2.1.2
  have HS := hid h.sh
  have hl := hs_length g
  have H1 : Hid (∀ w1, Fr (fun _ => False) w w1 → Calls Tryz.prog 223 #[.pointer (some ⟨sa, 0, none⟩)] w1 fun e w' => e = .returned (.int .i64 ((hs g).length : Int)) ∧ w' = w1) := fun w1 f => Sf.s_size (sh_on h.sh f id id)
  have H2 : Hid (∀ w1, Fr (fun _ => False) w w1 → Calls Tryz.prog 222 #[.pointer (some ⟨sa, 0, none⟩)] w1 fun e w' => e = .returned (.int .i64 (Sf.frees (hs g) : Int)) ∧ w' = w1) := fun w1 f => Sf.s_free (sh_on h.sh f id id)
  clear h ok
  generalize hs g = l at *
  generalize pp g.kind = n at *
  subst hl
  have hr : IntKind.i64.wrap ((l.length : Int) - (Sf.frees l : Int)) = (g.used : Int) := by rw [wrapI _ (by omega) (by omega)]; omega
  generalize g.used = u at *
  generalize Sf.frees l = m at *
  generalize l.length = n at *
  clear hu hp HS
  go_enter Tryz.func192, Tryz.ntmps192
  go_wp2_with fail
  go_region_held3 (fun w' => w'.cell? ⟨p, 6, none⟩ = some (.pointer (some ⟨sa, 0, none⟩))) (first | exact (by assumption) | go_keep) (first | (go_at_call 223; refine (H1.out _ (Fr.refl _ _).drew).mono ?_; rintro e w1 ⟨rfl, hw⟩; obtain rfl := hw.symm; clear hw) | (go_at_call 222; refine (H2.out _ (Fr.refl _ _).drew).mono ?_; rintro e w1 ⟨rfl, hw⟩; obtain rfl := hw.symm; clear hw))
  all_goals
    go_wp2
    go_ret
    exact ⟨by simp, (Fr.refl _ _).drew⟩
set_option maxRecDepth 20000 in
theorem l_has (h : Pp w0 Z0 w p a rd wt sa sb Z bs ss g) (k : Int) : Calls Tryz.prog 221 #[.pointer (some ⟨p, 0, none⟩), .int .i64 k] w fun e w' => e = .returned (.bool (decide (g.May k))) ∧ Fr (fun _ => False) w w' := by
  have H1 := hid (Sf.s_taken h.sh k)
  rw [hs_isT] at H1
  have c6 := h.pw.c6
  clear h
  generalize decide (g.May k) = v at *
  go_enter Tryz.func221, Tryz.ntmps221
  go_wp2_with fail
  refine H1.out.mono ?_
  rintro e w1 ⟨rfl, m, rfl⟩
  go_wp2
  go_ret
  exact ⟨by simp, (Fr.refl _ _).drewN m⟩
set_option maxRecDepth 20000 in
theorem x_has_nil (k : Int) (w : World) : Calls Tryz.prog 221 #[.pointer none, .int .i64 k] w fun e w' => e = .returned (.bool false) ∧ Fr (fun _ => False) w w' := by
  go_enter Tryz.func221, Tryz.ntmps221
  go_wp2
  go_ret
  exact ⟨by simp, Fr.refl _ _⟩
end
end Go.Proofs.YtioplfbkfokkfaaGreatDoor

namespace Go.Proofs.YtioplfbkfokkfaaGreatDoor
open Go.RowKit
open An

section
variable {w0 w : World} {Z0 Z U : Nat → Prop} {a p rd wt sa sb : Nat} {bs : List UInt8} {ss : List Sp} {g : Pg}
theorem hs_popR {x : Nat} {R : List Nat} (ok : g.Ok bs) (e : g.R = x :: R) : hs ⟨g.base, g.kind, g.fresh, R, g.D⟩ = (hs g).set x true := hs_set rfl fun i hi => by
  have hnd := ok.nd
  have hlt := ok.lt x (by rw [e]; exact List.mem_append_left _ (List.mem_cons_self ..))
  rw [e, List.cons_append, List.nodup_cons, List.mem_append, not_or] at hnd
  show (i < g.fresh ∧ i ∉ R ∧ i ∉ g.D) ↔ _
  by_cases hi : i = x
  · subst hi
    rw [if_pos rfl]
    exact ⟨fun _ => rfl, fun _ => ⟨hlt, hnd.1⟩⟩
  · rw [if_neg hi]
    show _ ↔ (i < g.fresh ∧ i ∉ g.R ∧ i ∉ g.D)
    rw [e, List.mem_cons, not_or]
    exact ⟨fun ⟨a, b, c⟩ => ⟨a, ⟨hi, b⟩, c⟩, fun ⟨a, b, c⟩ => ⟨a, b.2, c⟩⟩
theorem hs_begin (e0 : g.R = []) (e : g.D = []) : hs ⟨g.base, g.kind, g.fresh + 1, [], []⟩ = (hs g).set g.fresh true := hs_set rfl fun i hi => by
  show (i < g.fresh + 1 ∧ i ∉ ([] : List Nat) ∧ i ∉ ([] : List Nat)) ↔ _
  by_cases hi : i = g.fresh
  · subst hi
    rw [if_pos rfl]
    exact ⟨fun _ => rfl, fun _ => ⟨by omega, by simp, by simp⟩⟩
  · rw [if_neg hi]
    show _ ↔ (i < g.fresh ∧ i ∉ g.R ∧ i ∉ g.D)
    rw [e, e0]
    exact ⟨fun ⟨a, b, c⟩ => ⟨by omega, b, c⟩, fun ⟨a, b, c⟩ => ⟨by omega, b, c⟩⟩
/-- A block that isn't had is taken from the shelf. -/
theorem l_takeAt {kr kw : Ck} {base kind fresh : Int} {x : Nat} (hx : x < pp g.kind) (hn : ¬ g.Had x) (h : Ppr w0 Z0 w p a rd wt sa sb Z bs ss base kind fresh (hs g) kr kw) : Calls Tryz.prog 198 #[.pointer (some ⟨sa, 0, none⟩), .int .i64 x] w fun e w' => e = .returned (.int .i64 0) ∧ Ppr w0 Z0 w' p a rd wt sa sb Z bs ss base kind fresh ((hs g).set x true) kr kw := by
  have hN : Sf.hasN (hs g) (x : Int) = true := by rw [hs_hasN]; exact decide_eq_true ⟨by omega, by omega⟩
  have hT : Sf.isT (hs g) (x : Int) = false := by rw [hs_isT]; exact decide_eq_false fun m => hn m.2
  refine (Sf.s_takeAt h.sh (x : Int)).mono fun e w' ⟨he, q, f⟩ => ⟨by rw [he, Sf.taE_zero.2 ⟨hN, hT⟩], h.shelf ?_ f⟩
  unfold Sf.taS at q
  rw [if_pos hN] at q
  exact q
set_option maxRecDepth 20000 in
set_option maxHeartbeats 2000000 in
theorem l_pop (ok : g.Ok bs) (h : Pp w0 Z0 w p a rd wt sa sb Z bs ss g) (hk : ss.length < 1000000) {x : Nat} {R : List Nat} (e : g.R = x :: R) : Calls Tryz.prog 236 #[.pointer (some ⟨p, 0, none⟩)] w fun e w' => e = .returned (.tuple #[.int .i64 x, .int .i64 0]) ∧ ∃ Z', Pp w0 Z0 w' p a rd wt sa sb Z' (over bs (g.pos x) (leb 0 8)) (ss ++ [((g.pos x : Int), (8 : Int), false)] ++ [((g.pos x : Int), (8 : Int), true)]) ⟨g.base, g.kind, g.fresh, R, g.D⟩ := by
  have hxm : x ∈ g.R := by rw [e]; exact List.mem_cons_self ..
  have hx : x < pp g.kind := ok.lr x hxm
  have hxf : x < g.fresh := ok.lt x (List.mem_append_left _ hxm)
  have hnh : ¬ g.Had x := fun m => m.2.1 hxm
  have hrep := ok.r
  rw [e] at hrep
  have hlk : lnk R ≤ pp g.kind := lnk_lt fun y hy => ok.lr y (by rw [e]; exact List.mem_cons_of_mem _ hy)
  have hck : (g.ck (lnk g.R)).Ok bs.length := ok.ck (by rw [e]; exact hx)
  have H2 : Hid (∀ w1, Pp w0 Z0 w1 p a rd wt sa sb Z bs ss g → Calls Tryz.prog 244 #[.pointer (some ⟨rd, 0, none⟩)] w1 fun e w' => e = .returned (.tuple #[.int .i64 x, .int .i64 0]) ∧ ∃ Z', Ppr w0 Z0 w' p a rd wt sa sb Z' (over bs (g.pos x) (leb 0 8)) (ss ++ [((g.pos x : Int), (8 : Int), false)] ++ [((g.pos x : Int), (8 : Int), true)]) g.base g.kind g.fresh (hs g) (g.ck (lnk R)) (g.ck (lnk g.D))) := fun w1 h1 => by
    have h0 : (g.ck (lnk g.R)).hd = x + 1 := by rw [e]; rfl
    have hw : wd bs ((g.ck (lnk g.R)).pos x) ≤ (g.ck (lnk g.R)).per := by
      show wd bs ((g.ck 0).pos x) ≤ _
      rw [hrep.1]; exact hlk
    have he : (g.ck (lnk g.R)).to (wd bs ((g.ck (lnk g.R)).pos x)) = g.ck (lnk R) := by
      show (g.ck (lnk g.R)).to (wd bs ((g.ck 0).pos x)) = _
      rw [hrep.1]; rfl
    refine (p_pop_ok h1.qr h1.am hck h1.z2 hk h0 hw).mono fun e w' ⟨hE, Z', hL⟩ => ⟨hE, Z', ?_⟩
    rw [he] at hL
    exact h1.ready hL
  have H3 : Hid (∀ w1 Z1 bs1 ss1, Ppr w0 Z0 w1 p a rd wt sa sb Z1 bs1 ss1 g.base g.kind g.fresh (hs g) (g.ck (lnk R)) (g.ck (lnk g.D)) → Calls Tryz.prog 198 #[.pointer (some ⟨sa, 0, none⟩), .int .i64 x] w1 fun e w' => e = .returned (.int .i64 0) ∧ Pp w0 Z0 w' p a rd wt sa sb Z1 bs1 ss1 ⟨g.base, g.kind, g.fresh, R, g.D⟩) := fun w1 Z1 bs1 ss1 h1 => (l_takeAt hx hnh h1).mono fun e' w' ⟨he, k⟩ => ⟨he, by rw [← hs_popR ok e] at k; exact k⟩
  have HP := hid h
  have c0 := h.pw.c0
  have hxf' : ¬ (g.fresh : Int) ≤ x := by omega
  clear h ok hrep hlk hck hk e hxm hx hxf hnh
  go_enter Tryz.func236, Tryz.ntmps236
  go_wp2_with fail
  refine (H2.out _ HP.out).mono ?_
  rintro e w2 ⟨rfl, Z2, h2⟩
  have HP2 := hid h2
  have d5 := h2.pw.c5
  have d6 := h2.pw.c6
  clear h2 HP H2 c0
  go_wp2_with fail
  refine (H3.out _ _ _ _ HP2.out).mono ?_
  rintro e w3 ⟨rfl, h3⟩
  have HP3 := hid h3
  clear h3 HP2 H3 d5 d6
  go_wp2
  go_ret2
  exact ⟨by simp, Z2, HP3.out⟩
set_option maxRecDepth 20000 in
set_option maxHeartbeats 2000000 in
theorem l_begin (ok : g.Ok bs) (h : Pp w0 Z0 w p a rd wt sa sb Z bs ss g) (hf : ¬ g.Full) (e0 : g.R = []) (e : g.D = []) : Calls Tryz.prog 238 #[.pointer (some ⟨p, 0, none⟩)] w fun e w' => e = .returned (.tuple #[.int .i64 g.fresh, .int .i64 0]) ∧ Pp w0 Z0 w' p a rd wt sa sb Z bs ss ⟨g.base, g.kind, g.fresh + 1, [], []⟩ := by
  have hx : g.fresh < pp g.kind := ok.room hf ⟨e0, e⟩
  have hp32 := (kind_facts g.kind ok.kind).2.1.2
  have hnh : ¬ g.Had g.fresh := fun m => Nat.lt_irrefl _ m.1
  have H3 : Hid (∀ w1, Pp w0 Z0 w1 p a rd wt sa sb Z bs ss g → Calls Tryz.prog 198 #[.pointer (some ⟨sa, 0, none⟩), .int .i64 g.fresh] w1 fun e w' => e = .returned (.int .i64 0) ∧ Ppr w0 Z0 w' p a rd wt sa sb Z bs ss g.base g.kind g.fresh (hs ⟨g.base, g.kind, g.fresh + 1, [], []⟩) (g.ck 0) (g.ck 0)) := fun w1 h1 => (l_takeAt hx hnh h1).mono fun e' w' ⟨he, k⟩ => ⟨he, by rw [← hs_begin e0 e, e0, e] at k; exact k⟩
  have HP := hid h
  have c5 := h.pw.c5
  have c6 := h.pw.c6
  have hwr := wrapI ((g.fresh : Int) + 1) (by omega) (by omega)
  have HE : Hid (((g.fresh + 1 : Nat) : Int) = (g.fresh : Int) + 1) := by show _ = _; omega
  clear h ok e0 e hf hnh hx hp32
  go_enter Tryz.func238, Tryz.ntmps238
  go_wp2_with fail
  refine (H3.out _ HP.out).mono ?_
  rintro e w3 ⟨rfl, h3⟩
  have d5 := h3.pw.c5
  have fz := h3.pw.fz
  have HP4 := hid (h3.own (h3.pw.setFresh ((g.fresh : Int) + 1)))
  clear h3 HP H3 c5 c6
  go_wp2
  go_ret2
  refine ⟨by simp, ?_⟩
  show Ppr w0 Z0 _ p a rd wt sa sb Z bs ss g.base g.kind ((g.fresh + 1 : Nat) : Int) _ (g.ck 0) (g.ck 0)
  rw [HE.out]
  exact HP4.out
end
end Go.Proofs.YtioplfbkfokkfaaGreatDoor

namespace Go.Proofs.YtioplfbkfokkfaaGreatDoor
open Go.RowKit
open An
/-- A scope whose label is jumped back to: what stands ahead of the label, and a pass. -/
theorem wp_scope_back {P : Program} {Q : Exit → Act → World → Prop} {a : Act} {w : World} {c rest : Code} (l : Nat) (J : Act → World → Prop) (μ : Act → World → Nat) (hf : findLabel c l = some (Code.skip.seq rest))
    (pre : ∀ R : Exit → Act → World → Prop, (∀ a w, J a w → rest.wp P R a w) → c.wp P R a w)
    (pass : ∀ a w, J a w → rest.wp P (Exit.jump l (fun a' w' => J a' w' ∧ μ a' w' < μ a w) Q) a w) : (Code.scope c).wp P Q a w :=
  wp_scope_jumps l J μ hf (pre _ fun a w h => Code.wp_mono (fun e a w he => by
    cases e with
    | goto l' => exact ⟨he.1, he.2.1⟩
    | _ => exact he) (pass a w h)) fun a w h => wp_seq (wp_skip (pass a w h))
section
variable {w : World} {a c : Nat} {Z : Nat → Prop} {bs : List UInt8} {ss : List Sp} {k : Ck}
end
end Go.Proofs.YtioplfbkfokkfaaGreatDoor

namespace Go.Proofs.YtioplfbkfokkfaaGreatDoor
open Go.RowKit
open An

/-- Have the deferred ones come? -/
def cameN : Value → Nat
  | .bool true => 0
  | _ => 1
section
variable {w0 w : World} {Z0 Z U : Nat → Prop} {a p rd wt sa sb : Nat} {bs : List UInt8} {ss : List Sp} {g : Pg}
set_option maxRecDepth 20000 in
set_option maxHeartbeats 2000000 in
theorem l_alloc_full (ok : g.Ok bs) (h : Pp w0 Z0 w p a rd wt sa sb Z bs ss g) (hf : g.Full) : Calls Tryz.prog 215 #[.pointer (some ⟨p, 0, none⟩)] w fun e w' => e = .returned (.tuple #[.int .i64 0, .int .i64 10]) ∧ Pp w0 Z0 w' p a rd wt sa sb Z bs ss g := by
  have HF := hid (l_full ok h)
  rw [decide_eq_true hf] at HF
  have HP := hid h
  clear h ok hf
  go_enter Tryz.func215, Tryz.ntmps215
  go_wp2
  refine wp_scope_jumps 0 (fun _ _ => False) (fun _ _ => 0) rfl ?_ fun _ _ h => h.elim
  go_wp2_with fail
  refine HF.out.mono ?_
  rintro e w1 ⟨rfl, hw⟩
  obtain rfl := hw.symm
  clear hw
  go_wp2
  rw [jump_ret]
  go_ret2
  exact ⟨by simp, HP.out⟩
set_option maxRecDepth 20000 in
set_option maxHeartbeats 2000000 in
theorem l_alloc_R (ok : g.Ok bs) (h : Pp w0 Z0 w p a rd wt sa sb Z bs ss g) (hk : ss.length < 1000000) {x : Nat} {R : List Nat} (e : g.R = x :: R) : Calls Tryz.prog 215 #[.pointer (some ⟨p, 0, none⟩)] w fun e w' => e = .returned (.tuple #[.int .i64 x, .int .i64 0]) ∧ ∃ Z', Pp w0 Z0 w' p a rd wt sa sb Z' (over bs (g.pos x) (leb 0 8)) (ss ++ [((g.pos x : Int), (8 : Int), false)] ++ [((g.pos x : Int), (8 : Int), true)]) ⟨g.base, g.kind, g.fresh, R, g.D⟩ := by
  have HF := hid (l_full ok h)
  rw [decide_eq_false (not_full_R ok e)] at HF
  have HE : Hid (∀ w1, Pp w0 Z0 w1 p a rd wt sa sb Z bs ss g → Calls Tryz.prog 235 #[.pointer (some ⟨rd, 0, none⟩)] w1 fun e w' => e = .returned (.bool false) ∧ Fr (fun _ => False) w1 w') := fun w1 h1 => (p_empty h1.qr).mono fun e' w' ⟨he, f⟩ => ⟨by rw [he, decide_eq_false]; show lnk g.R ≠ 0; rw [e]; exact Nat.succ_ne_zero _, f⟩
  have HO : Hid (∀ w1, Pp w0 Z0 w1 p a rd wt sa sb Z bs ss g → Calls Tryz.prog 236 #[.pointer (some ⟨p, 0, none⟩)] w1 fun e w' => e = .returned (.tuple #[.int .i64 x, .int .i64 0]) ∧ ∃ Z', Pp w0 Z0 w' p a rd wt sa sb Z' (over bs (g.pos x) (leb 0 8)) (ss ++ [((g.pos x : Int), (8 : Int), false)] ++ [((g.pos x : Int), (8 : Int), true)]) ⟨g.base, g.kind, g.fresh, R, g.D⟩) := fun w1 h1 => l_pop ok h1 hk e
  have HP := hid h
  clear h ok hk e
  go_enter Tryz.func215, Tryz.ntmps215
  go_wp2
  refine wp_scope_back 0 (fun a' w' => ∃ (cm : Bool) (g1 : Pg) (u5 u6 u7 u8 u9 u10 u11 u12 u13 u14 u15 u16 u17 u18 u19 u20 u21 u22 u23 u24 u25 u26 u27 u28 u29 u30 u31 u32 u33 u34 u35 u36 u37 u38 u39 u40 u41 u42 u43 u44 u45 u46 u47 u48 u49 u50 u51 u52 u53 u54 u55 u56 u57 u58 u59 u60 u61 u62 u63 u64 : Value), Hid (Pp w0 Z0 w' p a rd wt sa sb Z bs ss g1) ∧ a' = { tmps := #[.pointer (some ⟨p, 0, none⟩), undef, .int .i64 0, .int .i64 0, .bool cm, u5, u6, u7, u8, u9, u10, u11, u12, u13, u14, u15, u16, u17, u18, u19, u20, u21, u22, u23, u24, u25, u26, u27, u28, u29, u30, u31, u32, u33, u34, u35, u36, u37, u38, u39, u40, u41, u42, u43, u44, u45, u46, u47, u48, u49, u50, u51, u52, u53, u54, u55, u56, u57, u58, u59, u60, u61, u62, u63, u64], defers := [] } ∧ g = g1) (fun a' _ => cameN (a'.tmps.getD 4 undef)) rfl ?pre ?pass
  case pre =>
    intro R hK
    go_wp2_with fail
    refine HF.out.mono ?_
    rintro e w1 ⟨rfl, hw⟩
    obtain rfl := hw.symm
    clear hw
    go_wp2
    go_step3
    rename_i K hKK
    exact hKK _ _ (hK _ _ ⟨false, g, _, _, _, _, _, _, _, _, _, _, _, _, _, _, _, _, _, _, _, _, _, _, _, _, _, _, _, _, _, _, _, _, _, _, _, _, _, _, _, _, _, _, _, _, _, _, _, _, _, _, _, _, _, _, _, _, _, _, _, _, HP, rfl, rfl⟩)
  case pass =>
    rintro a' wr ⟨cm, g1, u5, u6, u7, u8, u9, u10, u11, u12, u13, u14, u15, u16, u17, u18, u19, u20, u21, u22, u23, u24, u25, u26, u27, u28, u29, u30, u31, u32, u33, u34, u35, u36, u37, u38, u39, u40, u41, u42, u43, u44, u45, u46, u47, u48, u49, u50, u51, u52, u53, u54, u55, u56, u57, u58, u59, u60, u61, u62, u63, u64, HQ, rfl, hg⟩
    subst hg
    have c0 := HQ.out.pw.c0
    clear HF HP
    go_wp2_with fail
    refine (HE.out _ HQ.out).mono ?_
    rintro e w2 ⟨rfl, f2⟩
    have HQ2 := hid (HQ.out.kept f2)
    clear f2 HQ HE c0
    go_wp2_with fail
    refine (HO.out _ HQ2.out).mono ?_
    rintro e w3 ⟨rfl, Z3, h3⟩
    have HQ3 := hid h3
    clear h3 HQ2 HO
    go_wp2
    rw [jump_ret]
    go_ret2
    exact ⟨by simp, Z3, HQ3.out⟩
set_option maxRecDepth 20000 in
set_option maxHeartbeats 2000000 in
theorem l_alloc_F (ok : g.Ok bs) (h : Pp w0 Z0 w p a rd wt sa sb Z bs ss g) (hf : ¬ g.Full) (e0 : g.R = []) (e : g.D = []) : Calls Tryz.prog 215 #[.pointer (some ⟨p, 0, none⟩)] w fun e w' => e = .returned (.tuple #[.int .i64 g.fresh, .int .i64 0]) ∧ Pp w0 Z0 w' p a rd wt sa sb Z bs ss ⟨g.base, g.kind, g.fresh + 1, [], []⟩ := by
  have HF := hid (l_full ok h)
  rw [decide_eq_false hf] at HF
  have HE : Hid (∀ w1, Pp w0 Z0 w1 p a rd wt sa sb Z bs ss g → Calls Tryz.prog 235 #[.pointer (some ⟨rd, 0, none⟩)] w1 fun e w' => e = .returned (.bool true) ∧ Fr (fun _ => False) w1 w') := fun w1 h1 => (p_empty h1.qr).mono fun e' w' ⟨he, f⟩ => ⟨by rw [he, decide_eq_true]; show lnk g.R = 0; rw [e0]; rfl, f⟩
  have HE2 : Hid (∀ w1, Pp w0 Z0 w1 p a rd wt sa sb Z bs ss g → Calls Tryz.prog 235 #[.pointer (some ⟨wt, 0, none⟩)] w1 fun e w' => e = .returned (.bool true) ∧ Fr (fun _ => False) w1 w') := fun w1 h1 => (p_empty h1.qw).mono fun e' w' ⟨he, f⟩ => ⟨by rw [he, decide_eq_true]; show lnk g.D = 0; rw [e]; rfl, f⟩
  have HB : Hid (∀ w1, Pp w0 Z0 w1 p a rd wt sa sb Z bs ss g → Calls Tryz.prog 238 #[.pointer (some ⟨p, 0, none⟩)] w1 fun e w' => e = .returned (.tuple #[.int .i64 g.fresh, .int .i64 0]) ∧ Pp w0 Z0 w' p a rd wt sa sb Z bs ss ⟨g.base, g.kind, g.fresh + 1, [], []⟩) := fun w1 h1 => l_begin ok h1 hf e0 e
  have HP := hid h
  clear h ok hf e0 e
  go_enter Tryz.func215, Tryz.ntmps215
  go_wp2
  refine wp_scope_back 0 (fun a' w' => ∃ (cm : Bool) (g1 : Pg) (u5 u6 u7 u8 u9 u10 u11 u12 u13 u14 u15 u16 u17 u18 u19 u20 u21 u22 u23 u24 u25 u26 u27 u28 u29 u30 u31 u32 u33 u34 u35 u36 u37 u38 u39 u40 u41 u42 u43 u44 u45 u46 u47 u48 u49 u50 u51 u52 u53 u54 u55 u56 u57 u58 u59 u60 u61 u62 u63 u64 : Value), Hid (Pp w0 Z0 w' p a rd wt sa sb Z bs ss g1) ∧ a' = { tmps := #[.pointer (some ⟨p, 0, none⟩), undef, .int .i64 0, .int .i64 0, .bool cm, u5, u6, u7, u8, u9, u10, u11, u12, u13, u14, u15, u16, u17, u18, u19, u20, u21, u22, u23, u24, u25, u26, u27, u28, u29, u30, u31, u32, u33, u34, u35, u36, u37, u38, u39, u40, u41, u42, u43, u44, u45, u46, u47, u48, u49, u50, u51, u52, u53, u54, u55, u56, u57, u58, u59, u60, u61, u62, u63, u64], defers := [] } ∧ g = g1) (fun a' _ => cameN (a'.tmps.getD 4 undef)) rfl ?pre ?pass
  case pre =>
    intro R hK
    go_wp2_with fail
    refine HF.out.mono ?_
    rintro e w1 ⟨rfl, hw⟩
    obtain rfl := hw.symm
    clear hw
    go_wp2
    go_step3
    rename_i K hKK
    exact hKK _ _ (hK _ _ ⟨false, g, _, _, _, _, _, _, _, _, _, _, _, _, _, _, _, _, _, _, _, _, _, _, _, _, _, _, _, _, _, _, _, _, _, _, _, _, _, _, _, _, _, _, _, _, _, _, _, _, _, _, _, _, _, _, _, _, _, _, _, _, HP, rfl, rfl⟩)
  case pass =>
    rintro a' wr ⟨cm, g1, u5, u6, u7, u8, u9, u10, u11, u12, u13, u14, u15, u16, u17, u18, u19, u20, u21, u22, u23, u24, u25, u26, u27, u28, u29, u30, u31, u32, u33, u34, u35, u36, u37, u38, u39, u40, u41, u42, u43, u44, u45, u46, u47, u48, u49, u50, u51, u52, u53, u54, u55, u56, u57, u58, u59, u60, u61, u62, u63, u64, HQ, rfl, hg⟩
    subst hg
    have c0 := HQ.out.pw.c0
    clear HF HP
    go_wp2_with fail
    refine (HE.out _ HQ.out).mono ?_
    rintro e w2 ⟨rfl, f2⟩
    have HQ2 := hid (HQ.out.kept f2)
    have d1 := HQ2.out.pw.c1
    clear f2 HQ HE c0
    go_wp2_with fail
    refine (HE2.out _ HQ2.out).mono ?_
    rintro e w3 ⟨rfl, f3⟩
    have HQ3 := hid (HQ2.out.kept f3)
    clear f3 HQ2 HE2 d1
    go_wp2_with fail
    refine (HB.out _ HQ3.out).mono ?_
    rintro e w4 ⟨rfl, h4⟩
    have HQ4 := hid h4
    clear h4 HQ3 HB
    go_wp2
    rw [jump_ret]
    go_ret2
    exact ⟨by simp, HQ4.out⟩
set_option maxRecDepth 20000 in
set_option maxHeartbeats 4000000 in
theorem l_alloc_D (ok : g.Ok bs) (h : Pp w0 Z0 w p a rd wt sa sb Z bs ss g) (hk : ss.length < 1000000) {x : Nat} {D : List Nat} (e0 : g.R = []) (e : g.D = x :: D) : Calls Tryz.prog 215 #[.pointer (some ⟨p, 0, none⟩)] w fun e w' => e = .returned (.tuple #[.int .i64 x, .int .i64 0]) ∧ ∃ Z', Pp w0 Z0 w' p a rd wt sa sb Z' (over bs (g.pos x) (leb 0 8)) (ss ++ [((g.pos x : Int), (8 : Int), false)] ++ [((g.pos x : Int), (8 : Int), true)]) ⟨g.base, g.kind, g.fresh, D, []⟩ := by
  have HF := hid (l_full ok h)
  rw [decide_eq_false (not_full_D ok e)] at HF
  have HE : Hid (∀ w1, Pp w0 Z0 w1 p a rd wt sa sb Z bs ss g → Calls Tryz.prog 235 #[.pointer (some ⟨rd, 0, none⟩)] w1 fun e w' => e = .returned (.bool true) ∧ Fr (fun _ => False) w1 w') := fun w1 h1 => (p_empty h1.qr).mono fun e' w' ⟨he, f⟩ => ⟨by rw [he, decide_eq_true]; show lnk g.R = 0; rw [e0]; rfl, f⟩
  have HE2 : Hid (∀ w1, Pp w0 Z0 w1 p a rd wt sa sb Z bs ss g → Calls Tryz.prog 235 #[.pointer (some ⟨wt, 0, none⟩)] w1 fun e w' => e = .returned (.bool false) ∧ Fr (fun _ => False) w1 w') := fun w1 h1 => (p_empty h1.qw).mono fun e' w' ⟨he, f⟩ => ⟨by rw [he, decide_eq_false]; show lnk g.D ≠ 0; rw [e]; exact Nat.succ_ne_zero _, f⟩
  have HT : Hid (∀ w1, Pp w0 Z0 w1 p a rd wt sa sb Z bs ss g → Calls Tryz.prog 237 #[.pointer (some ⟨rd, 0, none⟩), .pointer (some ⟨wt, 0, none⟩)] w1 fun e w' => e = .returned (.int .i64 0) ∧ Pp w0 Z0 w' p a rd wt sa sb Z bs ss ⟨g.base, g.kind, g.fresh, g.D, []⟩) := fun w1 h1 => by
    refine (p_take_ok h1.qr h1.qw h1.d2.1 (by rw [e0]; rfl)).mono fun e' w' ⟨hE, q1, q2, f⟩ => ⟨hE, ?_⟩
    have h2 := h1.chains q1 q2 f
    have hh : hs ⟨g.base, g.kind, g.fresh, g.D, []⟩ = hs g := by
      unfold hs
      refine List.map_congr_left fun i _ => decide_eq_decide.2 ?_
      show (i < g.fresh ∧ i ∉ g.D ∧ i ∉ ([] : List Nat)) ↔ (i < g.fresh ∧ i ∉ g.R ∧ i ∉ g.D)
      rw [e0]
      exact ⟨fun ⟨a, b, c⟩ => ⟨a, c, b⟩, fun ⟨a, b, c⟩ => ⟨a, c, b⟩⟩
    show Ppr w0 Z0 w' p a rd wt sa sb Z bs ss g.base g.kind g.fresh (hs ⟨g.base, g.kind, g.fresh, g.D, []⟩) (g.ck (lnk g.D)) (g.ck 0)
    rw [hh]
    exact h2
  have HE3 : Hid (∀ w1, Pp w0 Z0 w1 p a rd wt sa sb Z bs ss ⟨g.base, g.kind, g.fresh, g.D, []⟩ → Calls Tryz.prog 235 #[.pointer (some ⟨rd, 0, none⟩)] w1 fun e w' => e = .returned (.bool false) ∧ Fr (fun _ => False) w1 w') := fun w1 h1 => (p_empty h1.qr).mono fun e' w' ⟨he, f⟩ => ⟨by rw [he, decide_eq_false]; show lnk g.D ≠ 0; rw [e]; exact Nat.succ_ne_zero _, f⟩
  have HO : Hid (∀ w1, Pp w0 Z0 w1 p a rd wt sa sb Z bs ss ⟨g.base, g.kind, g.fresh, g.D, []⟩ → Calls Tryz.prog 236 #[.pointer (some ⟨p, 0, none⟩)] w1 fun e w' => e = .returned (.tuple #[.int .i64 x, .int .i64 0]) ∧ ∃ Z', Pp w0 Z0 w' p a rd wt sa sb Z' (over bs (g.pos x) (leb 0 8)) (ss ++ [((g.pos x : Int), (8 : Int), false)] ++ [((g.pos x : Int), (8 : Int), true)]) ⟨g.base, g.kind, g.fresh, D, []⟩) := fun w1 h1 => l_pop (ok.turn e0) h1 hk e
  have HP := hid h
  clear h ok hk e0 e
  go_enter Tryz.func215, Tryz.ntmps215
  go_wp2
  refine wp_scope_back 0 (fun a' w' => ∃ (cm : Bool) (g1 : Pg) (u5 u6 u7 u8 u9 u10 u11 u12 u13 u14 u15 u16 u17 u18 u19 u20 u21 u22 u23 u24 u25 u26 u27 u28 u29 u30 u31 u32 u33 u34 u35 u36 u37 u38 u39 u40 u41 u42 u43 u44 u45 u46 u47 u48 u49 u50 u51 u52 u53 u54 u55 u56 u57 u58 u59 u60 u61 u62 u63 u64 : Value), Hid (Pp w0 Z0 w' p a rd wt sa sb Z bs ss g1) ∧ a' = { tmps := #[.pointer (some ⟨p, 0, none⟩), undef, .int .i64 0, .int .i64 0, .bool cm, u5, u6, u7, u8, u9, u10, u11, u12, u13, u14, u15, u16, u17, u18, u19, u20, u21, u22, u23, u24, u25, u26, u27, u28, u29, u30, u31, u32, u33, u34, u35, u36, u37, u38, u39, u40, u41, u42, u43, u44, u45, u46, u47, u48, u49, u50, u51, u52, u53, u54, u55, u56, u57, u58, u59, u60, u61, u62, u63, u64], defers := [] } ∧ ((cm = false ∧ g1 = g) ∨ (cm = true ∧ g1 = ⟨g.base, g.kind, g.fresh, g.D, []⟩))) (fun a' _ => cameN (a'.tmps.getD 4 undef)) rfl ?pre ?pass
  case pre =>
    intro R hK
    go_wp2_with fail
    refine HF.out.mono ?_
    rintro e w1 ⟨rfl, hw⟩
    obtain rfl := hw.symm
    clear hw
    go_wp2
    go_step3
    rename_i K hKK
    exact hKK _ _ (hK _ _ ⟨false, g, _, _, _, _, _, _, _, _, _, _, _, _, _, _, _, _, _, _, _, _, _, _, _, _, _, _, _, _, _, _, _, _, _, _, _, _, _, _, _, _, _, _, _, _, _, _, _, _, _, _, _, _, _, _, _, _, _, _, _, _, HP, rfl, .inl ⟨rfl, rfl⟩⟩)
  case pass =>
    rintro a' wr ⟨cm, g1, u5, u6, u7, u8, u9, u10, u11, u12, u13, u14, u15, u16, u17, u18, u19, u20, u21, u22, u23, u24, u25, u26, u27, u28, u29, u30, u31, u32, u33, u34, u35, u36, u37, u38, u39, u40, u41, u42, u43, u44, u45, u46, u47, u48, u49, u50, u51, u52, u53, u54, u55, u56, u57, u58, u59, u60, u61, u62, u63, u64, HQ, rfl, hg⟩
    clear HF HP
    rcases hg with ⟨rfl, rfl⟩ | ⟨rfl, rfl⟩
    · have c0 := HQ.out.pw.c0
      go_wp2_with fail
      refine (HE.out _ HQ.out).mono ?_
      rintro e w2 ⟨rfl, f2⟩
      have HQ2 := hid (HQ.out.kept f2)
      have d1 := HQ2.out.pw.c1
      clear f2 HQ HE c0
      go_wp2_with fail
      refine (HE2.out _ HQ2.out).mono ?_
      rintro e w3 ⟨rfl, f3⟩
      have HQ3 := hid (HQ2.out.kept f3)
      have e0 := HQ3.out.pw.c0
      have e1 := HQ3.out.pw.c1
      clear f3 HQ2 HE2 d1
      go_wp2_with fail
      go_region_held3 (fun w' => w'.cell? ⟨p, 0, none⟩ = some (.pointer (some ⟨rd, 0, none⟩)) ∧ w'.cell? ⟨p, 1, none⟩ = some (.pointer (some ⟨wt, 0, none⟩))) (first | exact ⟨by assumption, by assumption⟩ | go_keep) (first | (go_at_call 237; refine (HT.out _ (HQ3.out.kept (Fr.refl _ _).drew)).mono ?_; rintro e w4 ⟨rfl, h4⟩; have HQ4 := hid h4; have f0 := HQ4.out.pw.c0; have f1 := HQ4.out.pw.c1; clear h4))
      clear HQ3 HT e0 e1 f0 f1
      go_wp2
      go_step3
      exact ⟨rfl, ⟨true, _, _, _, _, _, _, _, _, _, _, _, _, _, _, _, _, _, _, _, _, _, _, _, _, _, _, _, _, _, _, _, _, _, _, _, _, _, _, _, _, _, _, _, _, _, _, _, _, _, _, _, _, _, _, _, _, _, _, _, _, _, HQ4, rfl, .inr ⟨rfl, rfl⟩⟩, by simp [cameN]⟩
    · have c0 := HQ.out.pw.c0
      go_wp2_with fail
      refine (HE3.out _ HQ.out).mono ?_
      rintro e w2 ⟨rfl, f2⟩
      have HQ2 := hid (HQ.out.kept f2)
      clear f2 HQ HE3 c0
      go_wp2_with fail
      refine (HO.out _ HQ2.out).mono ?_
      rintro e w3 ⟨rfl, Z3, h3⟩
      have HQ3 := hid h3
      clear h3 HQ2 HO
      go_wp2
      rw [jump_ret]
      go_ret2
      exact ⟨by simp, Z3, HQ3.out⟩
theorem l_alloc (ok : g.Ok bs) (h : Pp w0 Z0 w p a rd wt sa sb Z bs ss g) (hk : ss.length < 1000000) : Calls Tryz.prog 215 #[.pointer (some ⟨p, 0, none⟩)] w fun e w' => e = .returned (.tuple #[.int .i64 (paV g), .int .i64 (paE g)]) ∧ ∃ Z', Pp w0 Z0 w' p a rd wt sa sb Z' (paB g bs) (paT g ss) (paS g) := by
  by_cases hf : g.Full
  · obtain ⟨e1, e2, e3, e4⟩ := pa_full (bs := bs) hf
    have e5 : paT g ss = ss := if_pos (.inl hf)
    rw [e1, e2, e3, e4, e5]
    exact (l_alloc_full ok h hf).mono fun e w' ⟨he, k⟩ => ⟨he, Z, k⟩
  · cases hR : g.R with
    | cons x R =>
      obtain ⟨e1, e2, e3, e4, e5⟩ := pa_R (bs := bs) hf hR
      rw [e1, e2, e3, e4, e5]
      exact l_alloc_R ok h hk hR
    | nil =>
      cases hD : g.D with
      | cons x D =>
        obtain ⟨e1, e2, e3, e4, e5⟩ := pa_D (bs := bs) hf hR hD
        rw [e1, e2, e3, e4, e5]
        exact l_alloc_D ok h hk hR hD
      | nil =>
        obtain ⟨e1, e2, e3, e4, e5⟩ := pa_F (bs := bs) hf hR hD
        rw [e1, e2, e3, e4, e5]
        exact (l_alloc_F ok h hf hR hD).mono fun e w' ⟨he, k⟩ => ⟨he, Z, k⟩
end
end Go.Proofs.YtioplfbkfokkfaaGreatDoor
