/-
  What the calls of package page do: Alloc (a backward goto).
-/
import Derived.Test.YthndakhnhnipnaaDoorPaCallsA
namespace Go.Proofs.YthndakhnhnipnaaDoor
open Go.RowKit
open An

section
variable {w0 w : World} {Z0 Z U : Nat → Prop} {a p rd wt sa sb : Nat} {bs : List UInt8} {ss : List Sp} {g : Pg}
theorem hs_popR {x : Nat} {R : List Nat} (ok : g.Ok bs) (e : g.R = x :: R) : hs ⟨g.base, g.kind, g.fresh, R, g.D⟩ = (hs g).set x true := hs_set rfl fun i hi => by
  have hnd := ok.nd
  have hlt := ok.lt x (by rw [e]; exact List.mem_append_left _ (List.mem_cons_self ..))
  rw [e, List.cons_append, List.nodup_cons, List.mem_append, not_or] at hnd
  show (i < g.fresh ∧ i ∉ R ∧ i ∉ g.D) ↔ _
  by_cases hi : i = x
  · subst hi
    rw [if_pos rfl]
    exact ⟨fun _ => rfl, fun _ => ⟨hlt, hnd.1⟩⟩
  · rw [if_neg hi]
    show _ ↔ (i < g.fresh ∧ i ∉ g.R ∧ i ∉ g.D)
    rw [e, List.mem_cons, not_or]
    exact ⟨fun ⟨a, b, c⟩ => ⟨a, ⟨hi, b⟩, c⟩, fun ⟨a, b, c⟩ => ⟨a, b.2, c⟩⟩
theorem hs_begin (e0 : g.R = []) (e : g.D = []) : hs ⟨g.base, g.kind, g.fresh + 1, [], []⟩ = (hs g).set g.fresh true := hs_set rfl fun i hi => by
  show (i < g.fresh + 1 ∧ i ∉ ([] : List Nat) ∧ i ∉ ([] : List Nat)) ↔ _
  by_cases hi : i = g.fresh
  · subst hi
    rw [if_pos rfl]
    exact ⟨fun _ => rfl, fun _ => ⟨by omega, by simp, by simp⟩⟩
  · rw [if_neg hi]
    show _ ↔ (i < g.fresh ∧ i ∉ g.R ∧ i ∉ g.D)
    rw [e, e0]
    exact ⟨fun ⟨a, b, c⟩ => ⟨by omega, b, c⟩, fun ⟨a, b, c⟩ => ⟨by omega, b, c⟩⟩
/-- A block that isn't had is taken from the shelf. -/
theorem l_takeAt {kr kw : Ck} {base kind fresh : Int} {x : Nat} (hx : x < pp g.kind) (hn : ¬ g.Had x) (h : Ppr w0 Z0 w p a rd wt sa sb Z bs ss base kind fresh (hs g) kr kw) : Calls Tryd.prog 70 #[.pointer (some ⟨sa, 0, none⟩), .int .i64 x] w fun e w' => e = .returned (.int .i64 0) ∧ Ppr w0 Z0 w' p a rd wt sa sb Z bs ss base kind fresh ((hs g).set x true) kr kw := by
  have hN : Sf.hasN (hs g) (x : Int) = true := by rw [hs_hasN]; exact decide_eq_true ⟨by omega, by omega⟩
  have hT : Sf.isT (hs g) (x : Int) = false := by rw [hs_isT]; exact decide_eq_false fun m => hn m.2
  refine (Sf.s_takeAt h.sh (x : Int)).mono fun e w' ⟨he, q, f⟩ => ⟨by rw [he, Sf.taE_zero.2 ⟨hN, hT⟩], h.shelf ?_ f⟩
  unfold Sf.taS at q
  rw [if_pos hN] at q
  exact q
set_option maxRecDepth 20000 in
set_option maxHeartbeats 2000000 in
theorem l_pop (ok : g.Ok bs) (h : Pp w0 Z0 w p a rd wt sa sb Z bs ss g) (hk : ss.length < 1000000) {x : Nat} {R : List Nat} (e : g.R = x :: R) : Calls Tryd.prog 44 #[.pointer (some ⟨p, 0, none⟩)] w fun e w' => e = .returned (.tuple #[.int .i64 x, .int .i64 0]) ∧ ∃ Z', Pp w0 Z0 w' p a rd wt sa sb Z' (over bs (g.pos x) (leb 0 8)) (ss ++ [((g.pos x : Int), (8 : Int), false)] ++ [((g.pos x : Int), (8 : Int), true)]) ⟨g.base, g.kind, g.fresh, R, g.D⟩ := by
  have hxm : x ∈ g.R := by rw [e]; exact List.mem_cons_self ..
  have hx : x < pp g.kind := ok.lr x hxm
  have hxf : x < g.fresh := ok.lt x (List.mem_append_left _ hxm)
  have hnh : ¬ g.Had x := fun m => m.2.1 hxm
  have hrep := ok.r
  rw [e] at hrep
  have hlk : lnk R ≤ pp g.kind := lnk_lt fun y hy => ok.lr y (by rw [e]; exact List.mem_cons_of_mem _ hy)
  have hck : (g.ck (lnk g.R)).Ok bs.length := ok.ck (by rw [e]; exact hx)
  have H2 : Hid (∀ w1, Pp w0 Z0 w1 p a rd wt sa sb Z bs ss g → Calls Tryd.prog 69 #[.pointer (some ⟨rd, 0, none⟩)] w1 fun e w' => e = .returned (.tuple #[.int .i64 x, .int .i64 0]) ∧ ∃ Z', Ppr w0 Z0 w' p a rd wt sa sb Z' (over bs (g.pos x) (leb 0 8)) (ss ++ [((g.pos x : Int), (8 : Int), false)] ++ [((g.pos x : Int), (8 : Int), true)]) g.base g.kind g.fresh (hs g) (g.ck (lnk R)) (g.ck (lnk g.D))) := fun w1 h1 => by
    have h0 : (g.ck (lnk g.R)).hd = x + 1 := by rw [e]; rfl
    have hw : wd bs ((g.ck (lnk g.R)).pos x) ≤ (g.ck (lnk g.R)).per := by
      show wd bs ((g.ck 0).pos x) ≤ _
      rw [hrep.1]; exact hlk
    have he : (g.ck (lnk g.R)).to (wd bs ((g.ck (lnk g.R)).pos x)) = g.ck (lnk R) := by
      show (g.ck (lnk g.R)).to (wd bs ((g.ck 0).pos x)) = _
      rw [hrep.1]; rfl
    refine (p_pop_ok h1.qr h1.am hck h1.z2 hk h0 hw).mono fun e w' ⟨hE, Z', hL⟩ => ⟨hE, Z', ?_⟩
    rw [he] at hL
    exact h1.ready hL
  have H3 : Hid (∀ w1 Z1 bs1 ss1, Ppr w0 Z0 w1 p a rd wt sa sb Z1 bs1 ss1 g.base g.kind g.fresh (hs g) (g.ck (lnk R)) (g.ck (lnk g.D)) → Calls Tryd.prog 70 #[.pointer (some ⟨sa, 0, none⟩), .int .i64 x] w1 fun e w' => e = .returned (.int .i64 0) ∧ Pp w0 Z0 w' p a rd wt sa sb Z1 bs1 ss1 ⟨g.base, g.kind, g.fresh, R, g.D⟩) := fun w1 Z1 bs1 ss1 h1 => (l_takeAt hx hnh h1).mono fun e' w' ⟨he, k⟩ => ⟨he, by rw [← hs_popR ok e] at k; exact k⟩
  have HP := hid h
  have c0 := h.pw.c0
  have hxf' : ¬ (g.fresh : Int) ≤ x := by omega
  clear h ok hrep hlk hck hk e hxm hx hxf hnh
  go_enter Tryd.func44, Tryd.ntmps44
  go_wp2_with fail
  refine (H2.out _ HP.out).mono ?_
  rintro e w2 ⟨rfl, Z2, h2⟩
  have HP2 := hid h2
  have d5 := h2.pw.c5
  have d6 := h2.pw.c6
  clear h2 HP H2 c0
  go_wp2_with fail
  refine (H3.out _ _ _ _ HP2.out).mono ?_
  rintro e w3 ⟨rfl, h3⟩
  have HP3 := hid h3
  clear h3 HP2 H3 d5 d6
  go_wp2
  go_ret2
  exact ⟨by simp, Z2, HP3.out⟩
set_option maxRecDepth 20000 in
set_option maxHeartbeats 2000000 in
theorem l_begin (ok : g.Ok bs) (h : Pp w0 Z0 w p a rd wt sa sb Z bs ss g) (hf : ¬ g.Full) (e0 : g.R = []) (e : g.D = []) : Calls Tryd.prog 46 #[.pointer (some ⟨p, 0, none⟩)] w fun e w' => e = .returned (.tuple #[.int .i64 g.fresh, .int .i64 0]) ∧ Pp w0 Z0 w' p a rd wt sa sb Z bs ss ⟨g.base, g.kind, g.fresh + 1, [], []⟩ := by
  have hx : g.fresh < pp g.kind := ok.room hf ⟨e0, e⟩
  have hp32 := (kind_facts g.kind ok.kind).2.1.2
  have hnh : ¬ g.Had g.fresh := fun m => Nat.lt_irrefl _ m.1
  have H3 : Hid (∀ w1, Pp w0 Z0 w1 p a rd wt sa sb Z bs ss g → Calls Tryd.prog 70 #[.pointer (some ⟨sa, 0, none⟩), .int .i64 g.fresh] w1 fun e w' => e = .returned (.int .i64 0) ∧ Ppr w0 Z0 w' p a rd wt sa sb Z bs ss g.base g.kind g.fresh (hs ⟨g.base, g.kind, g.fresh + 1, [], []⟩) (g.ck 0) (g.ck 0)) := fun w1 h1 => (l_takeAt hx hnh h1).mono fun e' w' ⟨he, k⟩ => ⟨he, by rw [← hs_begin e0 e, e0, e] at k; exact k⟩
  have HP := hid h
  have c5 := h.pw.c5
  have c6 := h.pw.c6
  have hwr := wrapI ((g.fresh : Int) + 1) (by omega) (by omega)
  have HE : Hid (((g.fresh + 1 : Nat) : Int) = (g.fresh : Int) + 1) := by show _ = _; omega
  clear h ok e0 e hf hnh hx hp32
  go_enter Tryd.func46, Tryd.ntmps46
  go_wp2_with fail
  refine (H3.out _ HP.out).mono ?_
  rintro e w3 ⟨rfl, h3⟩
  have d5 := h3.pw.c5
  have fz := h3.pw.fz
  have HP4 := hid (h3.own (h3.pw.setFresh ((g.fresh : Int) + 1)))
  clear h3 HP H3 c5 c6
  go_wp2
  go_ret2
  refine ⟨by simp, ?_⟩
  show Ppr w0 Z0 _ p a rd wt sa sb Z bs ss g.base g.kind ((g.fresh + 1 : Nat) : Int) _ (g.ck 0) (g.ck 0)
  rw [HE.out]
  exact HP4.out
end
end Go.Proofs.YthndakhnhnipnaaDoor
