/-
  What the calls of package page do: Free, Move, New; and all of them as of one thing, the page and its arena.
  The document's map of pages in memory; lists of numbers that come in.
  The document's map of pages: what each of its calls answers and leaves.
  The document's configurations: which may be; a new map.
  Pages by their colours, a shelf a colour: how the shelves' answers make up the map's. Nothing of the program is named here.
  A copy of a list: 'append([]int{}, l...)', of any length.
-/
import Derived.Test.YtioplfbkfokkfaaGreatDoorPaAlloc
import Derived.Test.YtioplfbkfokkfaaGreatDoorRows
import Derived.Test.YtioplfbkfokkfaaGreatDoorHpBase
import Derived.Deep.RegionHeld
import Derived.Deep.QuietTactic
import Derived.BigQuiet
import Derived.BigRegion
import Derived.Laws.OwnMore
import Derived.Test.YtioplfbkfokkfaaGreatDoorSfBase
import Derived.BigFrame
namespace Go.Proofs.YtioplfbkfokkfaaGreatDoor
open Go.RowKit
open An

section
variable {w0 w : World} {Z0 Z U : Nat → Prop} {a p rd wt sa sb : Nat} {bs : List UInt8} {ss : List Sp} {g : Pg}
theorem punit_at (ok : g.Ok bs) {W : World} (ht : Tab W) : Hid (∀ w1, Fr (fun _ => False) W w1 → Calls Tryz.prog 97 #[.int .i64 g.kind] w1 fun e w' => e = .returned (.int .i64 (pu g.kind)) ∧ Fr (fun _ => False) w1 w') := fun w1 f => (k_unit g.kind (K.start (ht.carry f id))).mono fun e w' ⟨he, k⟩ => ⟨by rw [he, (kind_facts g.kind ok.kind).2.2.2.1], k.fr⟩
set_option maxRecDepth 20000 in
set_option maxHeartbeats 2000000 in
theorem l_free_no (h : Pp w0 Z0 w p a rd wt sa sb Z bs ss g) (k : Int) (hm : ¬ g.May k) : Calls Tryz.prog 190 #[.pointer (some ⟨p, 0, none⟩), .int .i64 k] w fun e w' => e = .returned (.int .i64 (pfE g k)) ∧ Fr (fun _ => False) w w' := by
  have H1 := hid (Sf.s_size h.sh)
  rw [hs_length] at H1
  have H2 := hid (Sf.s_taken h.sh k)
  rw [hs_isT, decide_eq_false hm] at H2
  have c6 := h.pw.c6
  clear h
  by_cases h0 : 0 ≤ k
  case neg =>
    have he : Hid (pfE g k = 12) := if_neg fun m => h0 m.1
    generalize pfE g k = v at *
    clear hm
    go_enter Tryz.func190, Tryz.ntmps190
    go_wp2
    go_ret
    exact ⟨by rw [he.out]; simp, Fr.refl _ _⟩
  by_cases h1 : k < pp g.kind
  case neg =>
    have he : Hid (pfE g k = 12) := if_neg fun m => h1 m.2
    generalize pfE g k = v at *
    have h1' : (pp g.kind : Int) ≤ k := by omega
    clear hm
    go_enter Tryz.func190, Tryz.ntmps190
    go_wp2_with fail
    refine H1.out.mono ?_
    rintro e w1 ⟨rfl, hw⟩
    obtain rfl := hw.symm
    clear hw
    go_wp2
    go_ret
    exact ⟨by rw [he.out]; simp, Fr.refl _ _⟩
  have he : Hid (pfE g k = 13) := (if_pos (show g.Block k from ⟨h0, h1⟩)).trans (if_neg fun m => hm ⟨⟨h0, h1⟩, m⟩)
  generalize pfE g k = v at *
  have h1' : ¬ (pp g.kind : Int) ≤ k := by omega
  clear hm
  go_enter Tryz.func190, Tryz.ntmps190
  go_wp2_with fail
  refine H1.out.mono ?_
  rintro e w1 ⟨rfl, hw⟩
  obtain rfl := hw.symm
  clear hw
  go_wp2_with fail
  refine H2.out.mono ?_
  rintro e w1 ⟨rfl, m, rfl⟩
  go_wp2
  go_ret
  exact ⟨by rw [he.out]; simp, (Fr.refl _ _).drewN m⟩
set_option maxRecDepth 20000 in
set_option maxHeartbeats 4000000 in
theorem l_free_ok (ht : Tab w) (ok : g.Ok bs) (h : Pp w0 Z0 w p a rd wt sa sb Z bs ss g) (hk : ss.length < 1000000) (k : Nat) (hm : g.May k) : Calls Tryz.prog 190 #[.pointer (some ⟨p, 0, none⟩), .int .i64 k] w fun e w' => e = .returned (.int .i64 0) ∧ ∃ Z', Pp w0 Z0 w' p a rd wt sa sb Z' (pfB g bs k) (pfT g ss k) (pfS g k) := by
  have H1 := hid (Sf.s_size h.sh)
  rw [hs_length] at H1
  have H2 := hid (Sf.s_taken h.sh (k : Int))
  rw [hs_isT, decide_eq_true hm] at H2
  have HU := punit_at ok ht
  obtain ⟨⟨h0, h1⟩, hh⟩ := id hm
  have hkp : k < pp g.kind := by omega
  obtain ⟨⟨u1, u2⟩, ⟨_, hp32⟩, _⟩ := kind_facts g.kind ok.kind
  have hb := ok.block hkp
  have hfit := ok.fit
  have hle := h.am.le
  have hpos : k * pu g.kind + g.base = g.pos k := by unfold Pg.pos; omega
  have r1 : IntKind.i64.wrap ((k : Int) * (pu g.kind : Int)) = ((k * pu g.kind : Nat) : Int) := by rw [← Int.natCast_mul]; exact wrapI _ (by omega) (by omega)
  have r2 : IntKind.i64.wrap ((g.base : Int) + ((k * pu g.kind : Nat) : Int)) = (g.pos k : Int) := by rw [wrapI _ (by omega) (by omega)]; omega
  have eT : pfT g ss k = ss ++ [((g.pos k : Int), (pu g.kind : Int), true)] ++ [((g.pos k : Int), (8 : Int), true)] := if_pos hm
  have eB : pfB g bs k = over (over bs (g.pos k) (List.replicate (pu g.kind) 0)) (g.pos k) (leb (lnk g.D) 8) := if_pos hm
  have eS : pfS g k = ⟨g.base, g.kind, g.fresh, g.R, k :: g.D⟩ := if_pos hm
  have eL : (over bs (g.pos k) (List.replicate (pu g.kind) 0)).length = bs.length := over_length _ _ _ (by rw [List.length_replicate]; omega)
  have H3 : Hid (∀ w1, Pp w0 Z0 w1 p a rd wt sa sb Z bs ss g → Calls Tryz.prog 136 #[.pointer (some ⟨a, 0, none⟩), .int .i64 (g.pos k), .int .i64 (pu g.kind)] w1 fun e w' => e = .returned (.int .i64 0) ∧ ∃ Z', Pp w0 Z0 w' p a rd wt sa sb Z' (over bs (g.pos k) (List.replicate (pu g.kind) 0)) (ss ++ [((g.pos k : Int), (pu g.kind : Int), true)]) g) := fun w1 h1 => (am_zero h1.am (g.pos k) (pu g.kind) (by omega) (by omega)).mono fun e w' ⟨he, Z', a1, a2⟩ => by
    have en : noted ss (g.pos k) (pu g.kind) true = ss ++ [((g.pos k : Int), (pu g.kind : Int), true)] := if_pos (by omega)
    rw [en] at a1
    exact ⟨he, Z', h1.arena a1 a2⟩
  have hld : lnk g.D ≤ pp g.kind := lnk_lt ok.ld
  have H4 : Hid (∀ w1 Z1, Pp w0 Z0 w1 p a rd wt sa sb Z1 (over bs (g.pos k) (List.replicate (pu g.kind) 0)) (ss ++ [((g.pos k : Int), (pu g.kind : Int), true)]) g → Calls Tryz.prog 224 #[.pointer (some ⟨wt, 0, none⟩), .int .i64 k] w1 fun e w' => e = .returned (.int .i64 0) ∧ ∃ Z', Ppr w0 Z0 w' p a rd wt sa sb Z' (pfB g bs k) (pfT g ss k) g.base g.kind g.fresh (hs g) (g.ck (lnk g.R)) (g.ck (k + 1))) := fun w1 Z1 h1 => by
    rw [eT, eB]
    exact (p_push_ok h1.qw h1.am (by rw [eL]; exact ok.ck hld) h1.z3 (by simp; omega) hkp).mono fun e w' ⟨he, Z', hL⟩ => ⟨he, Z', h1.waiting hL⟩
  have HH : hs (pfS g k) = (hs g).set k false := by
    rw [eS]
    refine hs_set rfl fun i hi => ?_
    show (i < g.fresh ∧ i ∉ g.R ∧ i ∉ k :: g.D) ↔ _
    by_cases hi : i = k
    · subst hi
      rw [if_pos rfl]
      exact ⟨fun m => (m.2.2 (List.mem_cons_self ..)).elim, fun m => by cases m⟩
    · rw [if_neg hi, List.mem_cons, not_or]
      exact ⟨fun ⟨a, b, c⟩ => ⟨a, b, c.2⟩, fun ⟨a, b, c⟩ => ⟨a, b, hi, c⟩⟩
  have H5 : Hid (∀ w1 Z1, Ppr w0 Z0 w1 p a rd wt sa sb Z1 (pfB g bs k) (pfT g ss k) g.base g.kind g.fresh (hs g) (g.ck (lnk g.R)) (g.ck (k + 1)) → Calls Tryz.prog 183 #[.pointer (some ⟨sa, 0, none⟩), .int .i64 k] w1 fun e w' => e = .returned (.int .i64 0) ∧ Pp w0 Z0 w' p a rd wt sa sb Z1 (pfB g bs k) (pfT g ss k) (pfS g k)) := fun w1 Z1 h1 => by
    have hN : Sf.hasN (hs g) (k : Int) = true := by rw [hs_hasN]; exact decide_eq_true hm.1
    have hT : Sf.isT (hs g) (k : Int) = true := by rw [hs_isT]; exact decide_eq_true hm
    refine (Sf.s_give h1.sh (k : Int)).mono fun e w' ⟨he, q, f⟩ => ⟨by rw [he, Sf.giE_zero.2 ⟨hN, hT⟩], ?_⟩
    unfold Sf.giS at q
    rw [if_pos hN, Int.toNat_natCast, ← HH] at q
    have h2 := h1.shelf q f
    show Ppr w0 Z0 w' p a rd wt sa sb Z1 (pfB g bs k) (pfT g ss k) (pfS g k).base (pfS g k).kind (pfS g k).fresh (hs (pfS g k)) ((pfS g k).ck (lnk (pfS g k).R)) ((pfS g k).ck (lnk (pfS g k).D))
    rw [eS] at h2 ⊢
    exact h2
  have HP := hid h
  have c6 := h.pw.c6
  have h1' : ¬ (pp g.kind : Int) ≤ k := by omega
  clear h ht ok hm hh eT eB eS eL hld hpos hb hfit hle hk HH
  generalize pfS g k = g2 at *
  generalize pfB g bs k = bs2 at *
  generalize pfT g ss k = ss2 at *
  generalize g.pos k = ps at *
  generalize k * pu g.kind = m at *
  go_enter Tryz.func190, Tryz.ntmps190
  go_wp2_with fail
  refine H1.out.mono ?_
  rintro e w1 ⟨rfl, hw⟩
  obtain rfl := hw.symm
  clear hw H1
  go_wp2_with fail
  refine H2.out.mono ?_
  rintro e w1 ⟨rfl, n1, rfl⟩
  have F1 : Hid (Fr (fun _ => False) w (w.drewN n1)) := (Fr.refl _ _).drewN n1
  have HP1 := hid (HP.out.kept F1.out)
  have d4 := HP1.out.pw.c4
  clear H2 HP c6
  go_wp2_with fail
  refine (HU.out _ F1.out).mono ?_
  rintro e w2 ⟨rfl, f2⟩
  have HP2 := hid (HP1.out.kept f2)
  have e2 := HP2.out.pw.c2
  have e3 := HP2.out.pw.c3
  clear f2 HP1 d4 HU F1
  go_wp2_with fail
  go_region_held3 (fun w' => w'.cell? ⟨p, 2, none⟩ = some (.pointer (some ⟨a, 0, none⟩)) ∧ w'.cell? ⟨p, 3, none⟩ = some (.int .i64 g.base)) (first | exact ⟨by assumption, by assumption⟩ | go_keep) (first | (go_at_call 136; refine (H3.out _ (HP2.out.kept (Fr.refl _ _).drew)).mono ?_; rintro e w4 ⟨rfl, Z4, h4⟩; have HP4 := hid h4; have g2 := HP4.out.pw.c2; have g3 := HP4.out.pw.c3; clear h4))
  have g1 := HP4.out.pw.c1
  clear HP2 H3 e2 e3 g2 g3
  go_wp2_with fail
  refine (H4.out _ _ HP4.out).mono ?_
  rintro e w5 ⟨rfl, Z5, h5⟩
  have HP5 := hid h5
  have i6 := HP5.out.pw.c6
  clear h5 HP4 H4 g1
  go_wp2_with fail
  refine (H5.out _ _ HP5.out).mono ?_
  rintro e w6 ⟨rfl, h6⟩
  have HP6 := hid h6
  clear h6 HP5 H5 i6
  go_wp2
  go_ret
  exact ⟨by simp, Z5, HP6.out⟩
theorem l_free (ht : Tab w) (ok : g.Ok bs) (h : Pp w0 Z0 w p a rd wt sa sb Z bs ss g) (hk : ss.length < 1000000) (k : Int) : Calls Tryz.prog 190 #[.pointer (some ⟨p, 0, none⟩), .int .i64 k] w fun e w' => e = .returned (.int .i64 (pfE g k)) ∧ ∃ Z', Pp w0 Z0 w' p a rd wt sa sb Z' (pfB g bs k) (pfT g ss k) (pfS g k) := by
  by_cases hm : g.May k
  · obtain ⟨k, rfl⟩ := Int.eq_ofNat_of_zero_le hm.1.1
    have he : pfE g (k : Int) = 0 := (if_pos hm.1).trans (if_pos hm.2)
    rw [he]
    exact l_free_ok ht ok h hk k hm
  · have e1 : pfB g bs k = bs := if_neg hm
    have e2 : pfT g ss k = ss := if_neg hm
    have e3 : pfS g k = g := if_neg hm
    rw [e1, e2, e3]
    exact (l_free_no h k hm).mono fun e w' ⟨he, f⟩ => ⟨he, Z, h.kept f⟩
end
end Go.Proofs.YtioplfbkfokkfaaGreatDoor
namespace Go.Proofs.YtioplfbkfokkfaaGreatDoor
open Go.RowKit
open An

def Tc (w : World) (B : Nat) (v1 v2 : Value) : Prop := w.heap[B]? = some (.cells #[v1, v2] 239 (0, 0))
theorem Tc.kept {w w' : World} {B : Nat} {v1 v2 : Value} (h : Tc w B v1 v2) (f : Fr (fun _ => False) w w') : Tc w' B v1 v2 := (f.block B (Array.getElem?_eq_some_iff.1 h).1 id).trans h
theorem Tc.c0 {w : World} {B : Nat} {v1 v2 : Value} (h : Tc w B v1 v2) : w.cell? ⟨B, 0, none⟩ = some v1 := by unfold Tc at h; simp [World.cell?, h]
theorem Tc.c1 {w : World} {B : Nat} {v1 v2 : Value} (h : Tc w B v1 v2) : w.cell? ⟨B, 1, none⟩ = some v2 := by unfold Tc at h; simp [World.cell?, h]
theorem Tc.fz {w : World} {B : Nat} {v1 v2 : Value} (h : Tc w B v1 v2) (j : Nat) : w.frozen? ⟨B, j, none⟩ = false := by unfold Tc at h; simp [World.frozen?, h]
theorem Tc.put {w : World} {B : Nat} {v1 v2 : Value} (h : Tc w B v1 v2) (u1 u2 : Value) : Tc ((w.setCell ⟨B, 0, none⟩ u1).setCell ⟨B, 1, none⟩ u2) B u1 u2 := by unfold Tc at h ⊢; simp [World.setCell, Array.getElem?_modify, h]
section
variable {w0 w : World} {Z0 Z U : Nat → Prop} {a p rd wt sa sb : Nat} {bs : List UInt8} {ss : List Sp} {g : Pg}
set_option maxRecDepth 20000 in
set_option maxHeartbeats 2000000 in
theorem l_chains (ht : Tab w) (h : Am 104 a bs ss w Z) {x kd : Nat} (hk : kd ≤ 7) (hf : Fits bs.length x) : Calls Tryz.prog 239 #[.pointer (some ⟨a, 0, none⟩), .int .i64 x, .int .i64 kd] w fun e w' => ∃ rd wt, e = .returned (.tuple #[.agg #[.pointer (some ⟨rd, 0, none⟩), .pointer (some ⟨wt, 0, none⟩)], .int .i64 0]) ∧ (w.heap.size ≤ rd ∧ w.heap.size ≤ wt ∧ rd ≠ wt) ∧ Chm w' rd a ⟨x, pu kd, pp kd, 0⟩ ∧ Chm w' wt a ⟨x, pu kd, pp kd, 0⟩ ∧ Fr (fun _ => False) w w' := by
  have hkf := kind_facts kd hk
  have HU : Hid (∀ w1, Fr (fun _ => False) w w1 → Calls Tryz.prog 97 #[.int .i64 kd] w1 fun e w' => e = .returned (.int .i64 (pu kd)) ∧ Fr (fun _ => False) w1 w') := fun w1 f => (k_unit kd (K.start (ht.carry f id))).mono fun e w' ⟨he, k⟩ => ⟨by rw [he, hkf.2.2.2.1], k.fr⟩
  have HPe : Hid (∀ w1, Fr (fun _ => False) w w1 → Calls Tryz.prog 187 #[.int .i64 kd] w1 fun e w' => e = .returned (.int .i64 (pp kd)) ∧ Fr (fun _ => False) w1 w') := fun w1 f => (k_per kd (K.start (ht.carry f id))).mono fun e w' ⟨he, k⟩ => ⟨by rw [he, hkf.2.2.2.2], k.fr⟩
  have hno : NewOk bs.length (x : Int) (pu kd : Int) (pp kd : Int) := ⟨⟨by omega, by omega⟩, ⟨by omega, by omega⟩, by omega, by rw [← Int.natCast_mul]; have := hf.2.2; have := hkf.2.2.1; omega⟩
  have HN : Hid (∀ w1, Fr (fun _ => False) w w1 → Calls Tryz.prog 245 #[.pointer (some ⟨a, 0, none⟩), .int .i64 x, .int .i64 (pu kd), .int .i64 (pp kd)] w1 fun e w' => ∃ c, e = .returned (.tuple #[.pointer (some ⟨c, 0, none⟩), .int .i64 0]) ∧ w1.heap.size ≤ c ∧ Chm w' c a ⟨x, pu kd, pp kd, 0⟩ ∧ Fr (fun _ => False) w1 w') := fun w1 f => p_new (h.kept f) hno
  have HB0 : Hid (Tc (w.alloc (.cells #[.pointer none, .pointer none] 239)) w.heap.size (.pointer none) (.pointer none) ∧ Fr (fun _ => False) w (w.alloc (.cells #[.pointer none, .pointer none] 239))) := ⟨heap_alloc_new w _, (Fr.refl _ _).alloc _⟩
  clear h ht hf hkf hno hk
  go_enter Tryz.func239, Tryz.ntmps239
  go_wp2_with fail
  refine (HU.out _ HB0.out.2).mono ?_
  rintro e w1 ⟨rfl, f1⟩
  have HB1 := hid (And.intro (HB0.out.1.kept f1) (HB0.out.2.trans f1))
  clear f1 HB0 HU
  go_wp2_with fail
  refine (HPe.out _ HB1.out.2).mono ?_
  rintro e w2 ⟨rfl, f2⟩
  have HB2 := hid (And.intro (HB1.out.1.kept f2) (HB1.out.2.trans f2))
  clear f2 HB1 HPe
  go_wp2_with fail
  refine (HN.out _ HB2.out.2).mono ?_
  rintro e w3 ⟨rd, rfl, hrd, q3, f3⟩
  have hl := (Array.getElem?_eq_some_iff.1 HB2.out.1).1
  have HB3 := hid (And.intro (HB2.out.1.kept f3) (HB2.out.2.trans f3))
  have HQ3 : Hid (w.heap.size < rd ∧ Chm w3 rd a ⟨x, pu kd, pp kd, 0⟩) := ⟨by omega, q3⟩
  clear f3 HB2 hrd q3 hl
  go_wp2_with fail
  refine (HN.out _ HB3.out.2).mono ?_
  rintro e w4 ⟨wt, rfl, hwt, q4, f4⟩
  have hl := Chm.chain.lt HQ3.out.2
  have hl2 := HQ3.out.1
  have h3 := HB3.out.2.trans f4
  have HB4 := hid (And.intro (HB3.out.1.kept f4) h3)
  have HQ4 : Hid ((w.heap.size < rd ∧ w.heap.size < wt ∧ rd ≠ wt) ∧ Chm w4 rd a ⟨x, pu kd, pp kd, 0⟩ ∧ Chm w4 wt a ⟨x, pu kd, pp kd, 0⟩) := ⟨⟨hl2, by omega, by omega⟩, Chm.chain.carry HQ3.out.2 f4 id, q4⟩
  have z0 := HB4.out.1.c0
  have z1 := HB4.out.1.c1
  have z2 := HB4.out.1.fz
  clear f4 HB3 hwt q4 hl hl2 h3 HN HQ3
  go_wp2
  have P := HB4.out.1.put (.pointer (some ⟨rd, 0, none⟩)) (.pointer (some ⟨wt, 0, none⟩))
  have k0 := P.c0
  have k1 := P.c1
  have f5 : Fr (fun i => i = w.heap.size) w4 ((w4.setCell ⟨w.heap.size, 0, none⟩ (.pointer (some ⟨rd, 0, none⟩))).setCell ⟨w.heap.size, 1, none⟩ (.pointer (some ⟨wt, 0, none⟩))) := Fr.setCell (S := fun i => i = w.heap.size) (p := ⟨w.heap.size, 1, none⟩) (Fr.setCell (S := fun i => i = w.heap.size) (p := ⟨w.heap.size, 0, none⟩) (Fr.refl _ _) rfl _) rfl _
  obtain ⟨⟨n1, n2, n3⟩, q1, q2⟩ := HQ4.out
  refine bodyPost_ret (v := .tuple #[.agg #[.pointer (some ⟨rd, 0, none⟩), .pointer (some ⟨wt, 0, none⟩)], .int .i64 0]) (by simp [results, Tryz.results239, go_sem, k0, k1]) rfl ⟨rd, wt, rfl, ⟨by omega, by omega, n3⟩, Chm.chain.carry q1 f5 (by omega), Chm.chain.carry q2 f5 (by omega), Fr.trans' HB4.out.2 f5 fun i hi e => by omega⟩
set_option maxRecDepth 20000 in
set_option maxHeartbeats 2000000 in
theorem x_new (h : Am 104 a bs ss w Z) (gr : Gr w) {x kd : Nat} (hk : kd ≤ 7) (hf : Fits bs.length x) : Calls Tryz.prog 216 #[.pointer (some ⟨a, 0, none⟩), .int .i64 x, .int .i64 kd] w fun e w' => ∃ p U', e = .returned (.tuple #[.pointer (some ⟨p, 0, none⟩), .int .i64 0]) ∧ Pa a bs ss p ⟨x, kd, 0, [], []⟩ w' U' ∧ Gw w w' Z U' := by
  have hkf := kind_facts kd hk
  have hle := h.le
  have H1 := hid (l_lies h (x := (x : Int)) ⟨by omega, by have := hf.2.2; omega⟩)
  rw [decide_eq_true hf] at H1
  have HPe : Hid (∀ w1, Fr (fun _ => False) w w1 → Calls Tryz.prog 187 #[.int .i64 kd] w1 fun e w' => e = .returned (.int .i64 (pp kd)) ∧ Fr (fun _ => False) w w') := fun w1 f => (k_per kd (K.start (gr.tab.carry f id))).mono fun e w' ⟨he, k⟩ => ⟨by rw [he, hkf.2.2.2.2], f.trans k.fr⟩
  have HS : Hid (∀ w1, Fr (fun _ => False) w w1 → Calls Tryz.prog 52 #[.int .i64 (pp kd)] w1 fun e w' => e = .returned (.tuple #[.pointer (some ⟨w1.heap.size + 1, 0, none⟩), .int .i64 0]) ∧ Sf.Sh w' (w1.heap.size + 1) w1.heap.size (List.replicate (pp kd) false) ∧ Fr (fun _ => False) w1 w') := fun w1 f => Sf.new_ok (pp kd) w1 (by omega) (Nat.lt_of_lt_of_le gr.2 f.size)
  have HC : Hid (∀ w1, Fr (fun _ => False) w w1 → Calls Tryz.prog 239 #[.pointer (some ⟨a, 0, none⟩), .int .i64 x, .int .i64 kd] w1 fun e w' => ∃ rd wt, e = .returned (.tuple #[.agg #[.pointer (some ⟨rd, 0, none⟩), .pointer (some ⟨wt, 0, none⟩)], .int .i64 0]) ∧ (w1.heap.size ≤ rd ∧ w1.heap.size ≤ wt ∧ rd ≠ wt) ∧ Chm w' rd a ⟨x, pu kd, pp kd, 0⟩ ∧ Chm w' wt a ⟨x, pu kd, pp kd, 0⟩ ∧ Fr (fun _ => False) w1 w') := fun w1 f => l_chains (gr.tab.carry f id) (h.kept f) hk hf
  have g1 : ¬ (kd : Int) < 0 := by omega
  have g2 : ¬ 8 ≤ (kd : Int) := by omega
  have HA := hid h
  clear h gr hk hf hkf hle
  go_enter Tryz.func216, Tryz.ntmps216
  go_wp2_with fail
  refine H1.out.mono ?_
  rintro e w1 ⟨rfl, hw⟩
  obtain rfl := hw.symm
  clear hw H1
  go_wp2_with fail
  refine (HPe.out _ (Fr.refl _ _)).mono ?_
  rintro e w2 ⟨rfl, f2⟩
  have HF2 := hid f2
  clear f2 HPe
  go_wp2_with fail
  refine (HS.out _ HF2.out).mono ?_
  rintro e w3 ⟨rfl, hsh, f3⟩
  have HH3 := hid hsh
  have HF3 := hid (And.intro (HF2.out.trans f3) f3.size)
  have HL3 := hid HF2.out.size
  clear f3 HS HF2 hsh
  generalize w2.heap.size = sb at *
  go_wp2_with fail
  refine (HC.out _ HF3.out.1).mono ?_
  rintro e w4 ⟨rd, wt, rfl, hne, q1, q2, f4⟩
  have HQ := hid (And.intro q1 q2)
  have HN := hid hne
  have HF4 := hid f4
  clear f4 q1 q2 hne HC
  go_wp2
  go_ret2
  have f5 : Fr (fun _ => False) w4 ((w4.alloc (.cells #[.pointer (some ⟨rd, 0, none⟩), .pointer (some ⟨wt, 0, none⟩)] 239)).alloc (.cells #[.pointer (some ⟨rd, 0, none⟩), .pointer (some ⟨wt, 0, none⟩), .pointer (some ⟨a, 0, none⟩), .int .i64 x, .int .i64 kd, .int .i64 0, .pointer (some ⟨sb + 1, 0, none⟩)] 241)) := ((Fr.refl _ _).alloc _).alloc _
  have q0 : Pw ((w4.alloc (.cells #[.pointer (some ⟨rd, 0, none⟩), .pointer (some ⟨wt, 0, none⟩)] 239)).alloc (.cells #[.pointer (some ⟨rd, 0, none⟩), .pointer (some ⟨wt, 0, none⟩), .pointer (some ⟨a, 0, none⟩), .int .i64 x, .int .i64 kd, .int .i64 0, .pointer (some ⟨sb + 1, 0, none⟩)] 241)) (w4.heap.size + 1) a x kd 0 rd wt (sb + 1) := by
    have := heap_alloc_new (w4.alloc (.cells #[.pointer (some ⟨rd, 0, none⟩), .pointer (some ⟨wt, 0, none⟩)] 239)) (.cells #[.pointer (some ⟨rd, 0, none⟩), .pointer (some ⟨wt, 0, none⟩), .pointer (some ⟨a, 0, none⟩), .int .i64 x, .int .i64 kd, .int .i64 0, .pointer (some ⟨sb + 1, 0, none⟩)] 241)
    rw [World.size_alloc] at this
    exact this
  have q1 := Chm.chain.carry HQ.out.1 f5 id
  have q2 := Chm.chain.carry HQ.out.2 f5 id
  have q3 := sh_on HH3.out (HF4.out.trans f5) id id
  have l1 := Chm.chain.lt HQ.out.1
  have l2 := Chm.chain.lt HQ.out.2
  have l3 := HH3.out.lta
  have l4 := HH3.out.ltb
  have l5 := HF4.out.size
  have f6 := (HF3.out.1.trans HF4.out).trans f5
  have hz := HA.out.lt
  obtain ⟨n1, n2, n3⟩ := HN.out
  have l0 := HL3.out
  have hA := HA.out.kept f6
  rw [← hs_none x kd] at q3
  generalize (w4.alloc (.cells #[.pointer (some ⟨rd, 0, none⟩), .pointer (some ⟨wt, 0, none⟩)] 239)).alloc (.cells #[.pointer (some ⟨rd, 0, none⟩), .pointer (some ⟨wt, 0, none⟩), .pointer (some ⟨a, 0, none⟩), .int .i64 x, .int .i64 kd, .int .i64 0, .pointer (some ⟨sb + 1, 0, none⟩)] 241) = w5 at *
  have l6 := q0.lt
  have hold : ∀ i, Five (w4.heap.size + 1) rd wt (sb + 1) sb i → w.heap.size ≤ i ∧ i < w5.heap.size := fun i hi => by
    rcases hi.is with rfl | rfl | rfl | rfl | rfl <;> omega
  have hlt : ∀ i, (Z i ∨ Five (w4.heap.size + 1) rd wt (sb + 1) sb i) → i < w5.heap.size := fun i hi => by
    rcases hi with hi | hi
    · exact Nat.lt_of_lt_of_le (hz i hi) f6.size
    · exact (hold i hi).2
  refine ⟨w4.heap.size + 1, fun i => Z i ∨ Five (w4.heap.size + 1) rd wt (sb + 1) sb i, by simp, ⟨Z, fun i => Five (w4.heap.size + 1) rd wt (sb + 1) sb i, hA, ⟨rd, wt, sb + 1, sb, q0, q1, q2, q3, ⟨⟨by omega, by omega, by omega, by omega⟩, ⟨n3, by omega, by omega⟩, by omega, by omega⟩, fun _ => id, fun i hi => (hold i hi).2⟩, fun i hi e => ?_, fun _ => .inl, fun _ => .inr, hlt⟩, ⟨fun _ => .inl, fun i hi => ?_, hlt, f6.mono fun _ _ e => e.elim⟩⟩
  · have := (hold i e).1
    have := hz i hi
    omega
  · rcases hi with hi | hi
    · exact .inl hi
    · exact .inr (hold i hi).1
end
end Go.Proofs.YtioplfbkfokkfaaGreatDoor
namespace Go.Proofs.YtioplfbkfokkfaaGreatDoor
open Go.RowKit
open An

section
variable {w : World} {a p : Nat} {U Z : Nat → Prop} {bs : List UInt8} {ss : List Sp} {g : Pg}
theorem x_alloc (h : Pa a bs ss p g w U) (_gr : Gr w) (ok : g.Ok bs) (hk : ss.length ≤ 900000) : Calls Tryz.prog 215 #[.pointer (some ⟨p, 0, none⟩)] w fun e w' => e = .returned (.tuple #[.int .i64 (paV g), .int .i64 (paE g)]) ∧ ∃ U', Pa a (paB g bs) (paT g ss) p (paS g) w' U' ∧ Gw w w' U U' := by
  obtain ⟨Z, rd, wt, sa, sb, h1, h2, h3⟩ := h.into
  exact (l_alloc ok h1 (by omega)).mono fun e w' ⟨he, Z', h5⟩ => ⟨he, Pa.back h2 h3 h5⟩
theorem x_free (h : Pa a bs ss p g w U) (gr : Gr w) (ok : g.Ok bs) (hk : ss.length ≤ 900000) {k : Int} (_hi : I64 k) : Calls Tryz.prog 190 #[.pointer (some ⟨p, 0, none⟩), .int .i64 k] w fun e w' => e = .returned (.int .i64 (pfE g k)) ∧ ∃ U', Pa a (pfB g bs k) (pfT g ss k) p (pfS g k) w' U' ∧ Gw w w' U U' := by
  obtain ⟨Z, rd, wt, sa, sb, h1, h2, h3⟩ := h.into
  exact (l_free gr.tab ok h1 (by omega) k).mono fun e w' ⟨he, Z', h5⟩ => ⟨he, Pa.back h2 h3 h5⟩
theorem x_has (h : Pa a bs ss p g w U) (_gr : Gr w) (_ok : g.Ok bs) {k : Int} (_hi : I64 k) : Calls Tryz.prog 221 #[.pointer (some ⟨p, 0, none⟩), .int .i64 k] w fun e w' => e = .returned (.bool (decide (g.May k))) ∧ Fr (fun _ => False) w w' := by
  obtain ⟨Z, rd, wt, sa, sb, h1, _⟩ := h.into
  exact l_has h1 k
theorem x_used (h : Pa a bs ss p g w U) (_gr : Gr w) (ok : g.Ok bs) : Calls Tryz.prog 192 #[.pointer (some ⟨p, 0, none⟩)] w fun e w' => e = .returned (.int .i64 (g.used : Int)) ∧ Fr (fun _ => False) w w' := by
  obtain ⟨Z, rd, wt, sa, sb, h1, _⟩ := h.into
  exact l_used ok h1
theorem x_full (h : Pa a bs ss p g w U) (_gr : Gr w) (ok : g.Ok bs) : Calls Tryz.prog 189 #[.pointer (some ⟨p, 0, none⟩)] w fun e w' => e = .returned (.bool (decide g.Full)) ∧ Fr (fun _ => False) w w' := by
  obtain ⟨Z, rd, wt, sa, sb, h1, _⟩ := h.into
  exact (l_full ok h1).mono fun e w' ⟨he, hw⟩ => ⟨he, by rw [hw]; exact Fr.refl _ _⟩
end
end Go.Proofs.YtioplfbkfokkfaaGreatDoor

namespace Go.Proofs.YtioplfbkfokkfaaGreatDoor.Cq
open Go.RowKit

def NumsAt (w : World) (ad : Option Addr) (l : List Int) : Prop := ∀ i (h : i < l.length), ∃ b off, ad = some ⟨b, off, none⟩ ∧ b < w.heap.size ∧ w.cell? ⟨b, off + i, none⟩ = some (.int .i64 l[i])
theorem NumsAt.fr {w w' : World} {ad : Option Addr} {l : List Int} (h : NumsAt w ad l) (hf : Fr (fun _ => False) w w') : NumsAt w' ad l := fun i hi => by
  obtain ⟨b, off, h1, h2, h3⟩ := h i hi
  exact ⟨b, off, h1, by have := hf.size; omega, (World.cell?_of_block (hf.block b h2 (fun h => h))).trans h3⟩
theorem frOf {w w' : World} (f : ∃ m, w' = w.drewN m) : Fr (fun _ => False) w w' := by obtain ⟨m, rfl⟩ := f; exact (Fr.refl _ w).drewN m
def bl (l : List Bool) : List Value := l.map Value.bool
section
variable {w w' : World} {r t k : Nat} {has : List Bool}
end
end Go.Proofs.YtioplfbkfokkfaaGreatDoor.Cq

namespace Go.Proofs.YtioplfbkfokkfaaGreatDoor.Cq
open Go.RowKit

section
variable {w : World} {r t k : Nat} {has : List Bool} {ad : Option Addr} {l : List Int}
end
end Go.Proofs.YtioplfbkfokkfaaGreatDoor.Cq

namespace Go.Proofs.YtioplfbkfokkfaaGreatDoor.Cq
open Go.RowKit

structure Cf (w : World) (B : Nat) (n k : Int) : Prop where
  heap : w.heap[B]? = some (.cells #[.int .i64 n, .int .i64 k] 23 (0, 0))
section
variable {w w' : World} {B : Nat} {n k : Int}
theorem Cf.new (w : World) (n k : Int) : Cf (w.alloc (.cells #[.int .i64 n, .int .i64 k] 23)) w.heap.size n k := ⟨heap_alloc_new w _⟩
theorem Cf.lt (h : Cf w B n k) : B < w.heap.size := (Array.getElem?_eq_some_iff.1 h.heap).1
theorem Cf.carry {S : Nat → Prop} (h : Cf w B n k) (f : Fr S w w') (hn : ¬ S B) : Cf w' B n k := ⟨by rw [f.block B h.lt hn]; exact h.heap⟩
theorem Cf.kept (h : Cf w B n k) (f : Fr (fun _ => False) w w') : Cf w' B n k := h.carry f id
theorem Cf.alloc (h : Cf w B n k) (o : Obj) : Cf (w.alloc o) B n k := h.kept ((Fr.refl _ _).alloc o)
theorem Cf.c0 (h : Cf w B n k) : w.cell? ⟨B, 0, none⟩ = some (.int .i64 n) := by simp [World.cell?, h.heap]
theorem Cf.c1 (h : Cf w B n k) : w.cell? ⟨B, 1, none⟩ = some (.int .i64 k) := by simp [World.cell?, h.heap]
end
end Go.Proofs.YtioplfbkfokkfaaGreatDoor.Cq

namespace Go.Proofs.YtioplfbkfokkfaaGreatDoor.Cq

def colL (k m : Nat) (has : List Bool) (c : Nat) : List Bool := (List.range m).map fun j => has.getD (j * k + c) true
theorem colL_length (k m : Nat) (has : List Bool) (c : Nat) : (colL k m has c).length = m := by simp [colL]
theorem colL_get {k m : Nat} {has : List Bool} {c j : Nat} (h : j < (colL k m has c).length) : (colL k m has c)[j] = has.getD (j * k + c) true := by simp [colL]
theorem page_split {p k : Nat} (_hk : 0 < k) : p = p / k * k + p % k := by have := Nat.div_add_mod p k; rw [Nat.mul_comm] at this; exact this.symm
theorem page_of {c k j : Nat} (hc : c < k) : (j * k + c) % k = c ∧ (j * k + c) / k = j := by
  rw [Nat.add_comm, Nat.mul_comm]
  exact ⟨by rw [Nat.add_mul_mod_self_left, Nat.mod_eq_of_lt hc], by rw [Nat.add_mul_div_left _ _ (by omega), Nat.div_eq_of_lt hc, Nat.zero_add]⟩
theorem page_lt {c k j m : Nat} (hc : c < k) (hj : j < m) : j * k + c < m * k := by
  have h : (j + 1) * k ≤ m * k := Nat.mul_le_mul_right k hj
  rw [Nat.add_mul] at h; omega
theorem row_lt {p k m : Nat} (_hk : 0 < k) (h : p < m * k) : p / k < m := Nat.div_lt_of_lt_mul (by rw [Nat.mul_comm]; exact h)
theorem colL_set {k m : Nat} {has : List Bool} {p c : Nat} (b : Bool) (hk : 0 < k) (hl : has.length = m * k) (hp : p < m * k) (hc : c < k) : colL k m (has.set p b) c = if p % k = c then (colL k m has c).set (p / k) b else colL k m has c := by
  split
  · rename_i e
    apply List.ext_getElem (by simp [colL])
    intro j h1 h2
    rw [colL_get, List.getElem_set]
    rw [colL_length] at h1
    split
    · rename_i ej
      subst ej
      have : p / k * k + c = p := by rw [← e]; exact (page_split hk).symm
      rw [this, List.getD_eq_getElem?_getD, List.getElem?_set_self (by omega)]; rfl
    · rename_i ej
      rw [colL_get]
      rw [List.getD_eq_getElem?_getD, List.getElem?_set_ne, ← List.getD_eq_getElem?_getD]
      intro e2
      apply ej
      rw [e2]
      exact (page_of hc).2
  · rename_i e
    unfold colL
    apply List.map_congr_left
    intro j hj
    rw [List.getD_eq_getElem?_getD, List.getElem?_set_ne, ← List.getD_eq_getElem?_getD]
    intro e2
    apply e
    rw [e2]
    exact (page_of hc).1
theorem colL_rep (k m c : Nat) (hc : c < k) : colL k m (List.replicate (m * k) false) c = List.replicate m false := by
  apply List.ext_getElem (by simp [colL])
  intro j h1 h2
  rw [colL_length] at h1
  rw [colL_get, List.getElem_replicate, List.getD_eq_getElem?_getD, List.getElem?_replicate, if_pos (page_lt hc h1)]
  rfl

def ofC (k : Nat) (has : List Bool) (c p : Nat) : Bool := !(has.getD p true) && decide (p % k = c)
theorem low_col {k m : Nat} {has : List Bool} {c : Nat} (hc : c < k) : low (ofC k has c) (m * k) = if Sf.low (colL k m has c) < m then Sf.low (colL k m has c) * k + c else m * k := by
  have hl := colL_length k m has c
  have hbelow : ∀ i, i % k = c → i / k < Sf.low (colL k m has c) → i / k < m → has.getD i true = true := fun i hi hb hm => by
    have h1 := Sf.low_below (colL k m has c) (i / k) hb (by omega)
    rw [colL_get, ← hi, ← page_split (by omega)] at h1
    exact h1
  split
  · rename_i h
    refine low_unique _ _ _ (page_lt hc h) ?_ fun i hi => ?_
    · have h1 := Sf.low_at (colL k m has c) (by omega)
      rw [colL_get] at h1
      unfold ofC
      rw [h1, (page_of hc).1]; simp
    · unfold ofC
      by_cases e : i % k = c
      · have e1 := page_split (p := i) (k := k) (by omega)
        have : i / k < Sf.low (colL k m has c) := by
          refine Nat.lt_of_not_le fun hge => ?_
          have := Nat.mul_le_mul_right k hge
          omega
        rw [hbelow i e this (by omega)]; rfl
      · simp [e]
  · rename_i h
    refine low_none _ _ fun i hi => ?_
    unfold ofC
    by_cases e : i % k = c
    · have hr := row_lt (by omega) hi
      rw [hbelow i e (by have := Sf.low_le (colL k m has c); omega) hr]; rfl
    · simp [e]
theorem low_le (f : Nat → Bool) (n : Nat) : low f n ≤ n := by rcases low_cases f n with ⟨h, _⟩ | ⟨h, _⟩ <;> omega
theorem low_or (f g : Nat → Bool) (n : Nat) : low (fun p => f p || g p) n = min (low f n) (low g n) := by
  have hf := low_cases f n
  have hg := low_cases g n
  have lf := low_le f n
  have lg := low_le g n
  by_cases h : min (low f n) (low g n) < n
  · refine low_unique _ _ _ h ?_ fun i hi => ?_
    · by_cases h1 : low f n ≤ low g n
      · rw [Nat.min_eq_left h1] at h ⊢
        rcases hf with ⟨_, h2, _⟩ | ⟨h2, _⟩
        · simp [h2]
        · omega
      · rw [Nat.min_eq_right (by omega)] at h ⊢
        rcases hg with ⟨_, h2, _⟩ | ⟨h2, _⟩
        · simp [h2]
        · omega
    · have h1 : f i = false := by
        rcases hf with ⟨_, _, h2⟩ | ⟨h2, h3⟩
        · exact h2 i (by omega)
        · exact h3 i (by omega)
      have h2 : g i = false := by
        rcases hg with ⟨_, _, h2⟩ | ⟨h2, h3⟩
        · exact h2 i (by omega)
        · exact h3 i (by omega)
      simp [h1, h2]
  · have : min (low f n) (low g n) = n := by omega
    rw [this]
    refine low_none _ _ fun i hi => ?_
    have h1 : f i = false := by
      rcases hf with ⟨_, _, h2⟩ | ⟨h2, h3⟩
      · omega
      · exact h3 i hi
    have h2 : g i = false := by
      rcases hg with ⟨_, _, h2⟩ | ⟨h2, h3⟩
      · omega
      · exact h3 i hi
    simp [h1, h2]
theorem inW_snoc (k : Nat) (D : List Int) (c p : Nat) : inW k (D ++ [(c : Int)]) p = (inW k D p || decide (p % k = c)) := by
  unfold inW
  rw [List.any_append]
  congr 1
  simp only [List.any_cons, List.any_nil, Bool.or_false]
  rw [Bool.eq_iff_iff]; simp; omega
theorem meant_snoc (k : Nat) (has : List Bool) (D : List Int) (c p : Nat) : meant k has (D ++ [(c : Int)]) p = (meant k has D p || ofC k has c p) := by
  unfold meant ofC
  rw [inW_snoc, Bool.and_or_distrib_left]

def pickC (k : Nat) (acc : List Int) (x : Int) : List Int := if 0 ≤ x ∧ x < k ∧ x ∉ acc then acc ++ [x] else acc
def colsW (k : Nat) (win : List Int) : List Int := win.foldl (pickC k) []
theorem colsW_take {k : Nat} {win : List Int} {j : Nat} (h : j < win.length) : colsW k (win.take (j + 1)) = pickC k (colsW k (win.take j)) win[j] := by
  unfold colsW
  rw [List.take_add_one, List.getElem?_eq_getElem h, List.foldl_append]; rfl
theorem colsW_spec (k : Nat) (win : List Int) : ∀ j : Nat, j ≤ win.length → (∀ x ∈ colsW k (win.take j), 0 ≤ x ∧ x < k) ∧ (colsW k (win.take j)).Nodup ∧ ∀ x : Int, 0 ≤ x → x < k → (x ∈ colsW k (win.take j) ↔ x ∈ win.take j)
  | 0, _ => by simp [colsW]
  | j + 1, h => by
    obtain ⟨h1, h2, h3⟩ := colsW_spec k win j (by omega)
    rw [colsW_take (by omega), List.take_add_one, List.getElem?_eq_getElem (by omega)]
    generalize colsW k (win.take j) = D at *
    generalize win[j] = y at *
    generalize win.take j = l at *
    unfold pickC
    split
    · rename_i hy
      refine ⟨fun x hx => ?_, ?_, fun x hx0 hx1 => ?_⟩
      · rcases List.mem_append.1 hx with h | h
        · exact h1 x h
        · simp at h; subst h; exact ⟨hy.1, hy.2.1⟩
      · rw [List.nodup_append]
        refine ⟨h2, by simp, fun a ha b hb => ?_⟩
        simp at hb; subst hb
        exact fun e => hy.2.2 (e ▸ ha)
      · simp [h3 x hx0 hx1]
    · rename_i hy
      refine ⟨h1, h2, fun x hx0 hx1 => ?_⟩
      simp only [Option.toList_some, List.mem_append, List.mem_singleton]
      constructor
      · exact fun hx => .inl ((h3 x hx0 hx1).1 hx)
      · rintro (hx | hx)
        · exact (h3 x hx0 hx1).2 hx
        · subst hx
          exact Decidable.byContradiction fun hn => hy ⟨hx0, hx1, hn⟩
theorem nodup_short : ∀ (k : Nat) (l : List Int), l.Nodup → (∀ x ∈ l, 0 ≤ x ∧ x < (k : Int)) → l.length ≤ k
  | 0, l, _, h => by
    cases l with
    | nil => simp
    | cons x r => have := h x (by simp); omega
  | k + 1, l, hn, h => by
    have h1 := nodup_short k (l.erase (k : Int)) (hn.erase _) fun x hx => by
      rw [hn.mem_erase_iff] at hx
      have := h x hx.2
      have := hx.1
      omega
    have := List.length_erase (a := (k : Int)) (l := l)
    split at this <;> omega
theorem colsW_short (k : Nat) (win : List Int) (j : Nat) (h : j ≤ win.length) : (colsW k (win.take j)).length ≤ k := by
  obtain ⟨h1, h2, _⟩ := colsW_spec k win j h
  exact nodup_short k _ h2 h1
section
variable {k : Nat} {has : List Bool} {win : List Int}
theorem colsW_inW (hk : 0 < k) (p : Nat) : inW k (colsW k win) p = inW k win p := by
  obtain ⟨_, _, h3⟩ := colsW_spec k win win.length (Nat.le_refl _)
  rw [List.take_length] at h3
  have hm := Nat.mod_lt p hk
  unfold inW
  rw [Bool.eq_iff_iff, List.any_eq_true, List.any_eq_true]
  constructor
  · rintro ⟨x, hx, e⟩
    have e' : x = ((p % k : Nat) : Int) := by simpa using e
    exact ⟨x, (h3 x (by omega) (by omega)).1 hx, e⟩
  · rintro ⟨x, hx, e⟩
    have e' : x = ((p % k : Nat) : Int) := by simpa using e
    exact ⟨x, (h3 x (by omega) (by omega)).2 hx, e⟩
theorem colsW_meant (hk : 0 < k) : meant k has (colsW k win) = meant k has win := by funext p; unfold meant; rw [colsW_inW hk]
theorem colsW_takP (hk : 0 < k) : takP k has (colsW k win) = takP k has win := by unfold takP; rw [colsW_meant hk]
end
def loI (k : Nat) (has : List Bool) (win : List Int) : Int := if takP k has win < has.length then (takP k has win : Int) else -1
section
variable {k m : Nat} {has : List Bool} {D : List Int} {c : Nat}
theorem loI_nil : loI k has [] = -1 := by
  unfold loI takP
  rw [low_none _ _ fun i _ => by simp [meant, inW]]
  simp
theorem loI_snoc (hl : has.length = m * k) (hc : c < k) : loI k has (D ++ [(c : Int)]) = if 0 ≤ Sf.lowI (colL k m has c) ∧ (loI k has D < 0 ∨ Sf.lowI (colL k m has c) * k + c < loI k has D) then Sf.lowI (colL k m has c) * k + c else loI k has D := by
  have e1 : takP k has (D ++ [(c : Int)]) = min (takP k has D) (low (ofC k has c) (m * k)) := by
    unfold takP
    rw [show meant k has (D ++ [(c : Int)]) = fun p => meant k has D p || ofC k has c p from funext (meant_snoc k has D c), low_or, hl]
  have l1 : takP k has D ≤ has.length := low_le _ _
  have l2 := colL_length k m has c
  rw [low_col hc] at e1
  unfold loI Sf.lowI
  rw [e1, l2]
  by_cases h : Sf.low (colL k m has c) < m
  · have hp := page_lt hc h
    simp only [h, if_true]
    rw [show ((Sf.low (colL k m has c) : Int) * (k : Int) + (c : Int)) = ((Sf.low (colL k m has c) * k + c : Nat) : Int) by simp]
    generalize Sf.low (colL k m has c) * k + c = P at *
    generalize takP k has D = T at *
    by_cases hT : T < has.length
    · rw [if_pos hT, if_pos (by omega)]
      by_cases h2 : P < T
      · rw [Nat.min_eq_right (by omega), if_pos (by omega)]
      · rw [Nat.min_eq_left (by omega), if_neg (by omega)]
    · rw [if_neg hT, Nat.min_eq_right (by omega), if_pos (by omega), if_pos (by omega)]
  · simp only [h, if_false]
    rw [Nat.min_eq_left (by omega)]
    symm
    apply if_neg
    omega
end
theorem col_hasN {k m : Nat} {has : List Bool} {p : Nat} (hk : 0 < k) (hl : has.length = m * k) (hp : p < has.length) : Sf.hasN (colL k m has (p % k)) ((p / k : Nat) : Int) = true := by
  have := row_lt hk (hl ▸ hp)
  rw [Sf.hasN_iff, colL_length]
  exact ⟨Int.natCast_nonneg _, Int.ofNat_lt.2 this⟩
theorem col_isT {k m : Nat} {has : List Bool} {p : Nat} (hk : 0 < k) (hl : has.length = m * k) (hp : p < has.length) : Sf.isT (colL k m has (p % k)) ((p / k : Nat) : Int) = has.getD p true := by
  have := row_lt hk (hl ▸ hp)
  unfold Sf.isT
  rw [col_hasN hk hl hp, Bool.true_and, Int.toNat_natCast, List.getD_eq_getElem?_getD, List.getElem?_eq_getElem (by rw [colL_length]; exact this), colL_get, ← page_split hk]
  rfl
end Go.Proofs.YtioplfbkfokkfaaGreatDoor.Cq

namespace Go.Proofs.YtioplfbkfokkfaaGreatDoor.Cq
open Go.RowKit

theorem Tryz.infoInt : (Tryz.prog.info? 3).map (fun i => (i.zero, i.size, i.bytes)) = some (some (.int .i64 0), 1, 8) := by kernel_rfl
def ic (l : List Int) : List Value := l.map fun x => Value.int .i64 x
theorem ic_length (l : List Int) : (ic l).length = l.length := by simp [ic]
theorem ic_one (l : List Int) : ∀ u ∈ ic l, u.oneCell' = true := by
  intro v hv; simp only [ic, List.mem_map] at hv; obtain ⟨x, _, rfl⟩ := hv; rfl
theorem nums_row {w : World} {base g cap : Nat} {l : List Int} (h : w.ownsRow base 3 1 (.slice (some ⟨g, 0, none⟩) l.length cap) l.length (ic l)) : NumsAt w (some ⟨g, 0, none⟩) l := fun i hi => by
  refine ⟨g, 0, rfl, (h.lt g rfl).2, ?_⟩
  have := h.cells (g := g) rfl i (.int .i64 l[i]) (by simp [ic, hi])
  rw [add_plain] at this
  exact this
end Go.Proofs.YtioplfbkfokkfaaGreatDoor.Cq
