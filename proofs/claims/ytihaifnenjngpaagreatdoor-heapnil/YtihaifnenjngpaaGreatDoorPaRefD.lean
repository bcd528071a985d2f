/-
  An arena as one thing in memory, more: bytes cleared, written, copied.
  What the document's page does: Has, Free.
  What the document's page does: New, Move.
-/
import Derived.Test.YtihaifnenjngpaaGreatDoorLists2
import Derived.Test.YtihaifnenjngpaaGreatDoorPaRefB
namespace Go.Proofs.YtihaifnenjngpaaGreatDoor
open Go.RowKit
open An

section
variable {w : World} {a : Nat} {Z : Nat → Prop} {bs : List UInt8} {ss : List Sp}
theorem am_zero (h : Am 128 a bs ss w Z) (p m : Nat) (hin : p + m ≤ bs.length) (hk : ss.length ≤ 1000000) : Calls Tryz.prog 204 #[.pointer (some ⟨a, 0, none⟩), .int .i64 p, .int .i64 m] w fun e w' => e = .returned (.int .i64 0) ∧ ∃ Z', Am 128 a (over bs p (List.replicate m 0)) (noted ss p m true) w' Z' ∧ Gw w w' Z Z' := by
  obtain ⟨B, b, v, h, h1, h2⟩ := h
  exact (zero_ok h p m hin hk).mono fun e w' ⟨he, hn⟩ => ⟨he, Am.noted h1 h2 hn⟩
theorem am_write (h : Am 128 a bs ss w Z) (p : Nat) (s : ByteArray) (hin : p + s.size ≤ bs.length) (hk : ss.length ≤ 1000000) : Calls Tryz.prog 85 #[.pointer (some ⟨a, 0, none⟩), .int .i64 p, .string s] w fun e w' => e = .returned (.int .i64 0) ∧ ∃ Z', Am 128 a (over bs p s.data.toList) (noted ss p s.size true) w' Z' ∧ Gw w w' Z Z' := by
  obtain ⟨B, b, v, h, h1, h2⟩ := h
  exact (write_ok h p s hin hk).mono fun e w' ⟨he, hn⟩ => ⟨he, Am.noted h1 h2 hn⟩
theorem am_copy (h : Am 128 a bs ss w Z) (p q m : Nat) (hin : p + m ≤ bs.length) (hin2 : q + m ≤ bs.length) (hk : ss.length < 1000000) : Calls Tryz.prog 149 #[.pointer (some ⟨a, 0, none⟩), .int .i64 p, .int .i64 q, .int .i64 m] w fun e w' => e = .returned (.int .i64 0) ∧ ∃ Z', Am 128 a (over bs p ((bs.drop q).take m)) (noted (noted ss q m false) p m true) w' Z' ∧ Gw w w' Z Z' := by
  obtain ⟨B, b, v, h, h1, h2⟩ := h
  exact (copy_ok h p q m hin hin2 hk).mono fun e w' ⟨he, hn⟩ => ⟨he, Am.noted h1 h2 hn⟩
theorem rm_zero (h : Am 68 a bs ss w Z) (p m : Nat) (hin : p + m ≤ bs.length) (hk : ss.length ≤ 1000000) : Calls Tryz.prog 115 #[.pointer (some ⟨a, 0, none⟩), .int .i64 p, .int .i64 m] w fun e w' => e = .returned (.int .i64 0) ∧ ∃ Z', Am 68 a (over bs p (List.replicate m 0)) (noted ss p m true) w' Z' ∧ Gw w w' Z Z' := by
  obtain ⟨B, b, v, h, h1, h2⟩ := h
  exact (rzero_ok h p m hin hk).mono fun e w' ⟨he, hn⟩ => ⟨he, Am.noted h1 h2 hn⟩
end
end Go.Proofs.YtihaifnenjngpaaGreatDoor

namespace Go.Proofs.YtihaifnenjngpaaGreatDoor
open Go.RowKit
open An

section
variable {w0 w : World} {Z0 Z : Nat → Prop} {p r rd wt : Nat} {bs : List UInt8} {ss : List Sp} {g : Pg}
theorem per_at (ok : g.Ok bs) {W : World} (ht : Tab W) : Hid (∀ w1, Fr (fun _ => False) W w1 → Calls Tryz.prog 65 #[.int .i64 g.kind] w1 fun e w' => e = .returned (.int .i64 (pp g.kind)) ∧ Fr (fun _ => False) w1 w') := fun w1 f => (r_per g.kind (K.start (ht.carry f id))).mono fun e w' ⟨he, k⟩ => ⟨by rw [he, (kind_facts g.kind ok.kind).2.2.2.2], k.fr⟩
theorem unit_at (ok : g.Ok bs) {W : World} (ht : Tab W) : Hid (∀ w1, Fr (fun _ => False) W w1 → Calls Tryz.prog 83 #[.int .i64 g.kind] w1 fun e w' => e = .returned (.int .i64 (pu g.kind)) ∧ Fr (fun _ => False) w1 w') := fun w1 f => (r_unit g.kind (K.start (ht.carry f id))).mono fun e w' ⟨he, k⟩ => ⟨by rw [he, (kind_facts g.kind ok.kind).2.2.2.1], k.fr⟩
set_option maxRecDepth 20000 in
set_option maxHeartbeats 2000000 in
theorem s_has (ht : Tab w) (ok : g.Ok bs) (h : Rp w0 Z0 w p r rd wt Z bs ss g) (k : Int) : Calls Tryz.prog 66 #[.pointer (some ⟨p, 0, none⟩), .int .i64 k] w fun e w' => e = .returned (.bool (decide (g.May k))) ∧ Fr (fun _ => False) w w' := by
  have H1 := per_at ok ht
  have HP := hid h
  have c2 := h.pw.c2
  have hp32 := (kind_facts g.kind ok.kind).2.1.2
  clear h ht ok
  by_cases h0 : 0 ≤ k
  case neg =>
    have he : Hid (decide (g.May k) = false) := decide_eq_false fun m => h0 m.1.1
    generalize decide (g.May k) = v at *
    go_enter Tryz.func66, Tryz.ntmps66
    go_wp2
    go_ret
    exact ⟨by rw [he.out]; simp, Fr.refl _ _⟩
  by_cases h1 : k < pp g.kind
  case neg =>
    have he : Hid (decide (g.May k) = false) := decide_eq_false fun m => h1 m.1.2
    generalize decide (g.May k) = v at *
    have h1' : (pp g.kind : Int) ≤ k := by omega
    go_enter Tryz.func66, Tryz.ntmps66
    go_wp2_with fail
    refine (H1.out _ (Fr.refl _ _)).mono ?_
    rintro e w1 ⟨rfl, f1⟩
    have F1 := hid f1
    clear f1 H1
    go_wp2
    go_ret
    exact ⟨by rw [he.out]; simp, F1.out⟩
  obtain ⟨k, rfl⟩ := Int.eq_ofNat_of_zero_le h0
  have he : Hid (decide (g.May (k : Int)) = decide (g.Had k)) := decide_eq_decide.2 ⟨fun m => m.2, fun m => ⟨⟨h0, h1⟩, m⟩⟩
  generalize decide (g.May (k : Int)) = v at *
  have hk32 : (k : Int) < 32 := by omega
  go_enter Tryz.func66, Tryz.ntmps66
  go_wp2_with fail
  refine (H1.out _ (Fr.refl _ _)).mono ?_
  rintro e w1 ⟨rfl, f1⟩
  have F1 := hid f1
  have hc := (HP.out.kept f1).pw.had k (by omega)
  rw [hads_get g k (by omega)] at hc
  clear f1 H1 HP
  go_wp2
  go_ret
  exact ⟨by rw [he.out]; simp, F1.out⟩
set_option maxRecDepth 20000 in
set_option maxHeartbeats 2000000 in
theorem s_free_no (ht : Tab w) (ok : g.Ok bs) (h : Rp w0 Z0 w p r rd wt Z bs ss g) (k : Int) (hm : ¬ g.May k) : Calls Tryz.prog 110 #[.pointer (some ⟨p, 0, none⟩), .int .i64 k] w fun e w' => e = .returned (.int .i64 (pfE g k)) ∧ Fr (fun _ => False) w w' := by
  have H1 := per_at ok ht
  have HP := hid h
  have c2 := h.pw.c2
  have hp32 := (kind_facts g.kind ok.kind).2.1.2
  clear h ht ok
  by_cases h0 : 0 ≤ k
  case neg =>
    have he : Hid (pfE g k = 12) := if_neg fun m => h0 m.1
    generalize pfE g k = v at *
    clear hm
    go_enter Tryz.func110, Tryz.ntmps110
    go_wp2
    go_ret
    exact ⟨by rw [he.out]; simp, Fr.refl _ _⟩
  by_cases h1 : k < pp g.kind
  case neg =>
    have he : Hid (pfE g k = 12) := if_neg fun m => h1 m.2
    generalize pfE g k = v at *
    have h1' : (pp g.kind : Int) ≤ k := by omega
    clear hm
    go_enter Tryz.func110, Tryz.ntmps110
    go_wp2_with fail
    refine (H1.out _ (Fr.refl _ _)).mono ?_
    rintro e w1 ⟨rfl, f1⟩
    have F1 := hid f1
    clear f1 H1
    go_wp2
    go_ret
    exact ⟨by rw [he.out]; simp, F1.out⟩
  obtain ⟨k, rfl⟩ := Int.eq_ofNat_of_zero_le h0
  have hn : ¬ g.Had k := fun m => hm ⟨⟨h0, h1⟩, m⟩
  have he : Hid (pfE g (k : Int) = 13) := (if_pos (show g.Block (k : Int) from ⟨h0, h1⟩)).trans (if_neg hn)
  generalize pfE g (k : Int) = v at *
  have hk32 : (k : Int) < 32 := by omega
  clear hm
  go_enter Tryz.func110, Tryz.ntmps110
  go_wp2_with fail
  refine (H1.out _ (Fr.refl _ _)).mono ?_
  rintro e w1 ⟨rfl, f1⟩
  have F1 := hid f1
  have hc := (HP.out.kept f1).pw.had k (by omega)
  rw [hads_get g k (by omega), decide_eq_false hn] at hc
  clear f1 H1 HP hn
  go_wp2
  go_ret
  exact ⟨by rw [he.out]; simp, F1.out⟩
set_option maxRecDepth 20000 in
set_option maxHeartbeats 4000000 in
theorem s_free_ok (ht : Tab w) (ok : g.Ok bs) (h : Rp w0 Z0 w p r rd wt Z bs ss g) (hk : ss.length < 1000000) (k : Nat) (hm : g.May k) : Calls Tryz.prog 110 #[.pointer (some ⟨p, 0, none⟩), .int .i64 k] w fun e w' => e = .returned (.int .i64 0) ∧ ∃ Z', Rp w0 Z0 w' p r rd wt Z' (pfB g bs k) (pfT g ss k) (pfS g k) := by
  have H1 := per_at ok ht
  have H2 := unit_at ok ht
  obtain ⟨⟨h0, h1⟩, hh⟩ := id hm
  have hkp : k < pp g.kind := by omega
  obtain ⟨⟨u1, u2⟩, ⟨_, hp32⟩, _⟩ := kind_facts g.kind ok.kind
  have hb := ok.block hkp
  have hfit := ok.fit
  have hle := h.am.le
  have hk32 : (k : Int) < 32 := by omega
  have hpos : k * pu g.kind + g.base = g.pos k := by unfold Pg.pos; omega
  have r1 : IntKind.i64.wrap ((k : Int) * (pu g.kind : Int)) = ((k * pu g.kind : Nat) : Int) := by rw [← Int.natCast_mul]; exact wrapI _ (by omega) (by omega)
  have r2 : IntKind.i64.wrap ((g.base : Int) + ((k * pu g.kind : Nat) : Int)) = (g.pos k : Int) := by rw [wrapI _ (by omega) (by omega)]; omega
  have eT : pfT g ss k = ss ++ [((g.pos k : Int), (pu g.kind : Int), true)] ++ [((g.pos k : Int), (8 : Int), true)] := if_pos hm
  have eB : pfB g bs k = over (over bs (g.pos k) (List.replicate (pu g.kind) 0)) (g.pos k) (leb (lnk g.D) 8) := if_pos hm
  have eS : pfS g k = ⟨g.base, g.kind, g.fresh, g.R, k :: g.D⟩ := if_pos hm
  have eL : (over bs (g.pos k) (List.replicate (pu g.kind) 0)).length = bs.length := over_length _ _ _ (by rw [List.length_replicate]; omega)
  have H3 : Hid (∀ w1, Rp w0 Z0 w1 p r rd wt Z bs ss g → Calls Tryz.prog 115 #[.pointer (some ⟨r, 0, none⟩), .int .i64 (g.pos k), .int .i64 (pu g.kind)] w1 fun e w' => e = .returned (.int .i64 0) ∧ ∃ Z', Rp w0 Z0 w' p r rd wt Z' (over bs (g.pos k) (List.replicate (pu g.kind) 0)) (ss ++ [((g.pos k : Int), (pu g.kind : Int), true)]) g) := fun w1 h1 => (rm_zero h1.am (g.pos k) (pu g.kind) (by omega) (by omega)).mono fun e w' ⟨he, Z', a1, a2⟩ => by
    have en : noted ss (g.pos k) (pu g.kind) true = ss ++ [((g.pos k : Int), (pu g.kind : Int), true)] := if_pos (by omega)
    rw [en] at a1
    exact ⟨he, Z', h1.arena a1 a2⟩
  have hld : lnk g.D ≤ pp g.kind := by
    cases hD : g.D with
    | nil => exact Nat.zero_le _
    | cons y L => exact ok.ld y (by rw [hD]; exact List.mem_cons_self ..)
  have H4 : Hid (∀ w1 Z1, Rp w0 Z0 w1 p r rd wt Z1 (over bs (g.pos k) (List.replicate (pu g.kind) 0)) (ss ++ [((g.pos k : Int), (pu g.kind : Int), true)]) g → Calls Tryz.prog 166 #[.pointer (some ⟨wt, 0, none⟩), .int .i64 k] w1 fun e w' => e = .returned (.int .i64 0) ∧ ∃ Z', Rpr w0 Z0 w' p r rd wt Z' (pfB g bs k) (pfT g ss k) g.base g.kind g.fresh (hads g) (g.ck (lnk g.R)) (g.ck (k + 1))) := fun w1 Z1 h1 => by
    rw [eT, eB]
    exact (r_push_ok h1.qw h1.am (by rw [eL]; exact ok.ck hld) h1.z3 (by simp; omega) hkp).mono fun e w' ⟨he, Z', hL⟩ => ⟨he, Z', h1.waiting hL⟩
  have HH : Hid (hads (pfS g k) = (hads g).set k false) := by
    show _ = _
    rw [eS]
    refine hads_set fun i hi => ?_
    show (i < g.fresh ∧ i ∉ g.R ∧ i ∉ k :: g.D) ↔ _
    by_cases hi : i = k
    · subst hi
      rw [if_pos rfl]
      exact ⟨fun m => (m.2.2 (List.mem_cons_self ..)).elim, fun m => by cases m⟩
    · rw [if_neg hi, List.mem_cons, not_or]
      exact ⟨fun ⟨a, b, c⟩ => ⟨a, b, c.2⟩, fun ⟨a, b, c⟩ => ⟨a, b, hi, c⟩⟩
  have HE := hid eS
  have HPa := hid h
  have HH2 : Hid (g.Had k) := hh
  clear h ht ok hm hh eT eB eS eL hld hpos hb hfit hle hk
  generalize pfB g bs k = bs2 at *
  generalize pfT g ss k = ss2 at *
  generalize g.pos k = ps at *
  generalize k * pu g.kind = m at *
  have ca2 := HPa.out.pw.c2
  go_enter Tryz.func110, Tryz.ntmps110
  go_wp2_with fail
  refine (H1.out _ (Fr.refl _ _)).mono ?_
  rintro e w1 ⟨rfl, f1⟩
  have HPb := hid (HPa.out.kept f1)
  have F1 := hid f1
  have hc := (HPa.out.kept f1).pw.had k (by omega)
  rw [hads_get g k (by omega), decide_eq_true HH2.out] at hc
  have cb0 := HPb.out.pw.c0
  have cb1 := HPb.out.pw.c1
  have cb2 := HPb.out.pw.c2
  clear f1 H1 HPa ca2
  go_wp2_with fail
  go_region_held3 (fun w' => w'.cell? ⟨p, 0, none⟩ = some (.pointer (some ⟨r, 0, none⟩)) ∧ w'.cell? ⟨p, 1, none⟩ = some (.int .i64 g.base) ∧ w'.cell? ⟨p, 2, none⟩ = some (.int .i64 g.kind)) (first | exact ⟨by assumption, by assumption, by assumption⟩ | go_keep) (first | (go_at_call 83; refine (H2.out _ (F1.out.trans (Fr.refl _ _).drew)).mono ?_; rintro e w2 ⟨rfl, f2⟩; have HPc := hid (HPb.out.kept ((Fr.refl (fun _ => False) _).drew.trans f2)); have F2 := hid ((F1.out.trans (Fr.refl (fun _ => False) _).drew).trans f2); have cc0 := HPc.out.pw.c0; have cc1 := HPc.out.pw.c1; have cc2 := HPc.out.pw.c2; clear f2 HPb F1) | (go_at_call 83; refine (H2.out _ F2.out).mono ?_; rintro e w3 ⟨rfl, f3⟩; have HPd := hid (HPc.out.kept f3); have cd0 := HPd.out.pw.c0; have cd1 := HPd.out.pw.c1; have cd2 := HPd.out.pw.c2; clear f3 HPc F2) | (go_at_call 115; refine (H3.out _ HPd.out).mono ?_; rintro e w4 ⟨rfl, Z4, h4⟩; have HPe := hid h4; have ce0 := HPe.out.pw.c0; have ce1 := HPe.out.pw.c1; have ce2 := HPe.out.pw.c2; have ce37 := HPe.out.pw.c37; clear h4 HPd))
  go_wp2_with fail
  refine (H4.out _ _ HPe.out).mono ?_
  rintro e w5 ⟨rfl, Z5, h5⟩
  have HPf := hid h5
  obtain ⟨hv, hc5⟩ : ∃ b, w5.cell? ⟨p, 4 + k, none⟩ = some (.bool b) := ⟨_, h5.pw.had k (by omega)⟩
  have fz := h5.pw.fz
  clear h5 HPe H2 H3 H4
  go_wp2
  go_ret
  refine ⟨by simp, Z5, ?_⟩
  have h6 := HPf.out.own (HPf.out.pw.setHad k (by omega) false)
  rw [← HH.out] at h6
  show Rpr w0 Z0 _ p r rd wt Z5 bs2 ss2 (pfS g k).base (pfS g k).kind (pfS g k).fresh (hads (pfS g k)) ((pfS g k).ck (lnk (pfS g k).R)) ((pfS g k).ck (lnk (pfS g k).D))
  rw [HE.out] at h6 ⊢
  exact h6
theorem s_free (ht : Tab w) (ok : g.Ok bs) (h : Rp w0 Z0 w p r rd wt Z bs ss g) (hk : ss.length < 1000000) (k : Int) : Calls Tryz.prog 110 #[.pointer (some ⟨p, 0, none⟩), .int .i64 k] w fun e w' => e = .returned (.int .i64 (pfE g k)) ∧ ∃ Z', Rp w0 Z0 w' p r rd wt Z' (pfB g bs k) (pfT g ss k) (pfS g k) := by
  by_cases hm : g.May k
  · obtain ⟨k, rfl⟩ := Int.eq_ofNat_of_zero_le hm.1.1
    have he : pfE g (k : Int) = 0 := (if_pos hm.1).trans (if_pos hm.2)
    rw [he]
    exact s_free_ok ht ok h hk k hm
  · have e1 : pfB g bs k = bs := if_neg hm
    have e2 : pfT g ss k = ss := if_neg hm
    have e3 : pfS g k = g := if_neg hm
    rw [e1, e2, e3]
    exact (s_free_no ht ok h k hm).mono fun e w' ⟨he, f⟩ => ⟨he, Z, h.kept f⟩
end
end Go.Proofs.YtihaifnenjngpaaGreatDoor

namespace Go.Proofs.YtihaifnenjngpaaGreatDoor
open Go.RowKit
open An

/-- May a page lie there? -/
abbrev Fits (n : Nat) (x : Int) : Prop := 0 ≤ x ∧ x % 512 = 0 ∧ x + 512 ≤ n
def pmE (n : Nat) (x : Int) : Int := if Fits n x then 0 else 12
def pmS (g : Pg) (n : Nat) (x : Int) : Pg := if Fits n x then ⟨x.toNat, g.kind, g.fresh, g.R, g.D⟩ else g
/-- A page that is being made. -/
def obP (r x kd : Nat) (v1 v2 : Value) : Obj := .cells ([Value.pointer (some ⟨r, 0, none⟩), Value.int .i64 x, Value.int .i64 kd, Value.int .i64 0] ++ ((List.replicate 32 false).map Value.bool ++ [v1, v2])).toArray 185 (0, 0)
theorem obP_36 {w : World} {P r x kd : Nat} {v1 v2 : Value} (h : w.heap[P]? = some (obP r x kd v1 v2)) (v : Value) : (w.setCell ⟨P, 36, none⟩ v).heap[P]? = some (obP r x kd v v2) := by
  have : (w.setCell ⟨P, 36, none⟩ v).heap[P]? = some (.cells (([Value.pointer (some ⟨r, 0, none⟩), Value.int .i64 x, Value.int .i64 kd, Value.int .i64 0] ++ ((List.replicate 32 false).map Value.bool ++ [v1, v2])).toArray.setIfInBounds 36 v) 185 (0, 0)) := by
    unfold obP at h
    simp only [World.setCell, Array.getElem?_modify, h]
    rfl
  rw [this]
  rfl
theorem obP_37 {w : World} {P r x kd : Nat} {v1 v2 : Value} (h : w.heap[P]? = some (obP r x kd v1 v2)) (v : Value) : (w.setCell ⟨P, 37, none⟩ v).heap[P]? = some (obP r x kd v1 v) := by
  have : (w.setCell ⟨P, 37, none⟩ v).heap[P]? = some (.cells (([Value.pointer (some ⟨r, 0, none⟩), Value.int .i64 x, Value.int .i64 kd, Value.int .i64 0] ++ ((List.replicate 32 false).map Value.bool ++ [v1, v2])).toArray.setIfInBounds 37 v) 185 (0, 0)) := by
    unfold obP at h
    simp only [World.setCell, Array.getElem?_modify, h]
    rfl
  rw [this]
  rfl
theorem obP_cell {w : World} {P r x kd : Nat} {v1 v2 : Value} (h : w.heap[P]? = some (obP r x kd v1 v2)) : w.cell? ⟨P, 36, none⟩ = some v1 ∧ w.cell? ⟨P, 37, none⟩ = some v2 ∧ ∀ k, w.frozen? ⟨P, k, none⟩ = false := by
  unfold obP at h
  simp [World.cell?, World.frozen?, h]
section
variable {w0 w : World} {Z0 Z : Nat → Prop} {a p r rd wt : Nat} {bs : List UInt8} {ss : List Sp} {g : Pg}
set_option maxRecDepth 20000 in
set_option maxHeartbeats 1000000 in
theorem s_fits (h : Am 68 a bs ss w Z) (x : Int) : Calls Tryz.prog 161 #[.pointer (some ⟨a, 0, none⟩), .int .i64 x] w fun e w' => e = .returned (.bool (decide (Fits bs.length x))) ∧ w' = w := by
  obtain ⟨b, c0⟩ := h.b0
  have hl := h.le
  clear h
  generalize bs.length = n at *
  by_cases h0 : 0 ≤ x
  case neg =>
    have he : Hid (decide (Fits n x) = false) := decide_eq_false fun m => h0 m.1
    generalize decide (Fits n x) = v at *
    go_enter Tryz.func161, Tryz.ntmps161
    go_wp2
    go_ret
    exact ⟨by rw [he.out]; simp, rfl⟩
  have ht := Int.tmod_eq_emod_of_nonneg (b := 512) h0
  by_cases h1 : x % 512 = 0
  case neg =>
    have he : Hid (decide (Fits n x) = false) := decide_eq_false fun m => h1 m.2.1
    generalize decide (Fits n x) = v at *
    have hb : ((x % 512) == 0) = false := by simp; omega
    go_enter Tryz.func161, Tryz.ntmps161
    go_wp2
    go_ret
    exact ⟨by rw [he.out]; simp, rfl⟩
  by_cases h2 : x ≤ n
  case neg =>
    have he : Hid (decide (Fits n x) = false) := decide_eq_false fun m => h2 (by omega)
    generalize decide (Fits n x) = v at *
    go_enter Tryz.func161, Tryz.ntmps161
    go_wp2
    go_ret
    exact ⟨by rw [he.out]; simp, rfl⟩
  have hw : IntKind.i64.wrap ((n : Int) - x) = n - x := wrapI _ (by omega) (by omega)
  by_cases h3 : (512 : Int) ≤ n - x
  · have he : Hid (decide (Fits n x) = true) := decide_eq_true ⟨h0, h1, by omega⟩
    generalize decide (Fits n x) = v at *
    go_enter Tryz.func161, Tryz.ntmps161
    go_wp2
    go_ret
    exact ⟨by rw [he.out]; simp, rfl⟩
  · have he : Hid (decide (Fits n x) = false) := decide_eq_false fun m => h3 (by omega)
    generalize decide (Fits n x) = v at *
    go_enter Tryz.func161, Tryz.ntmps161
    go_wp2
    go_ret
    exact ⟨by rw [he.out]; simp, rfl⟩
set_option maxRecDepth 20000 in
set_option maxHeartbeats 2000000 in
theorem s_move (ok : g.Fit bs.length) (h : Rp w0 Z0 w p r rd wt Z bs ss g) (x : Int) : Calls Tryz.prog 119 #[.pointer (some ⟨p, 0, none⟩), .int .i64 x] w fun e w' => e = .returned (.int .i64 (pmE bs.length x)) ∧ Rp w0 Z0 w' p r rd wt Z bs ss (pmS g bs.length x) := by
  have H1 : Hid (∀ w1, Fr (fun _ => False) w w1 → Calls Tryz.prog 161 #[.pointer (some ⟨r, 0, none⟩), .int .i64 x] w1 fun e w' => e = .returned (.bool (decide (Fits bs.length x))) ∧ w' = w1) := fun w1 f => s_fits (h.am.kept f) x
  have HP := hid h
  have c0 := h.pw.c0
  by_cases hf : Fits bs.length x
  · rw [decide_eq_true hf] at H1
    have hE : pmE bs.length x = 0 := if_pos hf
    have hS : pmS g bs.length x = ⟨x.toNat, g.kind, g.fresh, g.R, g.D⟩ := if_pos hf
    obtain ⟨x, rfl⟩ := Int.eq_ofNat_of_zero_le hf.1
    have hkf := kind_facts g.kind ok.kind
    have hlr := ok.r
    have hld := ok.d
    have hlie : ∀ v, (g.ck v).Lies bs.length (x : Int) := fun v => ⟨hf.1, by show (x : Int) + ((pu g.kind * pp g.kind : Nat) : Int) ≤ _; have := hf.2.2; have := hkf.2.2.1; omega⟩
    have HR : Hid (∀ w1 at_ kw, Rpr w0 Z0 w1 p r rd wt Z bs ss at_ g.kind g.fresh (hads g) (g.ck (lnk g.R)) kw → Calls Tryz.prog 170 #[.pointer (some ⟨rd, 0, none⟩), .int .i64 x] w1 fun e w' => e = .returned (.int .i64 0) ∧ Rpr w0 Z0 w' p r rd wt Z bs ss at_ g.kind g.fresh (hads g) ⟨x, pu g.kind, pp g.kind, lnk g.R⟩ kw) := fun w1 at_ kw h1 => by
      refine (r_move h1.qr h1.am (ok.ck hlr) (x : Int)).mono fun e w' ⟨he, q, f⟩ => ⟨by rw [he]; unfold moE; rw [if_pos (hlie _)], ?_⟩
      unfold moS at q
      rw [if_pos (hlie _)] at q
      exact h1.ready (Left.own h1.am h1.z2 q f)
    have HW : Hid (∀ w1 at_ kr, Rpr w0 Z0 w1 p r rd wt Z bs ss at_ g.kind g.fresh (hads g) kr (g.ck (lnk g.D)) → Calls Tryz.prog 170 #[.pointer (some ⟨wt, 0, none⟩), .int .i64 x] w1 fun e w' => e = .returned (.int .i64 0) ∧ Rpr w0 Z0 w' p r rd wt Z bs ss at_ g.kind g.fresh (hads g) kr ⟨x, pu g.kind, pp g.kind, lnk g.D⟩) := fun w1 at_ kr h1 => by
      refine (r_move h1.qw h1.am (ok.ck hld) (x : Int)).mono fun e w' ⟨he, q, f⟩ => ⟨by rw [he]; unfold moE; rw [if_pos (hlie _)], ?_⟩
      unfold moS at q
      rw [if_pos (hlie _)] at q
      exact h1.waiting (Left.own h1.am h1.z3 q f)
    rw [hE, hS]
    clear h ok hf hE hS hkf hlr hld hlie
    go_enter Tryz.func119, Tryz.ntmps119
    go_wp2_with fail
    refine (H1.out _ (Fr.refl _ _)).mono ?_
    rintro e w1 ⟨rfl, hw⟩
    obtain rfl := hw.symm
    clear hw H1
    have c1 := HP.out.pw.c1
    have fz := HP.out.pw.fz
    have h2 := HP.out.own (HP.out.pw.setAt (x : Int))
    have HP2 := hid h2
    have d36 := h2.pw.c36
    clear h2
    go_wp2_with fail
    refine (HR.out _ _ _ HP2.out).mono ?_
    rintro e w3 ⟨rfl, h3⟩
    have HP3 := hid h3
    have e37 := h3.pw.c37
    clear h3 HP2 HR d36 c0 c1 fz HP
    go_wp2_with fail
    refine (HW.out _ _ _ HP3.out).mono ?_
    rintro e w4 ⟨rfl, h4⟩
    have HP4 := hid h4
    clear h4 HP3 HW e37
    go_wp2
    go_ret
    exact ⟨by simp, HP4.out⟩
  · rw [decide_eq_false hf] at H1
    have hE : pmE bs.length x = 12 := if_neg hf
    have hS : pmS g bs.length x = g := if_neg hf
    rw [hE, hS]
    clear h ok hf hE hS
    go_enter Tryz.func119, Tryz.ntmps119
    go_wp2_with fail
    refine (H1.out _ (Fr.refl _ _)).mono ?_
    rintro e w1 ⟨rfl, hw⟩
    obtain rfl := hw.symm
    clear hw H1
    go_wp2
    go_ret
    exact ⟨by simp, HP.out⟩
theorem s_new_no (h : Am 68 a bs ss w Z) {x kd : Int} (hn : ¬ ((0 ≤ kd ∧ kd ≤ 7) ∧ Fits bs.length x)) : Calls Tryz.prog 103 #[.pointer (some ⟨a, 0, none⟩), .int .i64 x, .int .i64 kd] w fun e w' => e = .returned (.tuple #[.pointer none, .int .i64 12]) ∧ w' = w := by
  have H1 := hid (s_fits h x)
  clear h
  by_cases h0 : kd < 0
  · clear hn
    go_enter Tryz.func103, Tryz.ntmps103
    go_wp2
    go_ret2
    exact ⟨by simp, rfl⟩
  by_cases h1 : 7 < kd
  · clear hn
    go_enter Tryz.func103, Tryz.ntmps103
    go_wp2
    go_ret2
    exact ⟨by simp, rfl⟩
  rw [decide_eq_false fun m => hn ⟨⟨by omega, by omega⟩, m⟩] at H1
  clear hn
  go_enter Tryz.func103, Tryz.ntmps103
  go_wp2_with fail
  refine H1.out.mono ?_
  rintro e w1 ⟨rfl, hw⟩
  obtain rfl := hw.symm
  clear hw
  go_wp2
  go_ret2
  exact ⟨by simp, rfl⟩
set_option maxRecDepth 20000 in
set_option maxHeartbeats 4000000 in
theorem s_new (ht : Tab w) (h : Am 68 r bs ss w Z) {x kd : Nat} (hk : kd ≤ 7) (hf : Fits bs.length x) : Calls Tryz.prog 103 #[.pointer (some ⟨r, 0, none⟩), .int .i64 x, .int .i64 kd] w fun e w' => ∃ p rd wt, e = .returned (.tuple #[.pointer (some ⟨p, 0, none⟩), .int .i64 0]) ∧ (w.heap.size ≤ p ∧ w.heap.size ≤ rd ∧ w.heap.size ≤ wt) ∧ Fr (fun _ => False) w w' ∧ Rw12 w' p r x kd 0 (List.replicate 32 false) rd wt ∧ Rch w' rd r ⟨x, pu kd, pp kd, 0⟩ ∧ Rch w' wt r ⟨x, pu kd, pp kd, 0⟩ ∧ p ≠ rd ∧ p ≠ wt ∧ rd ≠ wt := by
  have H1 := hid (s_fits h (x : Int))
  rw [decide_eq_true hf] at H1
  have hkf := kind_facts kd hk
  have HU : Hid (∀ w1, Fr (fun k => w.heap.size ≤ k) w w1 → Calls Tryz.prog 83 #[.int .i64 kd] w1 fun e w' => e = .returned (.int .i64 (pu kd)) ∧ Fr (fun _ => False) w1 w') := fun w1 f => (r_unit kd (K.start (ht.carry f (by have := ht.pos; omega)))).mono fun e w' ⟨he, k⟩ => ⟨by rw [he, hkf.2.2.2.1], k.fr⟩
  have HPe : Hid (∀ w1, Fr (fun k => w.heap.size ≤ k) w w1 → Calls Tryz.prog 65 #[.int .i64 kd] w1 fun e w' => e = .returned (.int .i64 (pp kd)) ∧ Fr (fun _ => False) w1 w') := fun w1 f => (r_per kd (K.start (ht.carry f (by have := ht.pos; omega)))).mono fun e w' ⟨he, k⟩ => ⟨by rw [he, hkf.2.2.2.2], k.fr⟩
  have hno : NewOk bs.length (x : Int) (pu kd : Int) (pp kd : Int) := ⟨⟨by omega, by omega⟩, ⟨by omega, by omega⟩, by omega, by rw [← Int.natCast_mul]; have := hf.2.2; have := hkf.2.2.1; omega⟩
  have HN : Hid (∀ w1, Fr (fun k => w.heap.size ≤ k) w w1 → Calls Tryz.prog 162 #[.pointer (some ⟨r, 0, none⟩), .int .i64 x, .int .i64 (pu kd), .int .i64 (pp kd)] w1 fun e w' => ∃ c, e = .returned (.tuple #[.pointer (some ⟨c, 0, none⟩), .int .i64 0]) ∧ w1.heap.size ≤ c ∧ Rch w' c r ⟨x, pu kd, pp kd, 0⟩ ∧ Fr (fun _ => False) w1 w') := fun w1 f => r_new ((Am.good _ _ _ _).carry h f fun i hi e => by have := h.lt i hi; omega) hno
  have g1 : ¬ (kd : Int) < 0 := by omega
  have g2 : ¬ 7 < (kd : Int) := by omega
  clear h ht hf hkf hno hk
  go_enter Tryz.func103, Tryz.ntmps103
  go_wp2_with fail
  refine H1.out.mono ?_
  rintro e w1 ⟨rfl, hw⟩
  obtain rfl := hw.symm
  clear hw H1
  have HO : Hid ((w.alloc (.cells #[.pointer (some ⟨r, 0, none⟩), .int .i64 x, .int .i64 kd, .int .i64 0, .bool false, .bool false, .bool false, .bool false, .bool false, .bool false, .bool false, .bool false, .bool false, .bool false, .bool false, .bool false, .bool false, .bool false, .bool false, .bool false, .bool false, .bool false, .bool false, .bool false, .bool false, .bool false, .bool false, .bool false, .bool false, .bool false, .bool false, .bool false, .bool false, .bool false, .bool false, .bool false, .pointer none, .pointer none] 185)).heap[w.heap.size]? = some (obP r x kd (.pointer none) (.pointer none))) := heap_alloc_new w _
  have HF0 := hid ((Fr.refl (fun k => w.heap.size ≤ k) w).alloc (.cells #[.pointer (some ⟨r, 0, none⟩), .int .i64 x, .int .i64 kd, .int .i64 0, .bool false, .bool false, .bool false, .bool false, .bool false, .bool false, .bool false, .bool false, .bool false, .bool false, .bool false, .bool false, .bool false, .bool false, .bool false, .bool false, .bool false, .bool false, .bool false, .bool false, .bool false, .bool false, .bool false, .bool false, .bool false, .bool false, .bool false, .bool false, .bool false, .bool false, .bool false, .bool false, .pointer none, .pointer none] 185))
  generalize hP : w.heap.size = P at *
  go_wp2_with fail
  refine (HU.out _ HF0.out).mono ?_
  rintro e w2 ⟨rfl, f2⟩
  have HF2 := hid (HF0.out.trans (f2.mono fun _ _ e => e.elim))
  have HO2 : Hid (w2.heap[P]? = some (obP r x kd (.pointer none) (.pointer none))) := (f2.block P (Array.getElem?_eq_some_iff.1 HO.out).1 id).trans HO.out
  clear f2 HF0 HO
  go_wp2_with fail
  refine (HPe.out _ HF2.out).mono ?_
  rintro e w3 ⟨rfl, f3⟩
  have HF3 := hid (HF2.out.trans (f3.mono fun _ _ e => e.elim))
  have HO3 : Hid (w3.heap[P]? = some (obP r x kd (.pointer none) (.pointer none))) := (f3.block P (Array.getElem?_eq_some_iff.1 HO2.out).1 id).trans HO2.out
  clear f3 HF2 HO2
  go_wp2_with fail
  refine (HN.out _ HF3.out).mono ?_
  rintro e w4 ⟨rd, rfl, hrd, q4, f4⟩
  have hP3 : P < w3.heap.size := (Array.getElem?_eq_some_iff.1 HO3.out).1
  have HO4 : Hid (w4.heap[P]? = some (obP r x kd (.pointer none) (.pointer none))) := (f4.block P hP3 id).trans HO3.out
  have k4 := obP_cell HO4.out
  obtain ⟨a1, a2, a3⟩ := k4
  have hne : Hid (P ≠ rd) := by show P ≠ rd; omega
  have f5 : Fr (fun i => i = P) w4 (w4.setCell ⟨P, 36, none⟩ (.pointer (some ⟨rd, 0, none⟩))) := Fr.setCell (S := fun i => i = P) (p := ⟨P, 36, none⟩) (Fr.refl _ _) rfl _
  have HO5 := hid (obP_36 HO4.out (.pointer (some ⟨rd, 0, none⟩)))
  have HQ5 := hid (Rch.chain.carry q4 f5 fun e => hne.out e.symm)
  have HF5 := hid ((HF3.out.trans (f4.mono fun _ _ e => e.elim)).trans (f5.mono fun i _ e => by show P ≤ i; omega))
  have HLE : Hid (P ≤ rd) := by show P ≤ rd; omega
  clear hrd q4 f4 f5 HF3 HO3 HO4 hP3
  go_wp2_with fail
  refine (HU.out _ HF5.out).mono ?_
  rintro e w6 ⟨rfl, f6⟩
  have HF6 := hid (HF5.out.trans (f6.mono fun _ _ e => e.elim))
  have HO6 := hid ((f6.block P (Array.getElem?_eq_some_iff.1 HO5.out).1 id).trans HO5.out)
  have HQ6 := hid (Rch.chain.carry HQ5.out f6 id)
  clear f6 HF5 HO5 HQ5 a1 a2 a3
  go_wp2_with fail
  refine (HPe.out _ HF6.out).mono ?_
  rintro e w7 ⟨rfl, f7⟩
  have HF7 := hid (HF6.out.trans (f7.mono fun _ _ e => e.elim))
  have HO7 := hid ((f7.block P (Array.getElem?_eq_some_iff.1 HO6.out).1 id).trans HO6.out)
  have HQ7 := hid (Rch.chain.carry HQ6.out f7 id)
  clear f7 HF6 HO6 HQ6
  go_wp2_with fail
  refine (HN.out _ HF7.out).mono ?_
  rintro e w8 ⟨wt, rfl, hwt, q8, f8⟩
  have hP7 : P < w7.heap.size := (Array.getElem?_eq_some_iff.1 HO7.out).1
  have HO8 := hid ((f8.block P hP7 id).trans HO7.out)
  have HQ8 := hid (Rch.chain.carry HQ7.out f8 id)
  have hr7 : rd < w7.heap.size := Rch.chain.lt HQ7.out
  obtain ⟨a1, a2, a3⟩ := obP_cell HO8.out
  have hne2 : Hid (P ≠ wt ∧ rd ≠ wt ∧ P ≤ wt) := ⟨by omega, by omega, by omega⟩
  have f9 : Fr (fun i => i = P) w8 (w8.setCell ⟨P, 37, none⟩ (.pointer (some ⟨wt, 0, none⟩))) := Fr.setCell (S := fun i => i = P) (p := ⟨P, 37, none⟩) (Fr.refl _ _) rfl _
  have HO9 := hid (obP_37 HO8.out (.pointer (some ⟨wt, 0, none⟩)))
  have HQ9 := hid (Rch.chain.carry HQ8.out f9 fun e => hne.out e.symm)
  have HR9 := hid (Rch.chain.carry q8 f9 fun e => hne2.out.1 e.symm)
  have HF9 := hid ((HF7.out.trans (f8.mono fun _ _ e => e.elim)).trans (f9.mono fun i _ e => by show P ≤ i; omega))
  clear hwt q8 f8 f9 HF7 HO7 HO8 HQ7 HQ8 hP7 hr7
  go_wp2
  go_ret2
  refine ⟨P, rd, wt, by simp, ⟨by omega, hP ▸ HLE.out, hP ▸ hne2.out.2.2⟩, ?_, ⟨HO9.out, by simp⟩, HQ9.out, HR9.out, hne.out, hne2.out.1, hne2.out.2.1⟩
  subst hP
  exact HF9.out.new
end
end Go.Proofs.YtihaifnenjngpaaGreatDoor
