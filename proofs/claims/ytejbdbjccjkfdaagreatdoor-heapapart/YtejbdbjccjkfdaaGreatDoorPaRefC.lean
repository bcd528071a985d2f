/-
  What the document's page does: Alloc.
  An arena as one thing in memory, more: bytes cleared, written, copied.
  What the document's page does: Has, Free.
-/
import Derived.Test.YtejbdbjccjkfdaaGreatDoorPaRefA
import Derived.Test.YtejbdbjccjkfdaaGreatDoorChMem
namespace Go.Proofs.YtejbdbjccjkfdaaGreatDoor
open Go.RowKit
open An

theorem hads_set {g g' : Pg} {x : Nat} {b : Bool} (h : ∀ i, i < 32 → (g'.Had i ↔ (if i = x then b = true else g.Had i))) : hads g' = (hads g).set x b := by
  apply List.ext_getElem (by rw [List.length_set, hads_length, hads_length])
  intro i h1 h2
  rw [hads_length] at h1
  rw [hads_get g' i h1, List.getElem_set]
  have := h i h1
  by_cases e : x = i
  · subst e
    rw [if_pos rfl] at this
    rw [if_pos rfl]
    cases b
    · exact decide_eq_false fun k => by have := this.1 k; cases this
    · exact decide_eq_true (this.2 rfl)
  · rw [if_neg (fun k => e k.symm)] at this
    rw [if_neg e, hads_get g i h1]
    exact decide_eq_decide.2 this
/-- The document's page amid a call, with its arena and chains; w0, Z0: how it was ahead of it. -/
structure Rpr (w0 : World) (Z0 : Nat → Prop) (w : World) (p r rd wt : Nat) (Z : Nat → Prop) (bs : List UInt8) (ss : List Sp) (at_ of_ fresh : Int) (hd : List Bool) (kr kw : Ck) : Prop where
  am : Am 78 r bs ss w Z
  pw : Rw12 w p r at_ of_ fresh hd rd wt
  qr : Rch w rd r kr
  qw : Rch w wt r kw
  d1 : p ≠ rd
  d2 : p ≠ wt
  d3 : rd ≠ wt
  z1 : ¬ Z p
  z2 : ¬ Z rd
  z3 : ¬ Z wt
  fr : Fr (fun i => (i = p ∨ i = rd ∨ i = wt) ∨ Z0 i) w0 w
  new : ∀ i, Z i → Z0 i ∨ w0.heap.size ≤ i
section
variable {w0 w w' : World} {Z0 Z Z' : Nat → Prop} {p r rd wt : Nat} {bs bs' : List UInt8} {ss ss' : List Sp} {at_ of_ fresh : Int} {hd : List Bool} {kr kw k' k2 : Ck}
theorem Rpr.kept (h : Rpr w0 Z0 w p r rd wt Z bs ss at_ of_ fresh hd kr kw) (f : Fr (fun _ => False) w w') : Rpr w0 Z0 w' p r rd wt Z bs ss at_ of_ fresh hd kr kw :=
  ⟨h.am.kept f, h.pw.carry f id, Rch.chain.carry h.qr f id, Rch.chain.carry h.qw f id, h.d1, h.d2, h.d3, h.z1, h.z2, h.z3, Fr.trans' h.fr f fun _ _ e => e.elim, h.new⟩
/-- The arena has turned. -/
theorem Rpr.arena (h : Rpr w0 Z0 w p r rd wt Z bs ss at_ of_ fresh hd kr kw) (ha : Am 78 r bs' ss' w' Z') (g : Gw w w' Z Z') : Rpr w0 Z0 w' p r rd wt Z' bs' ss' at_ of_ fresh hd kr kw := by
  have hs := h.fr.size
  have out : ∀ x, x < w.heap.size → ¬ Z x → ¬ Z' x := fun x hx hn e => by
    rcases g.new x e with e | e
    · exact hn e
    · omega
  exact ⟨ha, h.pw.carry g.fr h.z1, Rch.chain.carry h.qr g.fr h.z2, Rch.chain.carry h.qw g.fr h.z3, h.d1, h.d2, h.d3, out p h.pw.lt h.z1, out rd (Rch.chain.lt h.qr) h.z2, out wt (Rch.chain.lt h.qw) h.z3, Fr.trans' h.fr g.fr fun i hi e => by
    rcases h.new i e with e | e
    · exact .inr e
    · omega, fun i hi => by
    rcases g.new i hi with e | e
    · exact h.new i e
    · exact .inr (by omega)⟩
/-- The free ones' chain, and the arena. -/
theorem Rpr.ready (h : Rpr w0 Z0 w p r rd wt Z bs ss at_ of_ fresh hd kr kw) (l : Left 78 Rch w rd r Z bs' ss' k' Z' w') : Rpr w0 Z0 w' p r rd wt Z' bs' ss' at_ of_ fresh hd k' kw := by
  have hs := h.fr.size
  have out : ∀ x, x < w.heap.size → ¬ Z x → ¬ Z' x := fun x hx hn e => by
    rcases l.new x e with e | e
    · exact hn e
    · omega
  exact ⟨l.am, h.pw.carry l.fr fun e => by rcases e with e | e; exact h.d1 e; exact h.z1 e, l.q, Rch.chain.carry h.qw l.fr fun e => by rcases e with e | e; exact h.d3 e.symm; exact h.z3 e, h.d1, h.d2, h.d3, out p h.pw.lt h.z1, l.nz, out wt (Rch.chain.lt h.qw) h.z3, Fr.trans' h.fr l.fr fun i hi e => by
    rcases e with e | e
    · exact .inl (.inr (.inl e))
    · rcases h.new i e with e | e
      · exact .inr e
      · omega, fun i hi => by
    rcases l.new i hi with e | e
    · exact h.new i e
    · exact .inr (by omega)⟩
/-- The deferred ones' chain, and the arena. -/
theorem Rpr.waiting (h : Rpr w0 Z0 w p r rd wt Z bs ss at_ of_ fresh hd kr kw) (l : Left 78 Rch w wt r Z bs' ss' k' Z' w') : Rpr w0 Z0 w' p r rd wt Z' bs' ss' at_ of_ fresh hd kr k' := by
  have hs := h.fr.size
  have out : ∀ x, x < w.heap.size → ¬ Z x → ¬ Z' x := fun x hx hn e => by
    rcases l.new x e with e | e
    · exact hn e
    · omega
  exact ⟨l.am, h.pw.carry l.fr fun e => by rcases e with e | e; exact h.d2 e; exact h.z1 e, Rch.chain.carry h.qr l.fr fun e => by rcases e with e | e; exact h.d3 e; exact h.z2 e, l.q, h.d1, h.d2, h.d3, out p h.pw.lt h.z1, out rd (Rch.chain.lt h.qr) h.z2, l.nz, Fr.trans' h.fr l.fr fun i hi e => by
    rcases e with e | e
    · exact .inl (.inr (.inr e))
    · rcases h.new i e with e | e
      · exact .inr e
      · omega, fun i hi => by
    rcases l.new i hi with e | e
    · exact h.new i e
    · exact .inr (by omega)⟩
/-- Both chains. -/
theorem Rpr.chains (h : Rpr w0 Z0 w p r rd wt Z bs ss at_ of_ fresh hd kr kw) (q1 : Rch w' rd r k') (q2 : Rch w' wt r k2) (f : Fr (fun i => i = rd ∨ i = wt) w w') : Rpr w0 Z0 w' p r rd wt Z bs ss at_ of_ fresh hd k' k2 :=
  ⟨(Am.good _ _ _ _).carry h.am f fun i hi e => by rcases e with rfl | rfl; exact h.z2 hi; exact h.z3 hi, h.pw.carry f fun e => by rcases e with e | e; exact h.d1 e; exact h.d2 e, q1, q2, h.d1, h.d2, h.d3, h.z1, h.z2, h.z3, Fr.trans' h.fr f fun i _ e => by rcases e with e | e; exact .inl (.inr (.inl e)); exact .inl (.inr (.inr e)), h.new⟩
/-- The page's own cells. -/
theorem Rpr.own {j : Nat} {u : Value} {at2 of2 fresh2 : Int} {hd2 : List Bool} (h : Rpr w0 Z0 w p r rd wt Z bs ss at_ of_ fresh hd kr kw) (q : Rw12 (w.setCell ⟨p, j, none⟩ u) p r at2 of2 fresh2 hd2 rd wt) : Rpr w0 Z0 (w.setCell ⟨p, j, none⟩ u) p r rd wt Z bs ss at2 of2 fresh2 hd2 kr kw := by
  have f : Fr (fun i => i = p) w (w.setCell ⟨p, j, none⟩ u) := Fr.setCell (S := fun i => i = p) (p := ⟨p, j, none⟩) (Fr.refl _ _) rfl _
  exact ⟨(Am.good _ _ _ _).carry h.am f fun i hi e => h.z1 (e ▸ hi), q, Rch.chain.carry h.qr f fun e => h.d1 e.symm, Rch.chain.carry h.qw f fun e => h.d2 e.symm, h.d1, h.d2, h.d3, h.z1, h.z2, h.z3, Fr.trans' h.fr f fun i _ e => .inl (.inl e), h.new⟩
end
/-- The document's page, its arena and chains. -/
abbrev Rp (w0 : World) (Z0 : Nat → Prop) (w : World) (p r rd wt : Nat) (Z : Nat → Prop) (bs : List UInt8) (ss : List Sp) (g : Pg) : Prop := Rpr w0 Z0 w p r rd wt Z bs ss g.base g.kind g.fresh (hads g) (g.ck (lnk g.R)) (g.ck (lnk g.D))
section
variable {w0 w : World} {Z0 Z : Nat → Prop} {p r rd wt : Nat} {bs : List UInt8} {ss : List Sp} {g : Pg}
theorem not_full_R {x : Nat} {R : List Nat} (ok : g.Ok bs) (e : g.R = x :: R) : ¬ g.Full := fun hf => by have := (ok.full.1 hf).1.1; rw [e] at this; cases this
theorem not_full_D {x : Nat} {D : List Nat} (ok : g.Ok bs) (e : g.D = x :: D) : ¬ g.Full := fun hf => by have := (ok.full.1 hf).1.2; rw [e] at this; cases this
end
end Go.Proofs.YtejbdbjccjkfdaaGreatDoor

namespace Go.Proofs.YtejbdbjccjkfdaaGreatDoor
open Go.RowKit
open An

section
variable {w : World} {a : Nat} {Z : Nat → Prop} {bs : List UInt8} {ss : List Sp}
theorem am_zero (h : Am 144 a bs ss w Z) (p m : Nat) (hin : p + m ≤ bs.length) (hk : ss.length ≤ 1000000) : Calls Tryz.prog 174 #[.pointer (some ⟨a, 0, none⟩), .int .i64 p, .int .i64 m] w fun e w' => e = .returned (.int .i64 0) ∧ ∃ Z', Am 144 a (over bs p (List.replicate m 0)) (noted ss p m true) w' Z' ∧ Gw w w' Z Z' := by
  obtain ⟨B, b, v, h, h1, h2⟩ := h
  exact (zero_ok h p m hin hk).mono fun e w' ⟨he, hn⟩ => ⟨he, Am.noted h1 h2 hn⟩
theorem am_write (h : Am 144 a bs ss w Z) (p : Nat) (s : ByteArray) (hin : p + s.size ≤ bs.length) (hk : ss.length ≤ 1000000) : Calls Tryz.prog 53 #[.pointer (some ⟨a, 0, none⟩), .int .i64 p, .string s] w fun e w' => e = .returned (.int .i64 0) ∧ ∃ Z', Am 144 a (over bs p s.data.toList) (noted ss p s.size true) w' Z' ∧ Gw w w' Z Z' := by
  obtain ⟨B, b, v, h, h1, h2⟩ := h
  exact (write_ok h p s hin hk).mono fun e w' ⟨he, hn⟩ => ⟨he, Am.noted h1 h2 hn⟩
theorem am_copy (h : Am 144 a bs ss w Z) (p q m : Nat) (hin : p + m ≤ bs.length) (hin2 : q + m ≤ bs.length) (hk : ss.length < 1000000) : Calls Tryz.prog 106 #[.pointer (some ⟨a, 0, none⟩), .int .i64 p, .int .i64 q, .int .i64 m] w fun e w' => e = .returned (.int .i64 0) ∧ ∃ Z', Am 144 a (over bs p ((bs.drop q).take m)) (noted (noted ss q m false) p m true) w' Z' ∧ Gw w w' Z Z' := by
  obtain ⟨B, b, v, h, h1, h2⟩ := h
  exact (copy_ok h p q m hin hin2 hk).mono fun e w' ⟨he, hn⟩ => ⟨he, Am.noted h1 h2 hn⟩
theorem rm_zero (h : Am 78 a bs ss w Z) (p m : Nat) (hin : p + m ≤ bs.length) (hk : ss.length ≤ 1000000) : Calls Tryz.prog 131 #[.pointer (some ⟨a, 0, none⟩), .int .i64 p, .int .i64 m] w fun e w' => e = .returned (.int .i64 0) ∧ ∃ Z', Am 78 a (over bs p (List.replicate m 0)) (noted ss p m true) w' Z' ∧ Gw w w' Z Z' := by
  obtain ⟨B, b, v, h, h1, h2⟩ := h
  exact (rzero_ok h p m hin hk).mono fun e w' ⟨he, hn⟩ => ⟨he, Am.noted h1 h2 hn⟩
end
end Go.Proofs.YtejbdbjccjkfdaaGreatDoor

namespace Go.Proofs.YtejbdbjccjkfdaaGreatDoor
open Go.RowKit
open An

section
variable {w0 w : World} {Z0 Z : Nat → Prop} {p r rd wt : Nat} {bs : List UInt8} {ss : List Sp} {g : Pg}
theorem per_at (ok : g.Ok bs) {W : World} (ht : Tab W) : Hid (∀ w1, Fr (fun _ => False) W w1 → Calls Tryz.prog 75 #[.int .i64 g.kind] w1 fun e w' => e = .returned (.int .i64 (pp g.kind)) ∧ Fr (fun _ => False) w1 w') := fun w1 f => (r_per g.kind (K.start (ht.carry f id))).mono fun e w' ⟨he, k⟩ => ⟨by rw [he, (kind_facts g.kind ok.kind).2.2.2.2], k.fr⟩
theorem unit_at (ok : g.Ok bs) {W : World} (ht : Tab W) : Hid (∀ w1, Fr (fun _ => False) W w1 → Calls Tryz.prog 51 #[.int .i64 g.kind] w1 fun e w' => e = .returned (.int .i64 (pu g.kind)) ∧ Fr (fun _ => False) w1 w') := fun w1 f => (r_unit g.kind (K.start (ht.carry f id))).mono fun e w' ⟨he, k⟩ => ⟨by rw [he, (kind_facts g.kind ok.kind).2.2.2.1], k.fr⟩
set_option maxRecDepth 20000 in
set_option maxHeartbeats 2000000 in
theorem s_free_no (ht : Tab w) (ok : g.Ok bs) (h : Rp w0 Z0 w p r rd wt Z bs ss g) (k : Int) (hm : ¬ g.May k) : Calls Tryz.prog 125 #[.pointer (some ⟨p, 0, none⟩), .int .i64 k] w fun e w' => e = .returned (.int .i64 (pfE g k)) ∧ Fr (fun _ => False) w w' := by
  have H1 := per_at ok ht
  have HP := hid h
  have c2 := h.pw.c2
  have hp32 := (kind_facts g.kind ok.kind).2.1.2
  clear h ht ok
  by_cases h0 : 0 ≤ k
  case neg =>
    have he : Hid (pfE g k = 12) := if_neg fun m => h0 m.1
    generalize pfE g k = v at *
    clear hm
    go_enter Tryz.func125, Tryz.ntmps125
    go_wp2
    go_ret
    exact ⟨by rw [he.out]; simp, Fr.refl _ _⟩
  by_cases h1 : k < pp g.kind
  case neg =>
    have he : Hid (pfE g k = 12) := if_neg fun m => h1 m.2
    generalize pfE g k = v at *
    have h1' : (pp g.kind : Int) ≤ k := by omega
    clear hm
    go_enter Tryz.func125, Tryz.ntmps125
    go_wp2_with fail
    refine (H1.out _ (Fr.refl _ _)).mono ?_
    rintro e w1 ⟨rfl, f1⟩
    have F1 := hid f1
    clear f1 H1
    go_wp2
    go_ret
    exact ⟨by rw [he.out]; simp, F1.out⟩
  obtain ⟨k, rfl⟩ := Int.eq_ofNat_of_zero_le h0
  have hn : ¬ g.Had k := fun m => hm ⟨⟨h0, h1⟩, m⟩
  have he : Hid (pfE g (k : Int) = 13) := (if_pos (show g.Block (k : Int) from ⟨h0, h1⟩)).trans (if_neg hn)
  generalize pfE g (k : Int) = v at *
  have hk32 : (k : Int) < 32 := by omega
  clear hm
  go_enter Tryz.func125, Tryz.ntmps125
  go_wp2_with fail
  refine (H1.out _ (Fr.refl _ _)).mono ?_
  rintro e w1 ⟨rfl, f1⟩
  have F1 := hid f1
  have hc := (HP.out.kept f1).pw.had k (by omega)
  rw [hads_get g k (by omega), decide_eq_false hn] at hc
  clear f1 H1 HP hn
  go_wp2
  go_ret
  exact ⟨by rw [he.out]; simp, F1.out⟩
set_option maxRecDepth 20000 in
set_option maxHeartbeats 4000000 in
theorem s_free_ok (ht : Tab w) (ok : g.Ok bs) (h : Rp w0 Z0 w p r rd wt Z bs ss g) (hk : ss.length < 1000000) (k : Nat) (hm : g.May k) : Calls Tryz.prog 125 #[.pointer (some ⟨p, 0, none⟩), .int .i64 k] w fun e w' => e = .returned (.int .i64 0) ∧ ∃ Z', Rp w0 Z0 w' p r rd wt Z' (pfB g bs k) (pfT g ss k) (pfS g k) := by
  have H1 := per_at ok ht
  have H2 := unit_at ok ht
  obtain ⟨⟨h0, h1⟩, hh⟩ := id hm
  have hkp : k < pp g.kind := by omega
  obtain ⟨⟨u1, u2⟩, ⟨_, hp32⟩, _⟩ := kind_facts g.kind ok.kind
  have hb := ok.block hkp
  have hfit := ok.fit
  have hle := h.am.le
  have hk32 : (k : Int) < 32 := by omega
  have hpos : k * pu g.kind + g.base = g.pos k := by unfold Pg.pos; omega
  have r1 : IntKind.i64.wrap ((k : Int) * (pu g.kind : Int)) = ((k * pu g.kind : Nat) : Int) := by rw [← Int.natCast_mul]; exact wrapI _ (by omega) (by omega)
  have r2 : IntKind.i64.wrap ((g.base : Int) + ((k * pu g.kind : Nat) : Int)) = (g.pos k : Int) := by rw [wrapI _ (by omega) (by omega)]; omega
  have eT : pfT g ss k = ss ++ [((g.pos k : Int), (pu g.kind : Int), true)] ++ [((g.pos k : Int), (8 : Int), true)] := if_pos hm
  have eB : pfB g bs k = over (over bs (g.pos k) (List.replicate (pu g.kind) 0)) (g.pos k) (leb (lnk g.D) 8) := if_pos hm
  have eS : pfS g k = ⟨g.base, g.kind, g.fresh, g.R, k :: g.D⟩ := if_pos hm
  have eL : (over bs (g.pos k) (List.replicate (pu g.kind) 0)).length = bs.length := over_length _ _ _ (by rw [List.length_replicate]; omega)
  have H3 : Hid (∀ w1, Rp w0 Z0 w1 p r rd wt Z bs ss g → Calls Tryz.prog 131 #[.pointer (some ⟨r, 0, none⟩), .int .i64 (g.pos k), .int .i64 (pu g.kind)] w1 fun e w' => e = .returned (.int .i64 0) ∧ ∃ Z', Rp w0 Z0 w' p r rd wt Z' (over bs (g.pos k) (List.replicate (pu g.kind) 0)) (ss ++ [((g.pos k : Int), (pu g.kind : Int), true)]) g) := fun w1 h1 => (rm_zero h1.am (g.pos k) (pu g.kind) (by omega) (by omega)).mono fun e w' ⟨he, Z', a1, a2⟩ => by
    have en : noted ss (g.pos k) (pu g.kind) true = ss ++ [((g.pos k : Int), (pu g.kind : Int), true)] := if_pos (by omega)
    rw [en] at a1
    exact ⟨he, Z', h1.arena a1 a2⟩
  have hld : lnk g.D ≤ pp g.kind := by
    cases hD : g.D with
    | nil => exact Nat.zero_le _
    | cons y L => exact ok.ld y (by rw [hD]; exact List.mem_cons_self ..)
  have H4 : Hid (∀ w1 Z1, Rp w0 Z0 w1 p r rd wt Z1 (over bs (g.pos k) (List.replicate (pu g.kind) 0)) (ss ++ [((g.pos k : Int), (pu g.kind : Int), true)]) g → Calls Tryz.prog 184 #[.pointer (some ⟨wt, 0, none⟩), .int .i64 k] w1 fun e w' => e = .returned (.int .i64 0) ∧ ∃ Z', Rpr w0 Z0 w' p r rd wt Z' (pfB g bs k) (pfT g ss k) g.base g.kind g.fresh (hads g) (g.ck (lnk g.R)) (g.ck (k + 1))) := fun w1 Z1 h1 => by
    rw [eT, eB]
    exact (r_push_ok h1.qw h1.am (by rw [eL]; exact ok.ck hld) h1.z3 (by simp; omega) hkp).mono fun e w' ⟨he, Z', hL⟩ => ⟨he, Z', h1.waiting hL⟩
  have HH : Hid (hads (pfS g k) = (hads g).set k false) := by
    show _ = _
    rw [eS]
    refine hads_set fun i hi => ?_
    show (i < g.fresh ∧ i ∉ g.R ∧ i ∉ k :: g.D) ↔ _
    by_cases hi : i = k
    · subst hi
      rw [if_pos rfl]
      exact ⟨fun m => (m.2.2 (List.mem_cons_self ..)).elim, fun m => by cases m⟩
    · rw [if_neg hi, List.mem_cons, not_or]
      exact ⟨fun ⟨a, b, c⟩ => ⟨a, b, c.2⟩, fun ⟨a, b, c⟩ => ⟨a, b, hi, c⟩⟩
  have HE := hid eS
  have HPa := hid h
  have HH2 : Hid (g.Had k) := hh
  clear h ht ok hm hh eT eB eS eL hld hpos hb hfit hle hk
  generalize pfB g bs k = bs2 at *
  generalize pfT g ss k = ss2 at *
  generalize g.pos k = ps at *
  generalize k * pu g.kind = m at *
  have ca2 := HPa.out.pw.c2
  go_enter Tryz.func125, Tryz.ntmps125
  go_wp2_with fail
  refine (H1.out _ (Fr.refl _ _)).mono ?_
  rintro e w1 ⟨rfl, f1⟩
  have HPb := hid (HPa.out.kept f1)
  have F1 := hid f1
  have hc := (HPa.out.kept f1).pw.had k (by omega)
  rw [hads_get g k (by omega), decide_eq_true HH2.out] at hc
  have cb0 := HPb.out.pw.c0
  have cb1 := HPb.out.pw.c1
  have cb2 := HPb.out.pw.c2
  clear f1 H1 HPa ca2
  go_wp2_with fail
  go_region_held3 (fun w' => w'.cell? ⟨p, 0, none⟩ = some (.pointer (some ⟨r, 0, none⟩)) ∧ w'.cell? ⟨p, 1, none⟩ = some (.int .i64 g.base) ∧ w'.cell? ⟨p, 2, none⟩ = some (.int .i64 g.kind)) (first | exact ⟨by assumption, by assumption, by assumption⟩ | go_keep) (first | (go_at_call 51; refine (H2.out _ (F1.out.trans (Fr.refl _ _).drew)).mono ?_; rintro e w2 ⟨rfl, f2⟩; have HPc := hid (HPb.out.kept ((Fr.refl (fun _ => False) _).drew.trans f2)); have F2 := hid ((F1.out.trans (Fr.refl (fun _ => False) _).drew).trans f2); have cc0 := HPc.out.pw.c0; have cc1 := HPc.out.pw.c1; have cc2 := HPc.out.pw.c2; clear f2 HPb F1) | (go_at_call 51; refine (H2.out _ F2.out).mono ?_; rintro e w3 ⟨rfl, f3⟩; have HPd := hid (HPc.out.kept f3); have cd0 := HPd.out.pw.c0; have cd1 := HPd.out.pw.c1; have cd2 := HPd.out.pw.c2; clear f3 HPc F2) | (go_at_call 131; refine (H3.out _ HPd.out).mono ?_; rintro e w4 ⟨rfl, Z4, h4⟩; have HPe := hid h4; have ce0 := HPe.out.pw.c0; have ce1 := HPe.out.pw.c1; have ce2 := HPe.out.pw.c2; have ce37 := HPe.out.pw.c37; clear h4 HPd))
  go_wp2_with fail
  refine (H4.out _ _ HPe.out).mono ?_
  rintro e w5 ⟨rfl, Z5, h5⟩
  have HPf := hid h5
  obtain ⟨hv, hc5⟩ : ∃ b, w5.cell? ⟨p, 4 + k, none⟩ = some (.bool b) := ⟨_, h5.pw.had k (by omega)⟩
  have fz := h5.pw.fz
  clear h5 HPe H2 H3 H4
  go_wp2
  go_ret
  refine ⟨by simp, Z5, ?_⟩
  have h6 := HPf.out.own (HPf.out.pw.setHad k (by omega) false)
  rw [← HH.out] at h6
  show Rpr w0 Z0 _ p r rd wt Z5 bs2 ss2 (pfS g k).base (pfS g k).kind (pfS g k).fresh (hads (pfS g k)) ((pfS g k).ck (lnk (pfS g k).R)) ((pfS g k).ck (lnk (pfS g k).D))
  rw [HE.out] at h6 ⊢
  exact h6
theorem s_free (ht : Tab w) (ok : g.Ok bs) (h : Rp w0 Z0 w p r rd wt Z bs ss g) (hk : ss.length < 1000000) (k : Int) : Calls Tryz.prog 125 #[.pointer (some ⟨p, 0, none⟩), .int .i64 k] w fun e w' => e = .returned (.int .i64 (pfE g k)) ∧ ∃ Z', Rp w0 Z0 w' p r rd wt Z' (pfB g bs k) (pfT g ss k) (pfS g k) := by
  by_cases hm : g.May k
  · obtain ⟨k, rfl⟩ := Int.eq_ofNat_of_zero_le hm.1.1
    have he : pfE g (k : Int) = 0 := (if_pos hm.1).trans (if_pos hm.2)
    rw [he]
    exact s_free_ok ht ok h hk k hm
  · have e1 : pfB g bs k = bs := if_neg hm
    have e2 : pfT g ss k = ss := if_neg hm
    have e3 : pfS g k = g := if_neg hm
    rw [e1, e2, e3]
    exact (s_free_no ht ok h k hm).mono fun e w' ⟨he, f⟩ => ⟨he, Z, h.kept f⟩
end
end Go.Proofs.YtejbdbjccjkfdaaGreatDoor
