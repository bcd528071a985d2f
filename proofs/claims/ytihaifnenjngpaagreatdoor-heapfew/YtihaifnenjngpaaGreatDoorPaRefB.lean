/-
  What the document's page does: Alloc.
-/
import Derived.Test.YtihaifnenjngpaaGreatDoorPaRefA
namespace Go.Proofs.YtihaifnenjngpaaGreatDoor
open Go.RowKit
open An

theorem hads_set {g g' : Pg} {x : Nat} {b : Bool} (h : ∀ i, i < 32 → (g'.Had i ↔ (if i = x then b = true else g.Had i))) : hads g' = (hads g).set x b := by
  apply List.ext_getElem (by rw [List.length_set, hads_length, hads_length])
  intro i h1 h2
  rw [hads_length] at h1
  rw [hads_get g' i h1, List.getElem_set]
  have := h i h1
  by_cases e : x = i
  · subst e
    rw [if_pos rfl] at this
    rw [if_pos rfl]
    cases b
    · exact decide_eq_false fun k => by have := this.1 k; cases this
    · exact decide_eq_true (this.2 rfl)
  · rw [if_neg (fun k => e k.symm)] at this
    rw [if_neg e, hads_get g i h1]
    exact decide_eq_decide.2 this
/-- The document's page amid a call, with its arena and chains; w0, Z0: how it was ahead of it. -/
structure Rpr (w0 : World) (Z0 : Nat → Prop) (w : World) (p r rd wt : Nat) (Z : Nat → Prop) (bs : List UInt8) (ss : List Sp) (at_ of_ fresh : Int) (hd : List Bool) (kr kw : Ck) : Prop where
  am : Am 68 r bs ss w Z
  pw : Rw12 w p r at_ of_ fresh hd rd wt
  qr : Rch w rd r kr
  qw : Rch w wt r kw
  d1 : p ≠ rd
  d2 : p ≠ wt
  d3 : rd ≠ wt
  z1 : ¬ Z p
  z2 : ¬ Z rd
  z3 : ¬ Z wt
  fr : Fr (fun i => (i = p ∨ i = rd ∨ i = wt) ∨ Z0 i) w0 w
  new : ∀ i, Z i → Z0 i ∨ w0.heap.size ≤ i
section
variable {w0 w w' : World} {Z0 Z Z' : Nat → Prop} {p r rd wt : Nat} {bs bs' : List UInt8} {ss ss' : List Sp} {at_ of_ fresh : Int} {hd : List Bool} {kr kw k' k2 : Ck}
theorem Rpr.kept (h : Rpr w0 Z0 w p r rd wt Z bs ss at_ of_ fresh hd kr kw) (f : Fr (fun _ => False) w w') : Rpr w0 Z0 w' p r rd wt Z bs ss at_ of_ fresh hd kr kw :=
  ⟨h.am.kept f, h.pw.carry f id, Rch.chain.carry h.qr f id, Rch.chain.carry h.qw f id, h.d1, h.d2, h.d3, h.z1, h.z2, h.z3, Fr.trans' h.fr f fun _ _ e => e.elim, h.new⟩
/-- The arena has turned. -/
theorem Rpr.arena (h : Rpr w0 Z0 w p r rd wt Z bs ss at_ of_ fresh hd kr kw) (ha : Am 68 r bs' ss' w' Z') (g : Gw w w' Z Z') : Rpr w0 Z0 w' p r rd wt Z' bs' ss' at_ of_ fresh hd kr kw := by
  have hs := h.fr.size
  have out : ∀ x, x < w.heap.size → ¬ Z x → ¬ Z' x := fun x hx hn e => by
    rcases g.new x e with e | e
    · exact hn e
    · omega
  exact ⟨ha, h.pw.carry g.fr h.z1, Rch.chain.carry h.qr g.fr h.z2, Rch.chain.carry h.qw g.fr h.z3, h.d1, h.d2, h.d3, out p h.pw.lt h.z1, out rd (Rch.chain.lt h.qr) h.z2, out wt (Rch.chain.lt h.qw) h.z3, Fr.trans' h.fr g.fr fun i hi e => by
    rcases h.new i e with e | e
    · exact .inr e
    · omega, fun i hi => by
    rcases g.new i hi with e | e
    · exact h.new i e
    · exact .inr (by omega)⟩
/-- The free ones' chain, and the arena. -/
theorem Rpr.ready (h : Rpr w0 Z0 w p r rd wt Z bs ss at_ of_ fresh hd kr kw) (l : Left 68 Rch w rd r Z bs' ss' k' Z' w') : Rpr w0 Z0 w' p r rd wt Z' bs' ss' at_ of_ fresh hd k' kw := by
  have hs := h.fr.size
  have out : ∀ x, x < w.heap.size → ¬ Z x → ¬ Z' x := fun x hx hn e => by
    rcases l.new x e with e | e
    · exact hn e
    · omega
  exact ⟨l.am, h.pw.carry l.fr fun e => by rcases e with e | e; exact h.d1 e; exact h.z1 e, l.q, Rch.chain.carry h.qw l.fr fun e => by rcases e with e | e; exact h.d3 e.symm; exact h.z3 e, h.d1, h.d2, h.d3, out p h.pw.lt h.z1, l.nz, out wt (Rch.chain.lt h.qw) h.z3, Fr.trans' h.fr l.fr fun i hi e => by
    rcases e with e | e
    · exact .inl (.inr (.inl e))
    · rcases h.new i e with e | e
      · exact .inr e
      · omega, fun i hi => by
    rcases l.new i hi with e | e
    · exact h.new i e
    · exact .inr (by omega)⟩
/-- The deferred ones' chain, and the arena. -/
theorem Rpr.waiting (h : Rpr w0 Z0 w p r rd wt Z bs ss at_ of_ fresh hd kr kw) (l : Left 68 Rch w wt r Z bs' ss' k' Z' w') : Rpr w0 Z0 w' p r rd wt Z' bs' ss' at_ of_ fresh hd kr k' := by
  have hs := h.fr.size
  have out : ∀ x, x < w.heap.size → ¬ Z x → ¬ Z' x := fun x hx hn e => by
    rcases l.new x e with e | e
    · exact hn e
    · omega
  exact ⟨l.am, h.pw.carry l.fr fun e => by rcases e with e | e; exact h.d2 e; exact h.z1 e, Rch.chain.carry h.qr l.fr fun e => by rcases e with e | e; exact h.d3 e; exact h.z2 e, l.q, h.d1, h.d2, h.d3, out p h.pw.lt h.z1, out rd (Rch.chain.lt h.qr) h.z2, l.nz, Fr.trans' h.fr l.fr fun i hi e => by
    rcases e with e | e
    · exact .inl (.inr (.inr e))
    · rcases h.new i e with e | e
      · exact .inr e
      · omega, fun i hi => by
    rcases l.new i hi with e | e
    · exact h.new i e
    · exact .inr (by omega)⟩
/-- Both chains. -/
theorem Rpr.chains (h : Rpr w0 Z0 w p r rd wt Z bs ss at_ of_ fresh hd kr kw) (q1 : Rch w' rd r k') (q2 : Rch w' wt r k2) (f : Fr (fun i => i = rd ∨ i = wt) w w') : Rpr w0 Z0 w' p r rd wt Z bs ss at_ of_ fresh hd k' k2 :=
  ⟨(Am.good _ _ _ _).carry h.am f fun i hi e => by rcases e with rfl | rfl; exact h.z2 hi; exact h.z3 hi, h.pw.carry f fun e => by rcases e with e | e; exact h.d1 e; exact h.d2 e, q1, q2, h.d1, h.d2, h.d3, h.z1, h.z2, h.z3, Fr.trans' h.fr f fun i _ e => by rcases e with e | e; exact .inl (.inr (.inl e)); exact .inl (.inr (.inr e)), h.new⟩
/-- The page's own cells. -/
theorem Rpr.own {j : Nat} {u : Value} {at2 of2 fresh2 : Int} {hd2 : List Bool} (h : Rpr w0 Z0 w p r rd wt Z bs ss at_ of_ fresh hd kr kw) (q : Rw12 (w.setCell ⟨p, j, none⟩ u) p r at2 of2 fresh2 hd2 rd wt) : Rpr w0 Z0 (w.setCell ⟨p, j, none⟩ u) p r rd wt Z bs ss at2 of2 fresh2 hd2 kr kw := by
  have f : Fr (fun i => i = p) w (w.setCell ⟨p, j, none⟩ u) := Fr.setCell (S := fun i => i = p) (p := ⟨p, j, none⟩) (Fr.refl _ _) rfl _
  exact ⟨(Am.good _ _ _ _).carry h.am f fun i hi e => h.z1 (e ▸ hi), q, Rch.chain.carry h.qr f fun e => h.d1 e.symm, Rch.chain.carry h.qw f fun e => h.d2 e.symm, h.d1, h.d2, h.d3, h.z1, h.z2, h.z3, Fr.trans' h.fr f fun i _ e => .inl (.inl e), h.new⟩
end
/-- The document's page, its arena and chains. -/
abbrev Rp (w0 : World) (Z0 : Nat → Prop) (w : World) (p r rd wt : Nat) (Z : Nat → Prop) (bs : List UInt8) (ss : List Sp) (g : Pg) : Prop := Rpr w0 Z0 w p r rd wt Z bs ss g.base g.kind g.fresh (hads g) (g.ck (lnk g.R)) (g.ck (lnk g.D))
section
variable {w0 w : World} {Z0 Z : Nat → Prop} {p r rd wt : Nat} {bs : List UInt8} {ss : List Sp} {g : Pg}
set_option maxRecDepth 20000 in
set_option maxHeartbeats 2000000 in
theorem s_alloc_full (ht : Tab w) (ok : g.Ok bs) (h : Rp w0 Z0 w p r rd wt Z bs ss g) (hf : g.Full) : Calls Tryz.prog 105 #[.pointer (some ⟨p, 0, none⟩)] w fun e w' => e = .returned (.tuple #[.int .i64 0, .int .i64 10]) ∧ Rp w0 Z0 w' p r rd wt Z bs ss g := by
  have H1 := hid (s_full ht ok h.pw)
  rw [decide_eq_true hf] at H1
  have HP := hid h
  clear h ht ok hf
  go_enter Tryz.func105, Tryz.ntmps105
  go_wp2_with fail
  refine H1.out.mono ?_
  rintro e w1 ⟨rfl, f1⟩
  have HP1 := hid (HP.out.kept f1)
  clear f1 HP H1
  go_wp2
  go_ret2
  exact ⟨by simp, HP1.out⟩
theorem not_full_R {x : Nat} {R : List Nat} (ok : g.Ok bs) (e : g.R = x :: R) : ¬ g.Full := fun hf => by have := (ok.full.1 hf).1.1; rw [e] at this; cases this
set_option maxRecDepth 20000 in
set_option maxHeartbeats 2000000 in
theorem s_alloc_R (ht : Tab w) (ok : g.Ok bs) (h : Rp w0 Z0 w p r rd wt Z bs ss g) (hk : ss.length < 1000000) {x : Nat} {R : List Nat} (e : g.R = x :: R) : Calls Tryz.prog 105 #[.pointer (some ⟨p, 0, none⟩)] w fun e w' => e = .returned (.tuple #[.int .i64 x, .int .i64 0]) ∧ ∃ Z', Rp w0 Z0 w' p r rd wt Z' (over bs (g.pos x) (leb 0 8)) (ss ++ [((g.pos x : Int), (8 : Int), false)] ++ [((g.pos x : Int), (8 : Int), true)]) ⟨g.base, g.kind, g.fresh, R, g.D⟩ := by
  have hf := not_full_R ok e
  have H1 := hid (s_full ht ok h.pw)
  rw [decide_eq_false hf] at H1
  have hx : x < pp g.kind := ok.lr x (by rw [e]; exact List.mem_cons_self ..)
  have hp32 := (kind_facts g.kind ok.kind).2.1.2
  have hrep := ok.r
  rw [e] at hrep
  have hR : ∀ y ∈ R, y < pp g.kind := fun y hy => ok.lr y (by rw [e]; exact List.mem_cons_of_mem _ hy)
  have hlk : lnk R ≤ pp g.kind := by
    cases R with
    | nil => exact Nat.zero_le _
    | cons y L => exact hR y (List.mem_cons_self ..)
  have hck : (g.ck (lnk g.R)).Ok bs.length := ok.ck (by rw [e]; exact hx)
  have H2 : Hid (∀ w1, Rp w0 Z0 w1 p r rd wt Z bs ss g → Calls Tryz.prog 165 #[.pointer (some ⟨rd, 0, none⟩)] w1 fun e w' => e = .returned (.tuple #[.int .i64 x, .int .i64 0]) ∧ ∃ Z', Rpr w0 Z0 w' p r rd wt Z' (over bs (g.pos x) (leb 0 8)) (ss ++ [((g.pos x : Int), (8 : Int), false)] ++ [((g.pos x : Int), (8 : Int), true)]) g.base g.kind g.fresh (hads g) (g.ck (lnk R)) (g.ck (lnk g.D))) := fun w1 h1 => by
    have h0 : (g.ck (lnk g.R)).hd = x + 1 := by rw [e]; rfl
    have hw : wd bs ((g.ck (lnk g.R)).pos x) ≤ (g.ck (lnk g.R)).per := by
      show wd bs ((g.ck 0).pos x) ≤ _
      rw [hrep.1]; exact hlk
    have he : (g.ck (lnk g.R)).to (wd bs ((g.ck (lnk g.R)).pos x)) = g.ck (lnk R) := by
      show (g.ck (lnk g.R)).to (wd bs ((g.ck 0).pos x)) = _
      rw [hrep.1]; rfl
    refine (r_pop_ok h1.qr h1.am hck h1.z2 hk h0 hw).mono fun e w' ⟨hE, Z', hL⟩ => ⟨hE, Z', ?_⟩
    rw [he] at hL
    exact h1.ready hL
  have HH : Hid (hads ⟨g.base, g.kind, g.fresh, R, g.D⟩ = (hads g).set x true) := hads_set fun i hi => by
    have hnd := ok.nd
    have hlt := ok.lt x (by rw [e]; exact List.mem_append_left _ (List.mem_cons_self ..))
    rw [e, List.cons_append, List.nodup_cons, List.mem_append, not_or] at hnd
    show (i < g.fresh ∧ i ∉ R ∧ i ∉ g.D) ↔ _
    by_cases hi : i = x
    · subst hi
      rw [if_pos rfl]
      exact ⟨fun _ => rfl, fun _ => ⟨hlt, hnd.1⟩⟩
    · rw [if_neg hi]
      show _ ↔ (i < g.fresh ∧ i ∉ g.R ∧ i ∉ g.D)
      rw [e, List.mem_cons, not_or]
      exact ⟨fun ⟨a, b, c⟩ => ⟨a, ⟨hi, b⟩, c⟩, fun ⟨a, b, c⟩ => ⟨a, b.2, c⟩⟩
  have HP := hid h
  have HX := hid e
  clear h ht ok hf hrep hR hlk hck hk e
  go_enter Tryz.func105, Tryz.ntmps105
  go_wp2_with fail
  refine H1.out.mono ?_
  rintro e w1 ⟨rfl, f1⟩
  have h1 := HP.out.kept f1
  have HP1 := hid h1
  have c3 := h1.pw.c3
  have c36 := h1.pw.c36
  have c37 := h1.pw.c37
  have r4 : w1.cell? ⟨rd, 4, none⟩ = some (.int .i64 x) := h1.qr.c4s (by rw [HX.out]; rfl)
  clear f1 HP H1 h1
  go_wp2_with fail
  refine (H2.out _ HP1.out).mono ?_
  rintro e w2 ⟨rfl, Z2, h2⟩
  have HP2 := hid h2
  obtain ⟨hv, hc⟩ : ∃ b, w2.cell? ⟨p, 4 + x, none⟩ = some (.bool b) := ⟨_, h2.pw.had x (by omega)⟩
  have fz := h2.pw.fz
  have hx32 : (x : Int) < 32 := by omega
  clear h2 HP1 H2 c3 c36 c37 r4
  go_wp2
  go_ret2
  refine ⟨by simp, Z2, ?_⟩
  have h3 := HP2.out.own (HP2.out.pw.setHad x (by omega) true)
  rw [← HH.out] at h3
  exact h3
theorem not_full_D {x : Nat} {D : List Nat} (ok : g.Ok bs) (e : g.D = x :: D) : ¬ g.Full := fun hf => by have := (ok.full.1 hf).1.2; rw [e] at this; cases this
set_option maxRecDepth 20000 in
set_option maxHeartbeats 2000000 in
theorem s_alloc_D (ht : Tab w) (ok : g.Ok bs) (h : Rp w0 Z0 w p r rd wt Z bs ss g) (hk : ss.length < 1000000) {x : Nat} {D : List Nat} (e0 : g.R = []) (e : g.D = x :: D) : Calls Tryz.prog 105 #[.pointer (some ⟨p, 0, none⟩)] w fun e w' => e = .returned (.tuple #[.int .i64 x, .int .i64 0]) ∧ ∃ Z', Rp w0 Z0 w' p r rd wt Z' (over bs (g.pos x) (leb 0 8)) (ss ++ [((g.pos x : Int), (8 : Int), false)] ++ [((g.pos x : Int), (8 : Int), true)]) ⟨g.base, g.kind, g.fresh, D, []⟩ := by
  have hf := not_full_D ok e
  have H1 := hid (s_full ht ok h.pw)
  rw [decide_eq_false hf] at H1
  have hx : x < pp g.kind := ok.ld x (by rw [e]; exact List.mem_cons_self ..)
  have hp32 := (kind_facts g.kind ok.kind).2.1.2
  have hrep := ok.d
  rw [e] at hrep
  have hD : ∀ y ∈ D, y < pp g.kind := fun y hy => ok.ld y (by rw [e]; exact List.mem_cons_of_mem _ hy)
  have hlk : lnk D ≤ pp g.kind := by
    cases D with
    | nil => exact Nat.zero_le _
    | cons y L => exact hD y (List.mem_cons_self ..)
  have hck : (g.ck (x + 1)).Ok bs.length := ok.ck hx
  have HT : Hid (∀ w1, Rp w0 Z0 w1 p r rd wt Z bs ss g → Calls Tryz.prog 164 #[.pointer (some ⟨rd, 0, none⟩), .pointer (some ⟨wt, 0, none⟩)] w1 fun e w' => e = .returned (.int .i64 0) ∧ Rpr w0 Z0 w' p r rd wt Z bs ss g.base g.kind g.fresh (hads g) (g.ck (x + 1)) (g.ck 0)) := fun w1 h1 => by
    refine (r_take_ok h1.qr h1.qw h1.d3 (by rw [e0]; rfl)).mono fun e' w' ⟨hE, q1, q2, f⟩ => ⟨hE, h1.chains ?_ q2 f⟩
    rw [e] at q1
    exact q1
  have H2 : Hid (∀ w1, Rpr w0 Z0 w1 p r rd wt Z bs ss g.base g.kind g.fresh (hads g) (g.ck (x + 1)) (g.ck 0) → Calls Tryz.prog 165 #[.pointer (some ⟨rd, 0, none⟩)] w1 fun e w' => e = .returned (.tuple #[.int .i64 x, .int .i64 0]) ∧ ∃ Z', Rpr w0 Z0 w' p r rd wt Z' (over bs (g.pos x) (leb 0 8)) (ss ++ [((g.pos x : Int), (8 : Int), false)] ++ [((g.pos x : Int), (8 : Int), true)]) g.base g.kind g.fresh (hads g) (g.ck (lnk D)) (g.ck 0)) := fun w1 h1 => by
    have hw : wd bs ((g.ck (x + 1)).pos x) ≤ (g.ck (x + 1)).per := by
      show wd bs ((g.ck 0).pos x) ≤ _
      rw [hrep.1]; exact hlk
    have he : (g.ck (x + 1)).to (wd bs ((g.ck (x + 1)).pos x)) = g.ck (lnk D) := by
      show (g.ck (x + 1)).to (wd bs ((g.ck 0).pos x)) = _
      rw [hrep.1]; rfl
    refine (r_pop_ok h1.qr h1.am hck h1.z2 hk rfl hw).mono fun e w' ⟨hE, Z', hL⟩ => ⟨hE, Z', ?_⟩
    rw [he] at hL
    exact h1.ready hL
  have HH : Hid (hads ⟨g.base, g.kind, g.fresh, D, []⟩ = (hads g).set x true) := hads_set fun i hi => by
    have hnd := ok.nd
    have hlt := ok.lt x (by rw [e]; exact List.mem_append_right _ (List.mem_cons_self ..))
    rw [e0, e, List.nil_append, List.nodup_cons] at hnd
    show (i < g.fresh ∧ i ∉ D ∧ i ∉ ([] : List Nat)) ↔ _
    by_cases hi : i = x
    · subst hi
      rw [if_pos rfl]
      exact ⟨fun _ => rfl, fun _ => ⟨hlt, hnd.1, by simp⟩⟩
    · rw [if_neg hi]
      show _ ↔ (i < g.fresh ∧ i ∉ g.R ∧ i ∉ g.D)
      rw [e, e0, List.mem_cons, not_or]
      exact ⟨fun ⟨a, b, c⟩ => ⟨a, c, hi, b⟩, fun ⟨a, b, c⟩ => ⟨a, c.2, b⟩⟩
  have HP := hid h
  have HX := hid e
  have HX0 := hid e0
  clear h ht ok hf hrep hD hlk hck hk e e0
  go_enter Tryz.func105, Tryz.ntmps105
  go_wp2_with fail
  refine H1.out.mono ?_
  rintro e w1 ⟨rfl, f1⟩
  have h1 := HP.out.kept f1
  have HP1 := hid h1
  have c3 := h1.pw.c3
  have c36 := h1.pw.c36
  have c37 := h1.pw.c37
  have r4 : w1.cell? ⟨rd, 4, none⟩ = some (.int .i64 (-1)) := by rw [h1.qr.c4, HX0.out]; rfl
  have r5 : w1.cell? ⟨wt, 4, none⟩ = some (.int .i64 x) := h1.qw.c4s (by rw [HX.out]; rfl)
  clear f1 HP H1 h1
  go_wp2_with fail
  go_region_held3 (fun w' => w'.cell? ⟨p, 36, none⟩ = some (.pointer (some ⟨rd, 0, none⟩)) ∧ w'.cell? ⟨p, 37, none⟩ = some (.pointer (some ⟨wt, 0, none⟩))) (first | exact ⟨by assumption, by assumption⟩ | go_keep) (first | (go_at_call 164; refine (HT.out _ (HP1.out.kept (Fr.refl _ _).drew)).mono ?_; rintro e w2 ⟨rfl, h2⟩; have HP2 := hid h2; have e3 := h2.pw.c3; have e36 := h2.pw.c36; have e37 := h2.pw.c37; have s4 : w2.cell? ⟨rd, 4, none⟩ = some (.int .i64 x) := h2.qr.c4s rfl; clear h2))
  clear HP1 HT c3 c36 c37 r4 r5
  go_wp2_with fail
  refine (H2.out _ HP2.out).mono ?_
  rintro e w3 ⟨rfl, Z2, h3⟩
  have HP3 := hid h3
  obtain ⟨hv, hc⟩ : ∃ b, w3.cell? ⟨p, 4 + x, none⟩ = some (.bool b) := ⟨_, h3.pw.had x (by omega)⟩
  have fz := h3.pw.fz
  have hx32 : (x : Int) < 32 := by omega
  clear h3 HP2 H2 e3 e36 e37 s4
  go_wp2
  go_ret2
  refine ⟨by simp, Z2, ?_⟩
  have h4 := HP3.out.own (HP3.out.pw.setHad x (by omega) true)
  rw [← HH.out] at h4
  exact h4
set_option maxRecDepth 20000 in
set_option maxHeartbeats 2000000 in
theorem s_alloc_F (ht : Tab w) (ok : g.Ok bs) (h : Rp w0 Z0 w p r rd wt Z bs ss g) (hf : ¬ g.Full) (e0 : g.R = []) (e : g.D = []) : Calls Tryz.prog 105 #[.pointer (some ⟨p, 0, none⟩)] w fun e w' => e = .returned (.tuple #[.int .i64 g.fresh, .int .i64 0]) ∧ Rp w0 Z0 w' p r rd wt Z bs ss ⟨g.base, g.kind, g.fresh + 1, [], []⟩ := by
  have H1 := hid (s_full ht ok h.pw)
  rw [decide_eq_false hf] at H1
  have hx : g.fresh < pp g.kind := ok.room hf ⟨e0, e⟩
  have hp32 := (kind_facts g.kind ok.kind).2.1.2
  have HH : Hid (hads ⟨g.base, g.kind, g.fresh + 1, [], []⟩ = (hads g).set g.fresh true) := hads_set fun i hi => by
    show (i < g.fresh + 1 ∧ i ∉ ([] : List Nat) ∧ i ∉ ([] : List Nat)) ↔ _
    by_cases hi : i = g.fresh
    · subst hi
      rw [if_pos rfl]
      exact ⟨fun _ => rfl, fun _ => ⟨by omega, by simp, by simp⟩⟩
    · rw [if_neg hi]
      show _ ↔ (i < g.fresh ∧ i ∉ g.R ∧ i ∉ g.D)
      rw [e, e0]
      exact ⟨fun ⟨a, b, c⟩ => ⟨by omega, b, c⟩, fun ⟨a, b, c⟩ => ⟨by omega, b, c⟩⟩
  have HP := hid h
  have HX := hid e
  have HX0 := hid e0
  have hwr := wrapI ((g.fresh : Int) + 1) (by omega) (by omega)
  clear h ht ok hf e e0
  go_enter Tryz.func105, Tryz.ntmps105
  go_wp2_with fail
  refine H1.out.mono ?_
  rintro e w1 ⟨rfl, f1⟩
  have h1 := HP.out.kept f1
  have HP1 := hid h1
  have c3 := h1.pw.c3
  have c36 := h1.pw.c36
  have c37 := h1.pw.c37
  have r4 : w1.cell? ⟨rd, 4, none⟩ = some (.int .i64 (-1)) := by rw [h1.qr.c4, HX0.out]; rfl
  have r5 : w1.cell? ⟨wt, 4, none⟩ = some (.int .i64 (-1)) := by rw [h1.qw.c4, HX.out]; rfl
  have fz := h1.pw.fz
  have hx32 : (g.fresh : Int) < 32 := by omega
  have h2 := h1.own (h1.pw.setFresh ((g.fresh : Int) + 1))
  have HP2 := hid h2
  obtain ⟨hv, hc⟩ : ∃ b, (w1.setCell ⟨p, 3, none⟩ (.int .i64 ((g.fresh : Int) + 1))).cell? ⟨p, 4 + g.fresh, none⟩ = some (.bool b) := ⟨_, h2.pw.had g.fresh (by omega)⟩
  have fz2 := h2.pw.fz
  clear f1 HP H1 h1 h2
  go_wp2
  go_ret2
  refine ⟨by simp, ?_⟩
  have h4 := HP2.out.own (HP2.out.pw.setHad g.fresh (by omega) true)
  rw [← HH.out] at h4
  rw [show g.ck (lnk g.R) = g.ck 0 by rw [HX0.out]; rfl, show g.ck (lnk g.D) = g.ck 0 by rw [HX.out]; rfl] at h4
  show Rpr w0 Z0 _ p r rd wt Z bs ss g.base g.kind ((g.fresh + 1 : Nat) : Int) _ (g.ck 0) (g.ck 0)
  rw [show ((g.fresh + 1 : Nat) : Int) = (g.fresh : Int) + 1 by omega]
  exact h4
theorem s_alloc (ht : Tab w) (ok : g.Ok bs) (h : Rp w0 Z0 w p r rd wt Z bs ss g) (hk : ss.length < 1000000) : Calls Tryz.prog 105 #[.pointer (some ⟨p, 0, none⟩)] w fun e w' => e = .returned (.tuple #[.int .i64 (paV g), .int .i64 (paE g)]) ∧ ∃ Z', Rp w0 Z0 w' p r rd wt Z' (paB g bs) (paT g ss) (paS g) := by
  by_cases hf : g.Full
  · obtain ⟨e1, e2, e3, e4⟩ := pa_full (bs := bs) hf
    have e5 : paT g ss = ss := if_pos (.inl hf)
    rw [e1, e2, e3, e4, e5]
    exact (s_alloc_full ht ok h hf).mono fun e w' ⟨he, k⟩ => ⟨he, Z, k⟩
  · cases hR : g.R with
    | cons x R =>
      obtain ⟨e1, e2, e3, e4, e5⟩ := pa_R (bs := bs) hf hR
      rw [e1, e2, e3, e4, e5]
      exact s_alloc_R ht ok h hk hR
    | nil =>
      cases hD : g.D with
      | cons x D =>
        obtain ⟨e1, e2, e3, e4, e5⟩ := pa_D (bs := bs) hf hR hD
        rw [e1, e2, e3, e4, e5]
        exact s_alloc_D ht ok h hk hR hD
      | nil =>
        obtain ⟨e1, e2, e3, e4, e5⟩ := pa_F (bs := bs) hf hR hD
        rw [e1, e2, e3, e4, e5]
        exact (s_alloc_F ht ok h hf hR hD).mono fun e w' ⟨he, k⟩ => ⟨he, Z, k⟩
end
end Go.Proofs.YtihaifnenjngpaaGreatDoor
