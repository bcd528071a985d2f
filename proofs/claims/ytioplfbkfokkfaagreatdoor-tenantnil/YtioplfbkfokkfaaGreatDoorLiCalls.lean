/-
  The row as a map from each number to the one behind it: mathematics; and the program's line in memory.
  What the calls of package line do: Len, Has, Front, ahead, All; maps.Clone.
  What the calls of package line do: New, Push, Remove, Copy; the nil ones.
-/
import Derived.Test.YtioplfbkfokkfaaGreatDoorHpBase
import Derived.Test.YtioplfbkfokkfaaGreatDoorSeen
import Derived.Test.YtioplfbkfokkfaaGreatDoorPaThing
import Derived.Test.YtioplfbkfokkfaaGreatDoorViIn
import Derived.ScopeJumps
import Derived.Deep.RegionHeld3
import Derived.Shelf.SlMaps.Clone
namespace Go.Proofs.YtioplfbkfokkfaaGreatDoor
open Go.RowKit

/-- The one behind each number; -1 behind the last one. -/
def lk : List Int → Int → Option Int
  | [], _ => none
  | a :: r, x => if x = a then some (liF r) else lk r x
/-- The last one. -/
def liL (L : List Int) : Int := L.getLast?.getD (-1)
section
variable {L pre post : List Int} {k x : Int}
theorem lk_some (L : List Int) (x : Int) : (lk L x).isSome = decide (x ∈ L) := by
  induction L with
  | nil => rfl
  | cons a r ih =>
    unfold lk
    by_cases h : x = a
    · simp [h]
    · rw [if_neg h, ih]; simp [h]
theorem lk_none (h : x ∉ L) : lk L x = none := by
  have := lk_some L x
  rw [decide_eq_false h] at this
  exact Option.isNone_iff_eq_none.1 (by rw [← Option.not_isSome, this]; rfl)
theorem lk_app (pre post : List Int) (x : Int) (h : x ∉ pre) : lk (pre ++ post) x = lk post x := by
  induction pre with
  | nil => rfl
  | cons a r ih =>
    simp only [List.mem_cons, not_or] at h
    rw [List.cons_append, lk, if_neg h.1, ih h.2]
theorem lk_at (h : x ∉ pre) : lk (pre ++ x :: post) x = some (liF post) := by rw [lk_app _ _ _ h, lk, if_pos rfl]
theorem liF_app (h : pre ≠ []) (post : List Int) : liF (pre ++ post) = liF pre := by
  cases pre with
  | nil => exact (h rfl).elim
  | cons a r => rfl
theorem liL_snoc (L : List Int) (k : Int) : liL (L ++ [k]) = k := by simp [liL]
theorem liL_app (pre : List Int) (h : post ≠ []) : liL (pre ++ post) = liL post := by
  unfold liL
  rw [List.getLast?_append]
  cases e : post.getLast? with
  | none => exact (h (List.getLast?_eq_none_iff.1 e)).elim
  | some y => rfl
theorem liL_cons (a b : Int) (r : List Int) : liL (a :: b :: r) = liL (b :: r) := liL_app [a] (by simp)
theorem liL_mem (h : L ≠ []) : liL L ∈ L := by
  unfold liL
  rw [List.getLast?_eq_some_getLast h, Option.getD_some]
  exact List.getLast_mem h
theorem lk_snoc (nd : L.Nodup) (hn : L ≠ []) (hk : k ∉ L) (z : Int) : lk (L ++ [k]) z = if z = k then some (-1) else if z = liL L then some k else lk L z := by
  induction L with
  | nil => exact (hn rfl).elim
  | cons a r ih =>
    simp only [List.mem_cons, not_or] at hk
    rw [List.nodup_cons] at nd
    rw [List.cons_append, lk]
    cases r with
    | nil =>
      by_cases h1 : z = a
      · subst h1
        rw [if_pos rfl, if_neg (fun e => hk.1 e.symm), if_pos (by rfl)]
        rfl
      · rw [if_neg h1]
        by_cases h2 : z = k
        · subst h2
          rw [if_pos rfl]
          show lk [z] z = _
          rw [lk, if_pos rfl]; rfl
        · rw [if_neg h2, if_neg (by exact h1)]
          show lk [k] z = _
          rw [lk, if_neg h2]
          show none = lk [a] z
          exact (lk_none (by simpa using h1)).symm
    | cons b r =>
      have ih := ih nd.2 (by simp) hk.2
      rw [liL_cons]
      by_cases h1 : z = a
      · subst h1
        have h3 : z ≠ liL (b :: r) := fun e => nd.1 (e ▸ liL_mem (by simp))
        rw [if_pos rfl, if_neg (fun e => hk.1 e.symm), if_neg h3, lk, if_pos rfl]
        rfl
      · rw [if_neg h1, ih, lk.eq_def (a :: b :: r)]
        dsimp only
        rw [if_neg h1]
theorem lk_one (k z : Int) : lk [k] z = if z = k then some (-1) else none := rfl
theorem liR_split (nd : (pre ++ k :: post).Nodup) : liR (pre ++ k :: post) k = pre ++ post := by
  rw [List.nodup_append] at nd
  have h1 : k ∉ pre := fun e => nd.2.2 k e k (by simp) rfl
  have h2 := nd.2.1
  have e : liR (pre ++ k :: post) k = liR pre k ++ liR (k :: post) k := by unfold liR; rw [List.filter_append]
  rw [e, liR_none h1, liR_head h2]
theorem lk_less (nd : (pre ++ k :: post).Nodup) (z : Int) : lk (pre ++ post) z = if pre ≠ [] ∧ z = liL pre then some (liF post) else if z = k then none else lk (pre ++ k :: post) z := by
  induction pre with
  | nil =>
    have hk : k ∉ post := (List.nodup_cons.1 nd).1
    rw [if_neg (fun e => e.1 rfl)]
    by_cases h : z = k
    · subst h; rw [if_pos rfl]; exact lk_none hk
    · rw [if_neg h]
      show lk post z = lk (k :: post) z
      rw [lk.eq_def (k :: post)]
      dsimp only
      rw [if_neg h]
  | cons a r ih =>
    rw [List.cons_append, List.nodup_cons] at nd
    have ih := ih nd.2
    have ha : a ∉ r := fun e => nd.1 (by simp [e])
    have hak : a ≠ k := fun e => nd.1 (by simp [e])
    rw [List.cons_append, lk, List.cons_append, lk]
    cases r with
    | nil =>
      by_cases h : z = a
      · subst h; rw [if_pos rfl, if_pos ⟨by simp, rfl⟩]; rfl
      · rw [if_neg h, if_neg (fun e => h e.2), if_neg h, ih, if_neg (fun e => e.1 rfl)]
    | cons b r =>
      by_cases h : z = a
      · subst h
        have h3 : z ≠ liL (b :: r) := fun e => ha (e ▸ liL_mem (by simp))
        rw [if_pos rfl, liL_cons, if_neg (fun e => h3 e.2), if_neg hak, if_pos rfl]
        rfl
      · rw [if_neg h, ih, liL_cons, if_neg h]
        by_cases h4 : z = liL (b :: r)
        · rw [if_pos ⟨by simp, h4⟩, if_pos ⟨by simp, h4⟩]
        · rw [if_neg (fun e : b :: r ≠ [] ∧ z = liL (b :: r) => h4 e.2), if_neg (fun e : a :: b :: r ≠ [] ∧ z = liL (b :: r) => h4 e.2)]
theorem LiOk.last (h : LiOk L) : I64 (liL L) := by
  cases L with
  | nil => exact ⟨by decide, by decide⟩
  | cons a r => have := h.at_ _ (liL_mem (L := a :: r) (by simp)); exact ⟨by omega, this.2⟩
theorem LiOk.left (h : LiOk (pre ++ post)) : LiOk pre := ⟨(List.nodup_append.1 h.nd).1, fun x hx => h.at_ x (List.mem_append_left _ hx)⟩
theorem LiOk.right (h : LiOk (pre ++ post)) : LiOk post := ⟨(List.nodup_append.1 h.nd).2.1, fun x hx => h.at_ x (List.mem_append_right _ hx)⟩
theorem LiOk.first_none (h : LiOk L) : liF L = -1 ↔ L = [] := by
  cases L with
  | nil => simp [liF]
  | cons a r =>
    have := h.at_ a (by simp)
    constructor
    · intro e; have e : a = -1 := e; omega
    · intro e; cases e
theorem LiOk.last_none (h : LiOk L) : liL L = -1 ↔ L = [] := by
  by_cases e : L = []
  · subst e; simp [liL]
  · have := h.at_ _ (liL_mem e)
    constructor
    · intro e; omega
    · intro e2; exact (e e2).elim
end
/-- The line's own block. -/
def Lw (w : World) (p : Nat) (m : Option Nat) (fi la : Int) : Prop := w.heap[p]? = some (.cells #[.map m, .int .i64 fi, .int .i64 la] 203 (0, 0))
section
variable {w w' : World} {p : Nat} {m : Option Nat} {fi la : Int}
theorem Lw.lt (h : Lw w p m fi la) : p < w.heap.size := (Array.getElem?_eq_some_iff.1 h).1
theorem Lw.carry {S : Nat → Prop} (h : Lw w p m fi la) (f : Fr S w w') (hn : ¬ S p) : Lw w' p m fi la := (f.block p h.lt hn).trans h
theorem Lw.c0 (h : Lw w p m fi la) : w.cell? ⟨p, 0, none⟩ = some (.map m) := by unfold Lw at h; simp [World.cell?, h]
theorem Lw.c1 (h : Lw w p m fi la) : w.cell? ⟨p, 1, none⟩ = some (.int .i64 fi) := by unfold Lw at h; simp [World.cell?, h]
theorem Lw.c2 (h : Lw w p m fi la) : w.cell? ⟨p, 2, none⟩ = some (.int .i64 la) := by unfold Lw at h; simp [World.cell?, h]
theorem Lw.fz (h : Lw w p m fi la) (j : Nat) : w.frozen? ⟨p, j, none⟩ = false := by unfold Lw at h; simp [World.frozen?, h]
theorem Lw.set0 (h : Lw w p m fi la) (x : Option Nat) : Lw (w.setCell ⟨p, 0, none⟩ (.map x)) p x fi la := by unfold Lw at h ⊢; simp [World.setCell, Array.getElem?_modify, h]
theorem Lw.set1 (h : Lw w p m fi la) (x : Int) : Lw (w.setCell ⟨p, 1, none⟩ (.int .i64 x)) p m x la := by unfold Lw at h ⊢; simp [World.setCell, Array.getElem?_modify, h]
theorem Lw.set2 (h : Lw w p m fi la) (x : Int) : Lw (w.setCell ⟨p, 2, none⟩ (.int .i64 x)) p m fi x := by unfold Lw at h ⊢; simp [World.setCell, Array.getElem?_modify, h]
end
/-- Its map: none at all, or the links. -/
def Ol (w : World) (m : Option Nat) (L : List Int) : Prop := (m = none ∧ L = []) ∨ ∃ B, m = some B ∧ Oi w B L.length (lk L) L.length
section
variable {w w' : World} {p : Nat} {m : Option Nat} {fi la : Int} {L : List Int} {Z : Nat → Prop}
theorem Ol.carry {S : Nat → Prop} (h : Ol w m L) (f : Fr S w w') (hn : ∀ B, m = some B → ¬ S B) : Ol w' m L := by
  rcases h with h | ⟨B, e, h⟩
  · exact .inl h
  · exact .inr ⟨B, e, h.carry f (hn B e)⟩
theorem Ol.len (h : Ol w m L) (ty : TypeId) : (Builtin.len_ #[168] ty #[.map m]).run Tryz.prog w = .ok (.int .i64 L.length) w := by
  rcases h with ⟨rfl, rfl⟩ | ⟨B, rfl, h⟩
  · exact Maps.len_nil Tryz.underlying168 ty
  · exact h.len ty
theorem Ol.lookOk (h : Ol w m L) {x : Int} (hx : I64 x) : (Instr.lookup 168 (.map m) (.int .i64 x) true).run Tryz.prog w = .ok (.tuple #[.int .i64 ((lk L x).getD 0), .bool (decide (x ∈ L))]) w := by
  have hw : (Lit.int .i64 x).wf = true := wf_small hx.1 hx.2
  rcases h with ⟨rfl, rfl⟩ | ⟨B, rfl, h⟩
  · exact Maps.look_nil true intLaw Tryz.underlying168 (zero_int w) (int_key hw)
  · rw [h.lookOk hw, lk_some]
theorem Ol.look (h : Ol w m L) {x : Int} (hx : I64 x) : (Instr.lookup 168 (.map m) (.int .i64 x) false).run Tryz.prog w = .ok (.int .i64 ((lk L x).getD 0)) w := by
  have hw : (Lit.int .i64 x).wf = true := wf_small hx.1 hx.2
  rcases h with ⟨rfl, rfl⟩ | ⟨B, rfl, h⟩
  · exact Maps.look_nil false intLaw Tryz.underlying168 (zero_int w) (int_key hw)
  · exact h.look hw
end
/-- The program's line in memory. -/
structure Ln (p : Nat) (L : List Int) (w : World) (Z : Nat → Prop) (m : Option Nat) (fi la : Int) : Prop where
  c : Lw w p m fi la
  o : Ol w m L
  ends : L ≠ [] → fi = liF L ∧ la = liL L
  zp : Z p
  zm : ∀ B, m = some B → Z B ∧ B ≠ p
  lt : ∀ i, Z i → i < w.heap.size
def Lm (p : Nat) (L : List Int) (w : World) (Z : Nat → Prop) : Prop := ∃ m fi la, Ln p L w Z m fi la
theorem Lm.good (p : Nat) (L : List Int) : Good (Lm p L) :=
  ⟨fun h f hs => by
    obtain ⟨m, fi, la, h⟩ := h
    exact ⟨m, fi, la, h.c.carry f (hs _ h.zp), h.o.carry f fun B e => hs _ (h.zm B e).1, h.ends, h.zp, h.zm, fun i hi => Nat.lt_of_lt_of_le (h.lt i hi) f.size⟩,
  fun h k1 k2 => by
    obtain ⟨m, fi, la, h⟩ := h
    exact ⟨m, fi, la, h.c, h.o, h.ends, k1 _ h.zp, fun B e => ⟨k1 _ (h.zm B e).1, (h.zm B e).2⟩, k2⟩⟩
end Go.Proofs.YtioplfbkfokkfaaGreatDoor

namespace Go.Proofs.YtioplfbkfokkfaaGreatDoor
open Go.RowKit

/-- A scope whose label is jumped back to: what stands ahead of the label, and a pass. -/
theorem wp_scope_back {P : Program} {Q : Exit → Act → World → Prop} {a : Act} {w : World} {c rest : Code} (l : Nat) (J : Act → World → Prop) (μ : Act → World → Nat) (hf : findLabel c l = some (Code.skip.seq rest))
    (pre : ∀ R : Exit → Act → World → Prop, (∀ a w, J a w → rest.wp P R a w) → c.wp P R a w)
    (pass : ∀ a w, J a w → rest.wp P (Exit.jump l (fun a' w' => J a' w' ∧ μ a' w' < μ a w) Q) a w) : (Code.scope c).wp P Q a w :=
  wp_scope_jumps l J μ hf (pre _ fun a w h => Code.wp_mono (fun e a w he => by
    cases e with
    | goto l' => exact ⟨he.1, he.2.1⟩
    | _ => exact he) (pass a w h)) fun a w h => wp_seq (wp_skip (pass a w h))
/-- A number as it lies in a slot. -/
def intV : Value → Nat
  | .int _ x => x.toNat
  | _ => 0
section
variable {w : World} {p : Nat} {Z : Nat → Prop} {L : List Int} {m : Option Nat} {fi la : Int}
theorem m_len (c : Lw w p m fi la) (o : Ol w m L) : Calls Tryz.prog 214 #[.pointer (some ⟨p, 0, none⟩)] w fun e w' => e = .returned (.int .i64 L.length) ∧ w' = w := by
  have c0 := c.c0
  have hl := fun ty => o.len ty
  clear c o
  go_enter Tryz.func214, Tryz.ntmps214
  go_wp2
  go_ret
  exact ⟨by simp, rfl⟩
theorem m_has (c : Lw w p m fi la) (o : Ol w m L) {k : Int} (hk : I64 k) : Calls Tryz.prog 225 #[.pointer (some ⟨p, 0, none⟩), .int .i64 k] w fun e w' => e = .returned (.bool (decide (k ∈ L))) ∧ w' = w := by
  have c0 := c.c0
  have hl := o.lookOk hk
  clear c o
  generalize decide (k ∈ L) = b at *
  generalize (lk L k).getD 0 = y at *
  go_enter Tryz.func225, Tryz.ntmps225
  go_wp2
  go_ret
  exact ⟨by simp, rfl⟩
theorem m_front (c : Lw w p m fi la) (o : Ol w m L) (he : L ≠ [] → fi = liF L) : Calls Tryz.prog 168 #[.pointer (some ⟨p, 0, none⟩)] w fun e w' => e = .returned (.int .i64 (liF L)) ∧ w' = w := by
  have H1 := hid (m_len c o)
  have c1 := c.c1
  clear c o
  cases L with
  | nil =>
    go_enter Tryz.func168, Tryz.ntmps168
    go_wp2_with fail
    refine H1.out.mono ?_
    rintro e w1 ⟨rfl, hw⟩
    obtain rfl := hw.symm
    go_wp2
    go_ret
    exact ⟨by simp [liF], rfl⟩
  | cons x r =>
    obtain rfl : x = fi := ((he (by simp)).symm : liF (x :: r) = fi)
    have hn : ((x :: r).length : Int) ≠ 0 := by simp; omega
    clear he
    generalize (x :: r).length = N at *
    go_enter Tryz.func168, Tryz.ntmps168
    go_wp2_with fail
    refine H1.out.mono ?_
    rintro e w1 ⟨rfl, hw⟩
    obtain rfl := hw.symm
    go_wp2
    go_ret
    exact ⟨by simp [liF], rfl⟩
set_option maxHeartbeats 4000000 in
set_option maxRecDepth 20000 in
theorem m_ahead (c : Lw w p m fi la) (o : Ol w m L) (ok : LiOk L) (hl : L.length ≤ 5000) (he : L ≠ [] → fi = liF L) {k : Int} (hk : k ∈ L) : Calls Tryz.prog 226 #[.pointer (some ⟨p, 0, none⟩), .int .i64 k] w fun e w' => (∃ pre post, L = pre ++ k :: post ∧ e = .returned (.int .i64 (liL pre))) ∧ Fr (fun _ => False) w w' := by
  have H1 : Hid (∀ w0, Fr (fun _ => False) w w0 → Calls Tryz.prog 214 #[.pointer (some ⟨p, 0, none⟩)] w0 fun e w' => e = .returned (.int .i64 L.length) ∧ w' = w0) := fun w0 f => m_len (c.carry f id) (o.carry f fun _ _ => id)
  have HC : Hid (∀ w0, Fr (fun _ => False) w w0 → w0.cell? ⟨p, 0, none⟩ = some (.map m)) := fun w0 f => (c.carry f id).c0
  have HL : Hid (∀ w0, Fr (fun _ => False) w w0 → ∀ x, I64 x → (Instr.lookup 168 (.map m) (.int .i64 x) false).run Tryz.prog w0 = .ok (.int .i64 ((lk L x).getD 0)) w0) := fun w0 f x hx => (o.carry f fun _ _ => id).look hx
  have HOK := hid ok
  obtain rfl : fi = liF L := he (fun e => by subst e; simp at hk)
  have c1 := c.c1
  have H0 : Hid (L = [] ++ L ∧ k ∈ L) := ⟨rfl, hk⟩
  clear c o ok he hk
  go_enter Tryz.func226, Tryz.ntmps226
  go_wp2
  refine wp_scope_back 0 (fun a' w' => ∃ (pre rest : List Int) (n : Nat) (b x : Int) (u8 u9 u10 u11 u12 u13 u14 u15 u16 u17 u18 u19 u20 u21 u22 u23 u24 u25 u26 u27 u28 u29 u30 : Value), Hid (L = pre ++ rest ∧ k ∈ rest ∧ b = liL pre ∧ x = liF rest ∧ n = rest.length ∧ Fr (fun _ => False) w w') ∧ a' = { tmps := #[.pointer (some ⟨p, 0, none⟩), .int .i64 k, undef, undef, .int .i64 0, .int .i64 b, .int .i64 x, .int .i64 n, u8, u9, u10, u11, u12, u13, u14, u15, u16, u17, u18, u19, u20, u21, u22, u23, u24, u25, u26, u27, u28, u29, u30], defers := [] }) (fun a' _ => intV (a'.tmps.getD 7 undef)) rfl ?pre ?pass
  case pre =>
    intro R hK
    go_wp2_with fail
    go_region_held3 (fun w' => w'.cell? ⟨p, 1, none⟩ = some (.int .i64 (liF L))) (first | go_keep | assumption) (first | (go_at_call 214; refine (H1.out _ (Fr.refl _ _).drew).mono ?_; rintro e w1 ⟨rfl, rfl⟩))
    go_wp2
    go_step3
    rename_i K hKK
    exact hKK _ _ (hK _ _ ⟨[], L, L.length, _, _, _, _, _, _, _, _, _, _, _, _, _, _, _, _, _, _, _, _, _, _, _, _, _, ⟨rfl, H0.out.2, rfl, rfl, rfl, (Fr.refl _ _).drew⟩, rfl⟩)
  case pass =>
    rintro a' wr ⟨pre, rest, n, b, x, u8, u9, u10, u11, u12, u13, u14, u15, u16, u17, u18, u19, u20, u21, u22, u23, u24, u25, u26, u27, u28, u29, u30, HI, rfl⟩
    clear c1 H0 H1
    obtain ⟨rfl, hk, hb, hx, hn, hf⟩ := HI.out
    cases rest with
    | nil => simp at hk
    | cons y r =>
      obtain rfl : x = y := hx
      have HF := hid hf
      have hnl : n ≤ 5000 := by subst hn; simp at hl ⊢; omega
      have hn0 : (n : Int) ≠ 0 := by subst hn; simp; omega
      by_cases e : x = k
      · subst e
        have HB := hid hb
        clear hb HI hn hk hf hl HL HC HOK
        go_wp2
        rw [jump_ret]
        go_ret
        exact ⟨⟨pre, r, rfl, by rw [← HB.out]; simp⟩, HF.out⟩
      · have hxk : (x == k) = false := by simp [e]
        have hxp : x ∉ pre := fun h => (List.nodup_append.1 HOK.out.nd).2.2 x h x (by simp) rfl
        have hl0 := HL.out wr.drew HF.out.drew x (by have := HOK.out.at_ x (by simp); exact ⟨by omega, this.2⟩)
        rw [lk_at hxp, Option.getD_some] at hl0
        have hc0 := HC.out wr.drew HF.out.drew
        have hkr : k ∈ r := by rcases List.mem_cons.1 hk with h | h; exact (e h.symm).elim; exact h
        have HN : Hid ((∃ (pre' rest' : List Int) (n' : Nat), pre ++ x :: r = pre' ++ rest' ∧ k ∈ rest' ∧ x = liL pre' ∧ liF r = liF rest' ∧ n' = rest'.length ∧ IntKind.i64.wrap ((n : Int) - 1) = n' ∧ n' < n)) := ⟨pre ++ [x], r, r.length, by simp, hkr, (liL_snoc _ _).symm, rfl, rfl, by rw [IntKind.wrap_i64]; subst hn; simp at hl ⊢; omega, by subst hn; simp⟩
        clear hb HI hn hk hf hl HL HC HOK hkr hxp e
        generalize liF r = z at *
        obtain ⟨pre', rest', n', e1, e2, e3, e4, e5, hw, hlt⟩ := HN.out
        have HE := hid (And.intro e1 (And.intro e2 (And.intro e3 (And.intro e4 e5))))
        clear e1 e2 e3 e4 e5 HN
        go_wp2_with fail
        go_region_held3 (fun w' => w'.cell? ⟨p, 0, none⟩ = some (.map m) ∧ (Instr.lookup 168 (.map m) (.int .i64 x) false).run Tryz.prog w' = .ok (.int .i64 z) w') (first | go_keep | exact ⟨by assumption, by assumption⟩) (fail)
        go_wp2
        go_step3
        exact ⟨rfl, ⟨pre', rest', n', _, _, _, _, _, _, _, _, _, _, _, _, _, _, _, _, _, _, _, _, _, _, _, _, _, ⟨HE.out.1, HE.out.2.1, HE.out.2.2.1, HE.out.2.2.2.1, HE.out.2.2.2.2, HF.out.drew⟩, rfl⟩, by simp [intV]; omega⟩
end
end Go.Proofs.YtioplfbkfokkfaaGreatDoor

namespace Go.Proofs.YtioplfbkfokkfaaGreatDoor
open Go.RowKit

section
variable {w : World} {p : Nat} {Z : Nat → Prop} {L : List Int}
set_option maxRecDepth 20000 in
theorem n_new (w : World) : Calls Tryz.prog 101 #[] w fun e w' => ∃ p Z, e = .returned (.pointer (some ⟨p, 0, none⟩)) ∧ Lm p [] w' Z ∧ Fr (fun _ => False) w w' ∧ ∀ i, Z i → w.heap.size ≤ i ∧ i < w'.heap.size := by
  go_enter Tryz.func101, Tryz.ntmps101
  go_wp2
  go_ret
  exact ⟨w.heap.size, fun i => i = w.heap.size, by simp, ⟨none, 0, 0, heap_alloc_new w _, .inl ⟨rfl, rfl⟩, fun e => (e rfl).elim, rfl, (fun B e => by cases e), (fun i e => by subst e; simp)⟩, (Fr.refl _ _).alloc _, fun i e => by subst e; simp⟩
set_option maxRecDepth 20000 in
set_option maxHeartbeats 1000000 in
theorem n_push (h : Lm p L w Z) (ok : LiOk L) (hl : L.length ≤ 5000) {k : Int} (hk : I64 k) : Calls Tryz.prog 191 #[.pointer (some ⟨p, 0, none⟩), .int .i64 k] w fun e w' => e = .returned (.int .i64 (liPE L k)) ∧ ∃ Z', Lm p (liP L k) w' Z' ∧ Gw w w' Z Z' := by
  obtain ⟨m, fi, la, h⟩ := h
  unfold liPE liP
  by_cases h0 : k < 0
  · have HR : Hid (∃ Z', Lm p L w Z' ∧ Gw w w Z Z') := ⟨Z, ⟨m, fi, la, h⟩, Gw.same h.lt (Fr.refl _ _)⟩
    rw [if_pos h0, if_pos (.inl h0)]
    clear h ok hk
    go_enter Tryz.func191, Tryz.ntmps191
    go_wp2
    go_ret
    exact ⟨by simp, HR.out⟩
  have H1 := hid (m_has h.c h.o hk)
  rw [if_neg h0]
  by_cases h1 : k ∈ L
  · have HR : Hid (∃ Z', Lm p L w Z' ∧ Gw w w Z Z') := ⟨Z, ⟨m, fi, la, h⟩, Gw.same h.lt (Fr.refl _ _)⟩
    rw [if_pos h1, if_pos (.inr h1)]
    rw [decide_eq_true h1] at H1
    clear h ok hk h1
    go_enter Tryz.func191, Tryz.ntmps191
    go_wp2_with fail
    refine H1.out.mono ?_
    rintro e w1 ⟨rfl, hw⟩
    obtain rfl := hw.symm
    go_wp2
    go_ret
    exact ⟨by simp, HR.out⟩
  have H2 := hid (m_len h.c h.o)
  rw [if_neg h1, if_neg (by rintro (e | e); exact h0 e; exact h1 e)]
  rw [decide_eq_false h1] at H1
  have hwf := wf_small hk.1 hk.2
  cases hL : L with
  | nil =>
    subst hL
    have hne : w.heap.size ≠ p := by have := h.c.lt; omega
    have L1 := h.c.carry (S := fun _ => False) ((Fr.refl _ w).alloc (.map #[] 0)) id
    have L2 := (L1.set0 (some w.heap.size)).set1 k
    have O2 : Oi (((w.alloc (.map #[] 0)).setCell ⟨p, 0, none⟩ (.map (some w.heap.size))).setCell ⟨p, 1, none⟩ (.int .i64 k)) w.heap.size 0 (fun _ => none) 0 := (Oi.new w).carry (S := fun i => i = p) (Fr.setCell (S := fun i => i = p) (Fr.setCell (S := fun i => i = p) (Fr.refl _ _) (p := ⟨p, 0, none⟩) rfl _) (p := ⟨p, 1, none⟩) rfl _) hne
    obtain ⟨w3, hrun, O3, F3⟩ := O2.store (by decide) hwf (wf_small (x := -1) (by decide) (by decide))
    have L3 := L2.carry F3 (fun e => hne e.symm)
    have F4 : Fr Z w (w3.setCell ⟨p, 2, none⟩ (.int .i64 k)) := Fr.setCell (Fr.trans' (Fr.setCell (Fr.setCell ((Fr.refl _ _).alloc _) (p := ⟨p, 0, none⟩) h.zp _) (p := ⟨p, 1, none⟩) h.zp _) F3 fun i hi e => by omega) (p := ⟨p, 2, none⟩) h.zp _
    have hs3 : w.heap.size < w3.heap.size := O3.lt
    have HR : Hid (∃ Z', Lm p ([] ++ [k]) (w3.setCell ⟨p, 2, none⟩ (.int .i64 k)) Z' ∧ Gw w (w3.setCell ⟨p, 2, none⟩ (.int .i64 k)) Z Z') := by
      have hlt : ∀ i, (Z i ∨ i = w.heap.size) → i < (w3.setCell ⟨p, 2, none⟩ (.int .i64 k)).heap.size := fun i e => by
        rcases e with e | e
        · exact Nat.lt_of_lt_of_le (h.lt i e) F4.size
        · subst e; simpa using hs3
      refine ⟨fun i => Z i ∨ i = w.heap.size, ⟨some w.heap.size, k, k, L3.set2 k, .inr ⟨w.heap.size, rfl, ?_⟩, fun _ => ⟨rfl, rfl⟩, .inl h.zp, fun B e => ?_, hlt⟩, fun i e => .inl e, fun i e => ?_, hlt, F4⟩
      · exact ((O3.carry (S := fun i => i = p) (Fr.setCell (S := fun i => i = p) (Fr.refl _ _) (p := ⟨p, 2, none⟩) rfl _) hne).same fun z => (lk_one k z).symm).count rfl
      · cases e; exact ⟨.inr rfl, hne⟩
      · rcases e with e | e
        · exact .inl e
        · exact .inr (by omega)
    have c0 := L1.c0
    have c1 := L1.c1
    have f1 := L1.fz
    have c0' := L2.c0
    have c2 := L3.c2
    have f3 := L3.fz
    have hmm := @run_makeMap Tryz.prog
    clear h L1 L2 O2 O3 F3 L3 F4 hs3 ok hk hwf h1
    go_enter Tryz.func191, Tryz.ntmps191
    go_wp2_with fail
    refine H1.out.mono ?_
    rintro e w1 ⟨rfl, hw⟩
    obtain rfl := hw.symm
    go_wp2_with fail
    refine H2.out.mono ?_
    rintro e w1 ⟨rfl, hw⟩
    obtain rfl := hw.symm
    go_wp2
    go_ret
    exact ⟨by simp, HR.out⟩
  | cons y r =>
    have hne : L ≠ [] := by rw [hL]; simp
    have hn0 : (L.length : Int) ≠ 0 := by rw [hL]; simp; omega
    rw [← hL]
    clear hL
    obtain ⟨rfl, rfl⟩ := h.ends hne
    rcases h.o with ⟨_, e⟩ | ⟨B, rfl, O⟩
    · exact (hne e).elim
    obtain ⟨zB, hBp⟩ := h.zm B rfl
    have hla := ok.last
    have F0 : Fr (fun _ => False) w w.drew := (Fr.refl _ _).drew
    obtain ⟨w1, hrun1, O1, F1⟩ := (O.carry F0 id).store (by unfold maxLen; omega) (wf_small hla.1 hla.2) hwf
    rw [lk_some, decide_eq_true (liL_mem hne), if_pos rfl] at O1
    obtain ⟨w2, hrun2, O2, F2⟩ := O1.tight.store (by unfold maxLen; omega) hwf (wf_small (x := -1) (by decide) (by decide))
    have hkl : k ≠ liL L := fun e => h1 (e ▸ liL_mem hne)
    rw [if_neg hkl, lk_some, decide_eq_false h1, if_neg (by simp)] at O2
    have L0 := h.c.carry F0 id
    have L1 := L0.carry F1 (fun e => hBp e.symm)
    have L2 := L1.carry F2 (fun e => hBp e.symm)
    have F3 : Fr Z w (w2.setCell ⟨p, 2, none⟩ (.int .i64 k)) := Fr.setCell (Fr.trans' (Fr.trans' (F0.mono fun _ _ e => e.elim) F1 fun i _ e => e ▸ zB) F2 fun i _ e => e ▸ zB) (p := ⟨p, 2, none⟩) h.zp _
    have HR : Hid (∃ Z', Lm p (L ++ [k]) (w2.setCell ⟨p, 2, none⟩ (.int .i64 k)) Z' ∧ Gw w (w2.setCell ⟨p, 2, none⟩ (.int .i64 k)) Z Z') := by
      refine ⟨Z, ⟨some B, liF L, k, L2.set2 k, .inr ⟨B, rfl, ?_⟩, fun _ => ⟨(liF_app hne _).symm, (liL_snoc _ _).symm⟩, h.zp, h.zm, fun i hi => Nat.lt_of_lt_of_le (h.lt i hi) F3.size⟩, Gw.same h.lt F3⟩
      exact ((O2.carry (S := fun i => i = p) (Fr.setCell (S := fun i => i = p) (Fr.refl _ _) (p := ⟨p, 2, none⟩) rfl _) hBp).same fun z => (lk_snoc ok.nd hne h1 z).symm).count (by simp)
    have c0 := L0.c0
    have c2 := L0.c2
    have c10 := L1.c0
    have c12 := L1.c2
    have c22 := L2.c2
    have f2 := L2.fz
    clear h O O1 O2 F0 F1 F2 F3 L0 L1 L2 ok hk hwf h1 hla hkl hne
    generalize liL L = la at *
    generalize L.length = NL at *
    go_enter Tryz.func191, Tryz.ntmps191
    go_wp2_with fail
    refine H1.out.mono ?_
    rintro e w1 ⟨rfl, hw⟩
    obtain rfl := hw.symm
    go_wp2_with fail
    refine H2.out.mono ?_
    rintro e w1 ⟨rfl, hw⟩
    obtain rfl := hw.symm
    go_wp2_with fail
    go_region_held3 (fun w' => w'.cell? ⟨p, 0, none⟩ = some (.map (some B)) ∧ w'.cell? ⟨p, 2, none⟩ = some (.int .i64 la)) (first | go_keep | exact ⟨by assumption, by assumption⟩) (fail)
    go_wp2
    go_ret
    exact ⟨by simp, HR.out⟩
/-- Numbers are left in its map. -/
theorem Ln.out {L' : List Int} {w' : World} {B n cnt : Nat} {fi la fi' la' : Int} (h : Ln p L w Z (some B) fi la) (c : Lw w' p (some B) fi' la') (o : Oi w' B n (lk L') cnt) (hc : cnt = L'.length) (ends : L' ≠ [] → fi' = liF L' ∧ la' = liL L') (f : Fr Z w w') : ∃ Z', Lm p L' w' Z' ∧ Gw w w' Z Z' :=
  ⟨Z, ⟨some B, fi', la', c, .inr ⟨B, rfl, o.count hc⟩, ends, h.zp, h.zm, fun i hi => Nat.lt_of_lt_of_le (h.lt i hi) f.size⟩, Gw.same h.lt f⟩
theorem split_one {k : Int} : ∀ {a b c d : List Int}, a ++ k :: b = c ++ k :: d → k ∉ a → k ∉ c → a = c ∧ b = d
  | [], b, [], d, h, _, _ => ⟨rfl, by simpa using h⟩
  | [], b, x :: c, d, h, _, h2 => by simp at h h2; exact (h2.1 h.1).elim
  | x :: a, b, [], d, h, h1, _ => by simp at h h1; exact (h1.1 h.1.symm).elim
  | x :: a, b, y :: c, d, h, h1, h2 => by
    simp at h h1 h2
    obtain ⟨e1, e2⟩ := split_one (k := k) h.2 h1.2 h2.2
    exact ⟨by rw [h.1, e1], e2⟩
set_option maxHeartbeats 2000000 in
set_option maxRecDepth 20000 in
theorem n_remove (h : Lm p L w Z) (ok : LiOk L) (hl : L.length ≤ 5000) {k : Int} (hk : I64 k) : Calls Tryz.prog 193 #[.pointer (some ⟨p, 0, none⟩), .int .i64 k] w fun e w' => e = .returned (.int .i64 (liRE L k)) ∧ ∃ Z', Lm p (liR L k) w' Z' ∧ Gw w w' Z Z' := by
  obtain ⟨m, fi, la, h⟩ := h
  have H1 := hid (m_has h.c h.o hk)
  unfold liRE
  by_cases h1 : k ∈ L
  case neg =>
    have HR : Hid (∃ Z', Lm p L w Z' ∧ Gw w w Z Z') := ⟨Z, ⟨m, fi, la, h⟩, Gw.same h.lt (Fr.refl _ _)⟩
    rw [if_neg h1, liR_none h1]
    rw [decide_eq_false h1] at H1
    clear h ok hk h1
    go_enter Tryz.func193, Tryz.ntmps193
    go_wp2_with fail
    refine H1.out.mono ?_
    rintro e w1 ⟨rfl, hw⟩
    obtain rfl := hw.symm
    go_wp2
    go_ret
    exact ⟨by simp, HR.out⟩
  rw [if_pos h1]
  rw [decide_eq_true h1] at H1
  obtain ⟨pre, post, hL⟩ := List.append_of_mem h1
  have nd := ok.nd
  rw [hL] at nd
  have hkp : k ∉ pre := fun e => (List.nodup_append.1 nd).2.2 k e k (by simp) rfl
  have HA : Hid (∀ w0, Fr (fun _ => False) w w0 → Calls Tryz.prog 226 #[.pointer (some ⟨p, 0, none⟩), .int .i64 k] w0 fun e w' => e = .returned (.int .i64 (liL pre)) ∧ Fr (fun _ => False) w0 w') := fun w0 f => by
    refine (m_ahead (h.c.carry f id) (h.o.carry f fun _ _ => id) ok hl (fun e => (h.ends e).1) h1).mono ?_
    rintro e w' ⟨⟨pre', post', hL', he⟩, hf⟩
    have hkp' : k ∉ pre' := fun e => by
      have := ok.nd
      rw [hL'] at this
      exact (List.nodup_append.1 this).2.2 k e k (by simp) rfl
    obtain ⟨rfl, rfl⟩ := split_one (hL.symm.trans hL') hkp hkp'
    exact ⟨he, hf⟩
  have HC : Hid (∀ w0, Fr (fun _ => False) w w0 → w0.cell? ⟨p, 0, none⟩ = some (.map m)) := fun w0 f => (h.c.carry f id).c0
  have HLK : Hid (∀ w0, Fr (fun _ => False) w w0 → (Instr.lookup 168 (.map m) (.int .i64 k) false).run Tryz.prog w0 = .ok (.int .i64 (liF post)) w0) := fun w0 f => by
    have := (h.o.carry f fun _ _ => id).look hk
    rw [hL, lk_at hkp, Option.getD_some] at this
    exact this
  have HH := hid h
  have HOK := hid ok
  have HND := hid (And.intro hL (And.intro nd hkp))
  rw [show liR L k = pre ++ post by rw [hL]; exact liR_split nd]
  clear h ok h1 hL nd hkp
  go_enter Tryz.func193, Tryz.ntmps193
  go_wp2_with fail
  refine H1.out.mono ?_
  rintro e w1 ⟨rfl, hw⟩
  obtain rfl := hw.symm
  have c0 := HC.out w.drew (Fr.refl _ _).drew
  have k0 := HLK.out w.drew (Fr.refl _ _).drew
  go_wp2_with fail
  go_region_held3 (fun w' => w'.cell? ⟨p, 0, none⟩ = some (.map m) ∧ (Instr.lookup 168 (.map m) (.int .i64 k) false).run Tryz.prog w' = .ok (.int .i64 (liF post)) w') (first | go_keep | exact ⟨by assumption, by assumption⟩) (first | (go_at_call 226; refine (HA.out _ (Fr.refl _ _).drew).mono ?_; rintro e w1 ⟨rfl, hf1⟩; have F1 := hid (Fr.trans ((Fr.refl (fun _ => False) w).drew) hf1); have b0 := HC.out w1 F1.out; have k1 := HLK.out w1 F1.out; clear hf1))
  all_goals
    clear HA HC HLK H1 c0 k0 k1
    obtain ⟨hL, nd, hkp⟩ := HND.out
    have ok := HOK.out
    have hne : L ≠ [] := by rw [hL]; simp
    have h := HH.out
    obtain ⟨rfl, rfl⟩ := h.ends hne
    rcases h.o with ⟨_, e⟩ | ⟨B, rfl, O⟩
    · exact (hne e).elim
    obtain ⟨zB, hBp⟩ := h.zm B rfl
    have HO1 := hid (O.carry F1.out id)
    have hwf := wf_small hk.1 hk.2
    obtain ⟨w2, hdel, O2, F2⟩ := HO1.out.drop hwf 0
    rw [lk_some, decide_eq_true (by rw [hL]; simp), if_pos rfl] at O2
    have L2 := (h.c.carry F1.out id).carry F2 (fun e => hBp e.symm)
    have FF : Fr Z w w2 := Fr.trans' (F1.out.mono fun _ _ e => e.elim) F2 fun i _ e => e ▸ zB
    have hlen : L.length - 1 = (pre ++ post).length := by rw [hL, List.length_append, List.length_append, List.length_cons]; omega
    have okp : LiOk pre := by rw [hL] at ok; exact ok.left
    have okq : LiOk post := by rw [hL] at ok; have := ok.right; exact LiOk.right (pre := [k]) this
    have hfi : pre ≠ [] → liF L = liF (pre ++ post) := fun e => by rw [hL, liF_app e, liF_app e]
    have hla : post ≠ [] → liL L = liL (pre ++ post) := fun e => by rw [hL, liL_app _ e, show pre ++ k :: post = (pre ++ [k]) ++ post by simp, liL_app _ e]
    have hqn := okq.first_none
    have f0 := L2.fz
    have c1 := L2.c1
    have c2 := L2.c2
    have c0 := L2.c0
    have zp := h.zp
    have hS : ∀ {w1 : World} {n cnt : Nat} {f : Int → Option Int} (o : Oi w1 B n f cnt) (j : Nat) (v : Value), Oi (w1.setCell ⟨p, j, none⟩ v) B n f cnt := fun o j v => o.carry (S := fun i => i = p) (Fr.setCell (S := fun i => i = p) (Fr.refl _ _) (p := ⟨p, j, none⟩) rfl _) hBp
    by_cases hp : pre = []
    · subst hp
      have O3 : Oi (w2.setCell ⟨p, 1, none⟩ (.int .i64 (liF post))) B L.length (lk ([] ++ post)) (L.length - 1) := hS (O2.same fun z => by rw [lk_less nd z, if_neg (fun e : ([] : List Int) ≠ [] ∧ z = liL [] => e.1 rfl), ← hL]) 1 _
      by_cases hq : post = []
      · subst hq
        have HR : Hid (∃ Z', Lm p ([] ++ []) ((w2.setCell ⟨p, 1, none⟩ (.int .i64 (-1))).setCell ⟨p, 2, none⟩ (.int .i64 (-1))) Z' ∧ Gw w ((w2.setCell ⟨p, 1, none⟩ (.int .i64 (-1))).setCell ⟨p, 2, none⟩ (.int .i64 (-1))) Z Z') := h.out ((L2.set1 _).set2 _) (hS O3 2 _) hlen (fun e => (e rfl).elim) (Fr.setCell (Fr.setCell FF (p := ⟨p, 1, none⟩) zp _) (p := ⟨p, 2, none⟩) zp _)
        clear HH HOK HND hL nd hkp ok hne h O HO1 O2 F2 F1 L2 FF hlen okp okq hfi hla O3 hS zB zp
        go_wp2
        go_ret
        exact ⟨by simp, HR.out⟩
      · have HR := hid (h.out (L2.set1 _) O3 hlen (fun e => ⟨rfl, hla hq⟩) (Fr.setCell FF (p := ⟨p, 1, none⟩) zp _))
        have hq1 : liF post ≠ -1 := fun e => hq (hqn.1 e)
        clear HH HOK HND hL nd hkp ok hne h O HO1 O2 F2 F1 L2 FF hlen okp okq hfi hla O3 hS zB zp hqn
        go_wp2
        go_ret
        exact ⟨by simp, HR.out⟩
    · have hpn : liL pre ≠ -1 := fun e => hp (okp.last_none.1 e)
      have hpw := okp.last
      have hqw := okq.front
      have hmem : liL pre ∈ pre := liL_mem hp
      obtain ⟨w3, hrun, O3, F3⟩ := O2.tight.store (by unfold maxLen; omega) (wf_small hpw.1 hpw.2) (wf_small hqw.1 hqw.2)
      rw [if_neg (fun e : liL pre = k => hkp (e ▸ hmem)), lk_some, decide_eq_true (by rw [hL]; exact List.mem_append_left _ hmem), if_pos rfl] at O3
      have O4 : Oi w3 B (L.length - 1 + 1) (lk (pre ++ post)) (L.length - 1) := O3.same fun z => by
        rw [lk_less nd z, ← hL]
        by_cases e : z = liL pre
        · rw [if_pos e, if_pos ⟨hp, e⟩]
        · rw [if_neg e, if_neg (fun m : pre ≠ [] ∧ z = liL pre => e m.2)]
      have L3 := L2.carry F3 (fun e => hBp e.symm)
      have FF3 : Fr Z w w3 := Fr.trans' FF F3 fun i _ e => e ▸ zB
      have c23 := L3.c2
      have f3 := L3.fz
      by_cases hq : post = []
      · subst hq
        have HR : Hid (∃ Z', Lm p (pre ++ []) (w3.setCell ⟨p, 2, none⟩ (.int .i64 (liL pre))) Z' ∧ Gw w (w3.setCell ⟨p, 2, none⟩ (.int .i64 (liL pre))) Z Z') := h.out (L3.set2 _) (hS O4 2 _) hlen (fun e => ⟨hfi hp, by rw [List.append_nil]⟩) (Fr.setCell FF3 (p := ⟨p, 2, none⟩) zp _)
        clear HH HOK HND hL nd hkp ok hne h O HO1 O2 F2 F1 L2 FF hlen okp okq hfi hla O3 O4 hS zB zp FF3 L3 F3 hmem hp hqn
        generalize liL pre = lp at *
        generalize hz : liF [] = z at *
        obtain rfl : z = -1 := hz.symm
        clear hz
        go_wp2
        go_ret
        exact ⟨by simp, HR.out⟩
      · have HR := hid (h.out L3 O4 hlen (fun e => ⟨hfi hp, hla hq⟩) FF3)
        have hq1 : liF post ≠ -1 := fun e => hq (hqn.1 e)
        clear HH HOK HND hL nd hkp ok hne h O HO1 O2 F2 F1 L2 FF hlen okp okq hfi hla O3 O4 hS zB zp FF3 L3 F3 hmem hp hqn hq
        generalize liL pre = lp at *
        generalize liF post = fp at *
        go_wp2
        go_ret
        exact ⟨by simp, HR.out⟩
theorem n_front (h : Lm p L w Z) (ok : LiOk L) : Calls Tryz.prog 168 #[.pointer (some ⟨p, 0, none⟩)] w fun e w' => e = .returned (.int .i64 (liF L)) ∧ Fr (fun _ => False) w w' := by
  have _ := ok
  obtain ⟨m, fi, la, h⟩ := h
  refine (m_front h.c h.o fun e => (h.ends e).1).mono ?_
  rintro e w' ⟨he, rfl⟩
  exact ⟨he, Fr.refl _ _⟩
end
end Go.Proofs.YtioplfbkfokkfaaGreatDoor
