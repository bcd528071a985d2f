/-
  The row as a map from each number to the one behind it: mathematics; and the program's line in memory.
-/
import Derived.Test.YtecckdedijhacaaLiBase
import Derived.Test.YtecckdedijhacaaObjs
import Derived.Test.YtecckdedijhacaaMiMap
namespace Go.Proofs.Ytecckdedijhacaa
open Go.RowKit

/-- The one behind each number; -1 behind the last one. -/
def lk : List Int → Int → Option Int
  | [], _ => none
  | a :: r, x => if x = a then some (liF r) else lk r x
/-- The last one. -/
def liL (L : List Int) : Int := L.getLast?.getD (-1)
section
variable {L pre post : List Int} {k x : Int}
theorem lk_some (L : List Int) (x : Int) : (lk L x).isSome = decide (x ∈ L) := by
  induction L with
  | nil => rfl
  | cons a r ih =>
    unfold lk
    by_cases h : x = a
    · simp [h]
    · rw [if_neg h, ih]; simp [h]
theorem lk_none (h : x ∉ L) : lk L x = none := by
  have := lk_some L x
  rw [decide_eq_false h] at this
  exact Option.isNone_iff_eq_none.1 (by rw [← Option.not_isSome, this]; rfl)
theorem lk_app (pre post : List Int) (x : Int) (h : x ∉ pre) : lk (pre ++ post) x = lk post x := by
  induction pre with
  | nil => rfl
  | cons a r ih =>
    simp only [List.mem_cons, not_or] at h
    rw [List.cons_append, lk, if_neg h.1, ih h.2]
theorem lk_at (h : x ∉ pre) : lk (pre ++ x :: post) x = some (liF post) := by rw [lk_app _ _ _ h, lk, if_pos rfl]
theorem liF_app (h : pre ≠ []) (post : List Int) : liF (pre ++ post) = liF pre := by
  cases pre with
  | nil => exact (h rfl).elim
  | cons a r => rfl
theorem liL_snoc (L : List Int) (k : Int) : liL (L ++ [k]) = k := by simp [liL]
theorem liL_app (pre : List Int) (h : post ≠ []) : liL (pre ++ post) = liL post := by
  unfold liL
  rw [List.getLast?_append]
  cases e : post.getLast? with
  | none => exact (h (List.getLast?_eq_none_iff.1 e)).elim
  | some y => rfl
theorem liL_cons (a b : Int) (r : List Int) : liL (a :: b :: r) = liL (b :: r) := liL_app [a] (by simp)
theorem liL_mem (h : L ≠ []) : liL L ∈ L := by
  unfold liL
  rw [List.getLast?_eq_some_getLast h, Option.getD_some]
  exact List.getLast_mem h
theorem lk_snoc (nd : L.Nodup) (hn : L ≠ []) (hk : k ∉ L) (z : Int) : lk (L ++ [k]) z = if z = k then some (-1) else if z = liL L then some k else lk L z := by
  induction L with
  | nil => exact (hn rfl).elim
  | cons a r ih =>
    simp only [List.mem_cons, not_or] at hk
    rw [List.nodup_cons] at nd
    rw [List.cons_append, lk]
    cases r with
    | nil =>
      by_cases h1 : z = a
      · subst h1
        rw [if_pos rfl, if_neg (fun e => hk.1 e.symm), if_pos (by rfl)]
        rfl
      · rw [if_neg h1]
        by_cases h2 : z = k
        · subst h2
          rw [if_pos rfl]
          show lk [z] z = _
          rw [lk, if_pos rfl]; rfl
        · rw [if_neg h2, if_neg (by exact h1)]
          show lk [k] z = _
          rw [lk, if_neg h2]
          show none = lk [a] z
          exact (lk_none (by simpa using h1)).symm
    | cons b r =>
      have ih := ih nd.2 (by simp) hk.2
      rw [liL_cons]
      by_cases h1 : z = a
      · subst h1
        have h3 : z ≠ liL (b :: r) := fun e => nd.1 (e ▸ liL_mem (by simp))
        rw [if_pos rfl, if_neg (fun e => hk.1 e.symm), if_neg h3, lk, if_pos rfl]
        rfl
      · rw [if_neg h1, ih, lk.eq_def (a :: b :: r)]
        dsimp only
        rw [if_neg h1]
theorem lk_one (k z : Int) : lk [k] z = if z = k then some (-1) else none := rfl
theorem liR_split (nd : (pre ++ k :: post).Nodup) : liR (pre ++ k :: post) k = pre ++ post := by
  rw [List.nodup_append] at nd
  have h1 : k ∉ pre := fun e => nd.2.2 k e k (by simp) rfl
  have h2 := nd.2.1
  have e : liR (pre ++ k :: post) k = liR pre k ++ liR (k :: post) k := by unfold liR; rw [List.filter_append]
  rw [e, liR_none h1, liR_head h2]
theorem lk_less (nd : (pre ++ k :: post).Nodup) (z : Int) : lk (pre ++ post) z = if pre ≠ [] ∧ z = liL pre then some (liF post) else if z = k then none else lk (pre ++ k :: post) z := by
  induction pre with
  | nil =>
    have hk : k ∉ post := (List.nodup_cons.1 nd).1
    rw [if_neg (fun e => e.1 rfl)]
    by_cases h : z = k
    · subst h; rw [if_pos rfl]; exact lk_none hk
    · rw [if_neg h]
      show lk post z = lk (k :: post) z
      rw [lk.eq_def (k :: post)]
      dsimp only
      rw [if_neg h]
  | cons a r ih =>
    rw [List.cons_append, List.nodup_cons] at nd
    have ih := ih nd.2
    have ha : a ∉ r := fun e => nd.1 (by simp [e])
    have hak : a ≠ k := fun e => nd.1 (by simp [e])
    rw [List.cons_append, lk, List.cons_append, lk]
    cases r with
    | nil =>
      by_cases h : z = a
      · subst h; rw [if_pos rfl, if_pos ⟨by simp, rfl⟩]; rfl
      · rw [if_neg h, if_neg (fun e => h e.2), if_neg h, ih, if_neg (fun e => e.1 rfl)]
    | cons b r =>
      by_cases h : z = a
      · subst h
        have h3 : z ≠ liL (b :: r) := fun e => ha (e ▸ liL_mem (by simp))
        rw [if_pos rfl, liL_cons, if_neg (fun e => h3 e.2), if_neg hak, if_pos rfl]
        rfl
      · rw [if_neg h, ih, liL_cons, if_neg h]
        by_cases h4 : z = liL (b :: r)
        · rw [if_pos ⟨by simp, h4⟩, if_pos ⟨by simp, h4⟩]
        · rw [if_neg (fun e : b :: r ≠ [] ∧ z = liL (b :: r) => h4 e.2), if_neg (fun e : a :: b :: r ≠ [] ∧ z = liL (b :: r) => h4 e.2)]
theorem LiOk.last (h : LiOk L) : I64 (liL L) := by
  cases L with
  | nil => exact ⟨by decide, by decide⟩
  | cons a r => have := h.at_ _ (liL_mem (L := a :: r) (by simp)); exact ⟨by omega, this.2⟩
theorem LiOk.left (h : LiOk (pre ++ post)) : LiOk pre := ⟨(List.nodup_append.1 h.nd).1, fun x hx => h.at_ x (List.mem_append_left _ hx)⟩
theorem LiOk.right (h : LiOk (pre ++ post)) : LiOk post := ⟨(List.nodup_append.1 h.nd).2.1, fun x hx => h.at_ x (List.mem_append_right _ hx)⟩
theorem LiOk.first_none (h : LiOk L) : liF L = -1 ↔ L = [] := by
  cases L with
  | nil => simp [liF]
  | cons a r =>
    have := h.at_ a (by simp)
    constructor
    · intro e; have e : a = -1 := e; omega
    · intro e; cases e
theorem LiOk.last_none (h : LiOk L) : liL L = -1 ↔ L = [] := by
  by_cases e : L = []
  · subst e; simp [liL]
  · have := h.at_ _ (liL_mem e)
    constructor
    · intro e; omega
    · intro e2; exact (e e2).elim
end
/-- The line's own block. -/
def Lw (w : World) (p : Nat) (m : Option Nat) (fi la : Int) : Prop := w.heap[p]? = some (.cells #[.map m, .int .i64 fi, .int .i64 la] 43 (0, 0))
section
variable {w w' : World} {p : Nat} {m : Option Nat} {fi la : Int}
theorem Lw.lt (h : Lw w p m fi la) : p < w.heap.size := (Array.getElem?_eq_some_iff.1 h).1
theorem Lw.carry {S : Nat → Prop} (h : Lw w p m fi la) (f : Fr S w w') (hn : ¬ S p) : Lw w' p m fi la := (f.block p h.lt hn).trans h
theorem Lw.c0 (h : Lw w p m fi la) : w.cell? ⟨p, 0, none⟩ = some (.map m) := by unfold Lw at h; simp [World.cell?, h]
theorem Lw.c1 (h : Lw w p m fi la) : w.cell? ⟨p, 1, none⟩ = some (.int .i64 fi) := by unfold Lw at h; simp [World.cell?, h]
theorem Lw.c2 (h : Lw w p m fi la) : w.cell? ⟨p, 2, none⟩ = some (.int .i64 la) := by unfold Lw at h; simp [World.cell?, h]
theorem Lw.fz (h : Lw w p m fi la) (j : Nat) : w.frozen? ⟨p, j, none⟩ = false := by unfold Lw at h; simp [World.frozen?, h]
theorem Lw.set0 (h : Lw w p m fi la) (x : Option Nat) : Lw (w.setCell ⟨p, 0, none⟩ (.map x)) p x fi la := by unfold Lw at h ⊢; simp [World.setCell, Array.getElem?_modify, h]
theorem Lw.set1 (h : Lw w p m fi la) (x : Int) : Lw (w.setCell ⟨p, 1, none⟩ (.int .i64 x)) p m x la := by unfold Lw at h ⊢; simp [World.setCell, Array.getElem?_modify, h]
theorem Lw.set2 (h : Lw w p m fi la) (x : Int) : Lw (w.setCell ⟨p, 2, none⟩ (.int .i64 x)) p m fi x := by unfold Lw at h ⊢; simp [World.setCell, Array.getElem?_modify, h]
end
theorem Oi.tight {w : World} {B n cnt : Nat} {f : Int → Option Int} (h : Oi w B n f cnt) : Oi w B cnt f cnt := by
  obtain ⟨D, ⟨es, clock, hb, F, hs, hD⟩, h2⟩ := h
  refine ⟨D, ⟨es, clock, hb, F, ?_, hD⟩, h2⟩
  have := h2.2.2
  subst hD
  rw [← this]
  show es.size ≤ List.length _
  rw [length_read]
  exact Nat.le_refl _
theorem Oi.count {w : World} {B n cnt cnt' : Nat} {f : Int → Option Int} (h : Oi w B n f cnt) (e : cnt = cnt') : Oi w B cnt' f cnt' := e ▸ h.tight
/-- Its map: none at all, or the links. -/
def Ol (w : World) (m : Option Nat) (L : List Int) : Prop := (m = none ∧ L = []) ∨ ∃ B, m = some B ∧ Oi w B L.length (lk L) L.length
section
variable {w w' : World} {p : Nat} {m : Option Nat} {fi la : Int} {L : List Int} {Z : Nat → Prop}
theorem Ol.carry {S : Nat → Prop} (h : Ol w m L) (f : Fr S w w') (hn : ∀ B, m = some B → ¬ S B) : Ol w' m L := by
  rcases h with h | ⟨B, e, h⟩
  · exact .inl h
  · exact .inr ⟨B, e, h.carry f (hn B e)⟩
theorem Ol.len (h : Ol w m L) (ty : TypeId) : (Builtin.len_ #[41] ty #[.map m]).run Try.prog w = .ok (.int .i64 L.length) w := by
  rcases h with ⟨rfl, rfl⟩ | ⟨B, rfl, h⟩
  · exact Maps.len_nil Try.underlying41 ty
  · exact h.len ty
theorem Ol.lookOk (h : Ol w m L) {x : Int} (hx : I64 x) : (Instr.lookup 41 (.map m) (.int .i64 x) true).run Try.prog w = .ok (.tuple #[.int .i64 ((lk L x).getD 0), .bool (decide (x ∈ L))]) w := by
  have hw : (Lit.int .i64 x).wf = true := wf_small hx.1 hx.2
  rcases h with ⟨rfl, rfl⟩ | ⟨B, rfl, h⟩
  · exact Maps.look_nil true intLaw Try.underlying41 (zero_int w) (int_key hw)
  · rw [h.lookOk hw, lk_some]
theorem Ol.look (h : Ol w m L) {x : Int} (hx : I64 x) : (Instr.lookup 41 (.map m) (.int .i64 x) false).run Try.prog w = .ok (.int .i64 ((lk L x).getD 0)) w := by
  have hw : (Lit.int .i64 x).wf = true := wf_small hx.1 hx.2
  rcases h with ⟨rfl, rfl⟩ | ⟨B, rfl, h⟩
  · exact Maps.look_nil false intLaw Try.underlying41 (zero_int w) (int_key hw)
  · exact h.look hw
end
/-- The program's line in memory. -/
structure Ln (p : Nat) (L : List Int) (w : World) (Z : Nat → Prop) (m : Option Nat) (fi la : Int) : Prop where
  c : Lw w p m fi la
  o : Ol w m L
  ends : L ≠ [] → fi = liF L ∧ la = liL L
  zp : Z p
  zm : ∀ B, m = some B → Z B ∧ B ≠ p
  lt : ∀ i, Z i → i < w.heap.size
def Lm (p : Nat) (L : List Int) (w : World) (Z : Nat → Prop) : Prop := ∃ m fi la, Ln p L w Z m fi la
theorem Lm.good (p : Nat) (L : List Int) : Good (Lm p L) :=
  ⟨fun h f hs => by
    obtain ⟨m, fi, la, h⟩ := h
    exact ⟨m, fi, la, h.c.carry f (hs _ h.zp), h.o.carry f fun B e => hs _ (h.zm B e).1, h.ends, h.zp, h.zm, fun i hi => Nat.lt_of_lt_of_le (h.lt i hi) f.size⟩,
  fun h k1 k2 => by
    obtain ⟨m, fi, la, h⟩ := h
    exact ⟨m, fi, la, h.c, h.o, h.ends, k1 _ h.zp, fun B e => ⟨k1 _ (h.zm B e).1, (h.zm B e).2⟩, k2⟩⟩
end Go.Proofs.Ytecckdedijhacaa
