/-
  What lies in memory while the law DemandEnough goes on.
-/
import Derived.Test.YtcfeeeloceeicaaDoorDmInv
import Derived.Deep.AppendLies
namespace Go.Proofs.YtcfeeeloceeicaaDoor
open Go.RowKit

/-- Blocks as cells. -/
def bcs (T : List (Int × Int)) : List Value := T.flatMap fun b => [Value.int .i64 b.1, Value.int .i64 b.2]
theorem bcs_length (T : List (Int × Int)) : (bcs T).length = T.length * 2 := by
  induction T with
  | nil => rfl
  | cons b T ih => simp only [bcs, List.flatMap_cons, List.length_append, List.length_cons, List.length_nil] at ih ⊢; omega
theorem bcs_append (l m : List (Int × Int)) : bcs (l ++ m) = bcs l ++ bcs m := by simp [bcs]
theorem bcs_one (T : List (Int × Int)) : ∀ u ∈ bcs T, u.oneCell' = true := by
  intro u hu
  simp only [bcs, List.mem_flatMap] at hu
  obtain ⟨b, _, hb⟩ := hu
  simp at hb
  rcases hb with rfl | rfl <;> rfl
theorem bcs_at : ∀ (T : List (Int × Int)) (k : Nat) (h : k < T.length), (bcs T)[k * 2]? = some (.int .i64 T[k].1) ∧ (bcs T)[k * 2 + 1]? = some (.int .i64 T[k].2)
  | b :: T, 0, _ => by simp [bcs]
  | b :: T, k + 1, h => by
    have := bcs_at T k (by simpa using h)
    have e : bcs (b :: T) = .int .i64 b.1 :: .int .i64 b.2 :: bcs T := rfl
    rw [e, show (k + 1) * 2 = k * 2 + 1 + 1 by omega]
    simpa using this
theorem bcs_take (T : List (Int × Int)) (k : Nat) : bcs (T.take k) = (bcs T).take (k * 2) := by
  induction T generalizing k with
  | nil => simp [bcs]
  | cons b T ih =>
    cases k with
    | zero => simp [bcs]
    | succ k =>
      have e : ∀ l, bcs (b :: l) = .int .i64 b.1 :: .int .i64 b.2 :: bcs l := fun _ => rfl
      rw [List.take_succ_cons, e, e, ih, show (k + 1) * 2 = k * 2 + 1 + 1 by omega]; simp
theorem bcs_drop (T : List (Int × Int)) (k : Nat) : bcs (T.drop k) = (bcs T).drop (k * 2) := by
  induction T generalizing k with
  | nil => simp [bcs]
  | cons b T ih =>
    cases k with
    | zero => simp
    | succ k =>
      have e : ∀ l, bcs (b :: l) = .int .i64 b.1 :: .int .i64 b.2 :: bcs l := fun _ => rfl
      rw [List.drop_succ_cons, e, ih, show (k + 1) * 2 = k * 2 + 1 + 1 by omega]; simp
theorem brow_on {w w' : World} {base : Nat} {v : Value} {T : List (Int × Int)} {S : Nat → Prop} (h : w.ownsRow base 43 2 v T.length (bcs T)) (f : Fr S w w') (hs : ∀ i, v.ownBlock = some i → ¬ S i) : w'.ownsRow base 43 2 v T.length (bcs T) := by
  refine ⟨h.1, ?_⟩
  rcases h.2 with hn | ⟨g, cap, cur, rfl, hb, hgg, rest⟩
  · exact .inl hn
  · refine .inr ⟨g, cap, cur, rfl, hb, ?_, rest⟩
    rw [f.block g (Array.getElem?_eq_some_iff.1 hgg).1 (hs g rfl)]
    exact hgg
theorem brow_shape {w : World} {base : Nat} {v : Value} {T : List (Int × Int)} (h : w.ownsRow base 43 2 v T.length (bcs T)) : ∃ ad cap, v = .slice ad T.length cap ∧ T.length ≤ cap := by
  rcases h.2 with ⟨h1, h2⟩ | ⟨g, cap, cur, h1, _, _, h3, _⟩
  · exact ⟨none, 0, by rw [h1, h2], by omega⟩
  · exact ⟨_, _, h1, h3⟩

/-- Of each kind the pages' counts, each in a row of its own; the number of all pages; the blocks that are there. -/
structure Es (w0 w : World) (h : Nat) (vs : Nat → Value) (xs : Nat → List Int) (tv : Value) (T : List (Int × Int)) (n : Int) : Prop where
  k : K w0 w
  h0 : 0 < w0.heap.size
  lh : w0.heap.size ≤ h
  hA : w.heap[h]? = some (.cells ((List.range 24).map vs).toArray 38 (0, 0))
  hD : w.heap[h + 1]? = some (.cells #[.int .i64 n] 3 (0, 0))
  rows : ∀ c, c < 24 → w.ownsRow (h + 2) 3 1 (vs c) (xs c).length (ic (xs c))
  sep : ∀ c d, c < 24 → d < 24 → c ≠ d → ∀ k, (vs c).ownBlock = some k → (vs d).ownBlock ≠ some k
  tr : w.ownsRow (h + 2) 43 2 tv T.length (bcs T)
  sepT : ∀ c, c < 24 → ∀ k, (vs c).ownBlock = some k → tv.ownBlock ≠ some k
section
variable {w0 w w' : World} {h : Nat} {vs : Nat → Value} {xs : Nat → List Int} {tv : Value} {T : List (Int × Int)} {n : Int}
theorem Es.ltA (e : Es w0 w h vs xs tv T n) : h < w.heap.size := (Array.getElem?_eq_some_iff.1 e.hA).1
theorem Es.ltD (e : Es w0 w h vs xs tv T n) : h + 1 < w.heap.size := (Array.getElem?_eq_some_iff.1 e.hD).1
theorem Es.on (e : Es w0 w h vs xs tv T n) (f : Fr (fun _ => False) w w') : Es w0 w' h vs xs tv T n :=
  ⟨e.k.on f, e.h0, e.lh, by rw [f.block h e.ltA id]; exact e.hA, by rw [f.block (h + 1) e.ltD id]; exact e.hD, fun c hc => irow_on (e.rows c hc) f (fun _ _ => id), e.sep, brow_on e.tr f (fun _ _ => id), e.sepT⟩
theorem Es.pg (e : Es w0 w h vs xs tv T n) (c : Nat) (hc : c < 24) : Pg w (h + 2) h (h + 1) 38 ((List.range 24).map vs) c (vs c) (xs c) n :=
  ⟨e.hA, by simp [hc], e.rows c hc, e.hD, fun e2 => by have := ((e.rows c hc).lt _ e2).1; omega, fun e2 => by have := ((e.rows c hc).lt _ e2).1; omega, by omega, by have := e.ltD; omega⟩
theorem range_upd (vs : Nat → Value) (c : Nat) (v : Value) : ((List.range 24).map vs).set c v = (List.range 24).map (upd vs c v) := by
  apply List.ext_getElem
  · simp
  · intro i h1 h2
    rw [List.getElem_set]
    by_cases e : c = i
    · subst e; simp [upd_at]
    · rw [if_neg e]
      simp [upd_ne vs v (show i ≠ c from fun h => e h.symm)]
/-- Behind put. -/
theorem Es.put (e : Es w0 w h vs xs tv T n) {c : Nat} (hc : c < 24) {v' : Value} {ys : List Int} {n' : Int} (hg : Pg w' (h + 2) h (h + 1) 38 (((List.range 24).map vs).set c v') c v' ys n') (f : Fr (fun k => k = h ∨ k = h + 1 ∨ (vs c).ownBlock = some k) w w')
    (hs : v'.ownBlock = (vs c).ownBlock ∨ ∃ g, v'.ownBlock = some g ∧ w.heap.size ≤ g) : Es w0 w' h (upd vs c v') (upd xs c ys) tv T n' := by
  have hown : ∀ d, d < 24 → ∀ i, (vs d).ownBlock = some i → h + 2 ≤ i ∧ i < w.heap.size := fun d hd i hi => (e.rows d hd).lt i hi
  have htow : ∀ i, tv.ownBlock = some i → h + 2 ≤ i ∧ i < w.heap.size := fun i hi => e.tr.lt i hi
  refine ⟨e.k.new e.h0 f (fun i hi => ?_), e.h0, e.lh, by rw [← range_upd vs c v']; exact hg.hB, hg.hD, fun d hd => ?_, fun a b ha hb hab k hk hk2 => ?_, brow_on e.tr f (fun i hi hS => ?_), fun d hd k hk hk2 => ?_⟩
  · have := e.lh
    rcases hi with hi | hi | hi
    · omega
    · omega
    · have := (hown c hc i hi).1; omega
  · by_cases e2 : d = c
    · subst e2; rw [upd_at, upd_at]; exact hg.row
    · rw [upd_ne _ _ e2, upd_ne _ _ e2]
      refine irow_on (e.rows d hd) f (fun i hi hS => ?_)
      have := (hown d hd i hi).1
      rcases hS with hS | hS | hS
      · omega
      · omega
      · exact e.sep d c hd hc e2 i hi hS
  · by_cases e2 : a = c
    · subst e2
      rw [upd_at] at hk
      rw [upd_ne _ _ (fun h => hab h.symm)] at hk2
      rcases hs with hs | ⟨g, hs, hg2⟩
      · rw [hs] at hk; exact e.sep a b ha hb hab k hk hk2
      · rw [hs] at hk; simp at hk; subst hk
        have := (hown b hb g hk2).2; omega
    · rw [upd_ne _ _ e2] at hk
      by_cases e3 : b = c
      · subst e3
        rw [upd_at] at hk2
        rcases hs with hs | ⟨g, hs, hg2⟩
        · rw [hs] at hk2; exact e.sep a b ha hb hab k hk hk2
        · rw [hs] at hk2; simp at hk2; subst hk2
          have := (hown a ha g hk).2; omega
      · rw [upd_ne _ _ e3] at hk2
        exact e.sep a b ha hb hab k hk hk2
  · have := (htow i hi).1
    rcases hS with hS | hS | hS
    · omega
    · omega
    · exact e.sepT c hc i hS hi
  · by_cases e2 : d = c
    · subst e2
      rw [upd_at] at hk
      rcases hs with hs | ⟨g, hs, hg2⟩
      · rw [hs] at hk; exact e.sepT d hd k hk hk2
      · rw [hs] at hk; simp at hk; subst hk
        have := (htow g hk2).2; omega
    · rw [upd_ne _ _ e2] at hk
      exact e.sepT d hd k hk hk2
/-- The number of all pages is another one. -/
theorem Es.num (e : Es w0 w h vs xs tv T n) (m : Int) : Es w0 (w.setCell ⟨h + 1, 0, none⟩ (.int .i64 m)) h vs xs tv T m := by
  obtain ⟨g, f⟩ := (e.pg 0 (by decide)).num m
  have := e.put (c := 0) (by decide) (v' := vs 0) (ys := xs 0) (n' := m) (by rw [set_same (e.pg 0 (by decide)).at_]; exact g) (f.mono fun k _ e => .inr (.inl e)) (.inl rfl)
  have e1 : upd vs 0 (vs 0) = vs := by funext d; by_cases e : d = 0 <;> simp [upd, e]
  have e2 : upd xs 0 (xs 0) = xs := by funext d; by_cases e : d = 0 <;> simp [upd, e]
  rwa [e1, e2] at this
/-- A page's count is another one. -/
theorem Es.set (e : Es w0 w h vs xs tv T n) {c g cap : Nat} (hc : c < 24) (hv : vs c = .slice (some ⟨g, 0, none⟩) (xs c).length cap) (p : Nat) (hp : p < (xs c).length) (u : Int) : Es w0 (w.setCell ⟨g, p, none⟩ (.int .i64 u)) h vs (upd xs c ((xs c).set p u)) tv T n := by
  have hg := e.pg c hc
  rw [hv] at hg
  obtain ⟨g2, f⟩ := hg.set p hp u
  have hat := (e.pg c hc).at_
  have := e.put (c := c) hc (v' := vs c) (ys := (xs c).set p u) (n' := n) (by rw [set_same hat, hv]; simpa using g2) (f.mono fun k _ e => .inr (.inr (by rw [hv, e]; rfl))) (.inl rfl)
  have e1 : upd vs c (vs c) = vs := by funext d; by_cases e : d = c <;> simp [upd, e]
  rwa [e1] at this
/-- The blocks that are there are others. -/
theorem Es.turn (e : Es w0 w h vs xs tv T n) {tv' : Value} {T' : List (Int × Int)} (f : Fr (fun k => tv.ownBlock = some k) w w') (hr : w'.ownsRow (h + 2) 43 2 tv' T'.length (bcs T')) (hs : tv'.ownBlock = tv.ownBlock ∨ ∃ g, tv'.ownBlock = some g ∧ w.heap.size ≤ g) : Es w0 w' h vs xs tv' T' n := by
  have htow : ∀ i, tv.ownBlock = some i → h + 2 ≤ i ∧ i < w.heap.size := fun i hi => e.tr.lt i hi
  refine ⟨e.k.new e.h0 f (fun i hi => by have := (htow i hi).1; have := e.lh; omega), e.h0, e.lh, ?_, ?_, fun c hc => irow_on (e.rows c hc) f (fun i hi hS => e.sepT c hc i hi hS), e.sep, hr, fun c hc k hk hk2 => ?_⟩
  · rw [f.block h e.ltA (fun hS => by have := (htow _ hS).1; omega)]; exact e.hA
  · rw [f.block (h + 1) e.ltD (fun hS => by have := (htow _ hS).1; omega)]; exact e.hD
  · rcases hs with hs | ⟨g, hs, hg⟩
    · rw [hs] at hk2; exact e.sepT c hc k hk hk2
    · rw [hs] at hk2; simp at hk2; subst hk2
      have := ((e.rows c hc).lt g hk).2; omega
theorem Es.cA (e : Es w0 w h vs xs tv T n) (c : Nat) (hc : c < 24) : w.cell? ⟨h, c, none⟩ = some (vs c) := (e.pg c hc).cB
theorem Es.cD (e : Es w0 w h vs xs tv T n) : w.cell? ⟨h + 1, 0, none⟩ = some (.int .i64 n) := by simp [World.cell?, e.hD]
theorem Es.fD (e : Es w0 w h vs xs tv T n) : w.frozen? ⟨h + 1, 0, none⟩ = false := by simp [World.frozen?, e.hD]
theorem Es.start (k : K w0 w) (h0 : 0 < w0.heap.size) : Es w0 ((w.alloc (.cells ((List.range 24).map fun _ => Value.slice none 0 0).toArray 38)).alloc (.cells #[.int .i64 0] 3)) w.heap.size (fun _ => .slice none 0 0) (fun _ => []) (.slice none 0 0) [] 0 :=
  ⟨k.on (((Fr.refl _ _).alloc _).alloc _), h0, k.fr.size, heap_one w _ _, heap_two w _ _, fun _ _ => World.ownsRow_nil _ _ _ _, fun _ _ _ _ _ k hk => by simp [Value.ownBlock] at hk, World.ownsRow_nil _ _ _ _, fun _ _ k hk => by simp [Value.ownBlock] at hk⟩
end
end Go.Proofs.YtcfeeeloceeicaaDoor
