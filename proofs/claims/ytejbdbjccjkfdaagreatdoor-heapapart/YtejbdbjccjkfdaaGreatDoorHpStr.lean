/-
  Blocks that are had, and what their owner wrote: mathematics of the law HeapApart.
  What the law HeapApart reads, and how many touches it makes: mathematics.
  How many pages there are stays as it is: mathematics of the law HeapApart.
  A table of texts by numbers that the call has made: looked up, stored, deleted, counted, walked over.
-/
import Derived.Test.YtejbdbjccjkfdaaGreatDoorHpLaws
import Derived.Test.YtejbdbjccjkfdaaGreatDoorPaRefA
import Derived.Maps.Own
import Derived.Maps.OwnOps
import Derived.Maps.OwnSet
import Derived.Maps.Views
import Derived.Maps.RangeWalk
namespace Go.Proofs.YtejbdbjccjkfdaaGreatDoor
open Go.RowKit
open An

theorem same_len {l1 l2 : List Int} (h1 : l1.Nodup) (h2 : l2.Nodup) (h : ∀ x, x ∈ l1 ↔ x ∈ l2) : l1.length = l2.length := ((List.perm_ext_iff_of_nodup h1 h2).2 h).length_eq
theorem hBl_nd (L : List Hd) : (hBl L).Nodup := by
  rw [List.nodup_iff_pairwise_ne]
  exact (hBl_up L).imp fun e => by omega
/-- What the owner of the first heap's blocks has written, f, of cnt blocks, is what lies there. -/
structure Apa (k b : Nat) (M : Ms) (H H' : Hp) (f : Int → Option (List UInt8)) (cnt : Nat) : Prop where
  tw : Two k b M H H'
  in_ : ∀ c s j : Nat, HadB H.L c s j → ∃ d, f (adI c s j) = some d ∧ d.length = (unitI c).toNat ∧ (List.range (unitI c).toNat).map (fun i : Nat => lb H.T M.bs (adI c s j + i)) = d
  out : ∀ x, (f x).isSome = true → ∃ c s j : Nat, HadB H.L c s j ∧ x = adI c s j
  cnt : cnt = (hBl H.L).length
section
variable {k b cnt : Nat} {M : Ms} {H H' : Hp} {f : Int → Option (List UInt8)}
theorem Apa.new (tw : Two k b M H H') (h : H.L = []) : Apa k b M H H' (fun _ => none) 0 := by
  have hn : ∀ c s j : Nat, ¬ HadB H.L c s j := fun c s j ⟨x, hx, _⟩ => by rw [h] at hx; cases hx
  refine ⟨tw, fun c s j hb => (hn c s j hb).elim, fun x hx => (by cases hx), ?_⟩
  cases e : hBl H.L with
  | nil => rfl
  | cons z r =>
    obtain ⟨c, s, j, hb, _⟩ := (mem_hBl tw.ok.nd tw.ok.at_).1 (show z ∈ hBl H.L by rw [e]; exact List.mem_cons_self ..)
    exact (hn c s j hb).elim
theorem Apa.less (h : Apa k b M H H' f cnt) {b' : Nat} (hb : b ≤ b') : Apa k b' M H H' f cnt := ⟨h.tw.less hb, h.in_, h.out, h.cnt⟩
/-- Touches are noted. -/
theorem Apa.notes (h : Apa k b M H H' f cnt) {b' : Nat} {ss' : List Sp} (hs : ss'.length ≤ b') : Apa k b' ⟨M.has, M.bs, ss'⟩ H H' f cnt :=
  ⟨⟨⟨h.tw.ok.tp, h.tw.ok.nd, h.tw.ok.at_, h.tw.ok.dom, h.tw.ok.cov, h.tw.ok.sm, h.tw.ok.ln⟩, ⟨h.tw.ok'.tp, h.tw.ok'.nd, h.tw.ok'.at_, h.tw.ok'.dom, h.tw.ok'.cov, h.tw.ok'.sm, h.tw.ok'.ln⟩, ⟨h.tw.ms.len, h.tw.ms.cap, h.tw.ms.cl⟩, h.tw.k1, h.tw.k2, hs, h.tw.W, h.tw.W', h.tw.dj⟩, h.in_, h.out, h.cnt⟩
theorem Apa.move (h : Apa k b M H H' f cnt) {W : List Int} (hW : W.length ≤ 17592186044416) : Apa k (b + 3 * M.has.length) (hMo k M H W).1 (hMo k M H W).2.1 H' f cnt := by
  have tw := h.tw.move hW
  refine ⟨tw, fun c s j hb => ?_, fun x hx => ?_, ?_⟩
  · have hb0 := (hMo_had W).1 hb
    obtain ⟨d, e1, e2, e3⟩ := h.in_ c s j hb0
    refine ⟨d, e1, e2, ?_⟩
    rw [← e3]
    apply List.map_congr_left
    intro i hi
    rw [List.mem_range] at hi
    obtain ⟨_, _, _, _, _, _, _, q, hq, _⟩ := had_page h.tw.ok hb0 hi
    exact hMo_keep h.tw.ok h.tw.ms W (by rw [hq]; omega)
  · obtain ⟨c, s, j, hb, e⟩ := h.out x hx
    exact ⟨c, s, j, (hMo_had W).2 hb, e⟩
  · rw [h.cnt]
    refine same_len (hBl_nd _) (hBl_nd _) fun x => ?_
    rw [mem_hBl h.tw.ok.nd h.tw.ok.at_, mem_hBl tw.ok.nd tw.ok.at_]
    constructor
    · rintro ⟨c, s, j, hb, e⟩; exact ⟨c, s, j, (hMo_had W).2 hb, e⟩
    · rintro ⟨c, s, j, hb, e⟩; exact ⟨c, s, j, (hMo_had W).1 hb, e⟩
/-- A block that is given back is had no more. -/
theorem Apa.free (h : Apa k b M H H' f cnt) {c s j : Nat} (hb : HadB H.L c s j) : (f (adI c s j)).isSome = true ∧ Apa k (b + 18) (hF M H c s j).1 (hF M H c s j).2.1 H' (fun y => if y = adI c s j then none else f y) (cnt - 1) := by
  obtain ⟨z, hh⟩ := hF_had h.tw.ok hb
  have t := h.tw.free c s j 0
  have hfr : hFr M H c s j 0 = hF M H c s j := by unfold hFr; rw [if_pos rfl, Int.toNat_natCast, Int.toNat_natCast]
  rw [hfr] at t
  obtain ⟨d, e1, _, _⟩ := h.in_ c s j hb
  obtain ⟨p0, _, _⟩ := hb.there h.tw.ok
  have hne : ∀ {c' s' j' : Nat}, HadB H.L c' s' j' → ¬ (c' = c ∧ s' = s ∧ j' = j) → adI c' s' j' ≠ adI c s j := fun hb' hn e => by
    obtain ⟨p1, _, _⟩ := hb'.there h.tw.ok
    have := p1.same p0 e
    exact hn ⟨by omega, by omega, by omega⟩
  refine ⟨by rw [e1]; rfl, t, fun c' s' j' hb' => ?_, fun x hx => ?_, ?_⟩
  · obtain ⟨hb0, hn⟩ := (hh c' s' j').1 hb'
    obtain ⟨d', k1, k2, k3⟩ := h.in_ c' s' j' hb0
    refine ⟨d', by rw [if_neg (hne hb0 hn)]; exact k1, k2, ?_⟩
    rw [← k3]
    apply List.map_congr_left
    intro i hi
    rw [List.mem_range] at hi
    exact hF_keep h.tw.ok h.tw.ms hb hb0 hn hi
  · have hx : (if x = adI c s j then none else f x).isSome = true := hx
    by_cases e : x = adI c s j
    · rw [if_pos e] at hx; cases hx
    · rw [if_neg e] at hx
      obtain ⟨c', s', j', hb', e'⟩ := h.out x hx
      refine ⟨c', s', j', (hh c' s' j').2 ⟨hb', fun k => e ?_⟩, e'⟩
      obtain ⟨rfl, rfl, rfl⟩ := k
      exact e'
  · have hl : (hBl H.L).length = (adI c s j :: hBl (hF M H c s j).2.1.L).length := by
      refine same_len (hBl_nd _) (List.nodup_cons.2 ⟨fun hm => ?_, hBl_nd _⟩) fun x => ?_
      · obtain ⟨c', s', j', hb', e'⟩ := (mem_hBl t.ok.nd t.ok.at_).1 hm
        obtain ⟨hb0, hn⟩ := (hh c' s' j').1 hb'
        exact hne hb0 hn e'.symm
      · rw [List.mem_cons, mem_hBl h.tw.ok.nd h.tw.ok.at_, mem_hBl t.ok.nd t.ok.at_]
        constructor
        · rintro ⟨c', s', j', hb', e'⟩
          by_cases k : c' = c ∧ s' = s ∧ j' = j
          · obtain ⟨rfl, rfl, rfl⟩ := k; exact .inl e'
          · exact .inr ⟨c', s', j', (hh c' s' j').2 ⟨hb', k⟩, e'⟩
        · rintro (e' | ⟨c', s', j', hb', e'⟩)
          · exact ⟨c, s, j, hb, e'⟩
          · exact ⟨c', s', j', ((hh c' s' j').1 hb').1, e'⟩
    rw [h.cnt, hl, List.length_cons]; omega
/-- A block that is had from now on, and what is written into it. -/
theorem Apa.malloc (h : Apa k b M H H' f cnt) {N : Int} {M1 : Ms} {H1 : Hp} {a : Int} {E : Int} {c s j : Nat} (hr : hM k M H N = (M1, H1, a, E)) (g : Gave (fun q => Cq.inW k H.W q = true) M H N M1 H1 a c s j) {ds : List UInt8} (hd : ds.length = (unitI c).toNat) {b' : Nat} {ss' : List Sp} (hs : ss'.length ≤ b') (hbb : b + 2 ≤ b') :
    Apa k b' ⟨M1.has, vwB H1.T M1.bs a ds, ss'⟩ H1 H' (fun y => if y = a then some ds else f y) (cnt + 1) := by
  have w : MWay (fun q => Cq.inW k H.W q = true) k M H N (hM k M H N) := hM_ways (fun _ => id) h.tw.ok h.tw.ms N
  have t1 := h.tw.malloc N
  rw [hr] at w t1
  simp only at t1
  have hb1 : HadB H1.L c s j := (g.had c s j).2 (.inr ⟨rfl, rfl, rfl⟩)
  have e := g.at_
  subst e
  have tw := (t1.less hbb).write hb1 hd (ss' := ss') hs
  obtain ⟨p0, _, _⟩ := hb1.there t1.ok
  obtain ⟨x, hx, x1, x2, x3, x4⟩ := hb1
  subst x1; subst x2
  have hne : ∀ {c' s' j' : Nat}, HadB H1.L c' s' j' → ¬ (c' = x.kind ∧ s' = x.slot ∧ j' = j) → adI c' s' j' ≠ adI x.kind x.slot j := fun hb' hn e => by
    obtain ⟨p1, _, _⟩ := hb'.there t1.ok
    have := p1.same p0 e
    exact hn ⟨by omega, by omega, by omega⟩
  have sn := blk_seen t1.ok t1.ms hx x4
  refine ⟨tw, fun c' s' j' hb' => ?_, fun y hy => ?_, ?_⟩
  · by_cases e : c' = x.kind ∧ s' = x.slot ∧ j' = j
    · obtain ⟨rfl, rfl, rfl⟩ := e
      refine ⟨ds, if_pos rfl, hd, ?_⟩
      exact sn.same t1.ok.tp.tb hd
    · have hb0 : HadB H.L c' s' j' := ((g.had c' s' j').1 hb').resolve_right e
      obtain ⟨d', k1, k2, k3⟩ := h.in_ c' s' j' hb0
      refine ⟨d', by rw [if_neg (hne hb' e)]; exact k1, k2, ?_⟩
      rw [← k3]
      apply List.map_congr_left
      intro i hi
      rw [List.mem_range] at hi
      exact (write_keep t1.ok t1.ms hx x4 hd hb' e hi).trans (hM_keep h.tw.ok w hb0 hi)
  · have hy : (if y = adI x.kind x.slot j then some ds else f y).isSome = true := hy
    by_cases e : y = adI x.kind x.slot j
    · exact ⟨x.kind, x.slot, j, ⟨x, hx, rfl, rfl, x3, x4⟩, e⟩
    · rw [if_neg e] at hy
      obtain ⟨c', s', j', hb', e'⟩ := h.out y hy
      exact ⟨c', s', j', (g.had c' s' j').2 (.inl hb'), e'⟩
  · have hl : (hBl H1.L).length = (adI x.kind x.slot j :: hBl H.L).length := by
      refine same_len (hBl_nd _) (List.nodup_cons.2 ⟨fun hm => ?_, hBl_nd _⟩) fun y => ?_
      · obtain ⟨c', s', j', hb', e'⟩ := (mem_hBl h.tw.ok.nd h.tw.ok.at_).1 hm
        have hb2 := (g.had c' s' j').2 (.inl hb')
        by_cases k : c' = x.kind ∧ s' = x.slot ∧ j' = j
        · obtain ⟨rfl, rfl, rfl⟩ := k; exact g.new hb'
        · exact hne hb2 k e'.symm
      · rw [List.mem_cons, mem_hBl h.tw.ok.nd h.tw.ok.at_, mem_hBl t1.ok.nd t1.ok.at_]
        constructor
        · rintro ⟨c', s', j', hb', e'⟩
          rcases (g.had c' s' j').1 hb' with k | ⟨rfl, rfl, rfl⟩
          · exact .inr ⟨c', s', j', k, e'⟩
          · exact .inl e'
        · rintro (e' | ⟨c', s', j', hb', e'⟩)
          · exact ⟨x.kind, x.slot, j, ⟨x, hx, rfl, rfl, x3, x4⟩, e'⟩
          · exact ⟨c', s', j', (g.had c' s' j').2 (.inl hb'), e'⟩
    rw [h.cnt, hl, List.length_cons]
/-- A block that is had is new in the table of texts, and has no byte in common with those in it. -/
theorem Apa.fresh (h : Apa k b M H H' f cnt) {N : Int} {M1 : Ms} {H1 : Hp} {a E : Int} {c s j : Nat} (hr : hM k M H N = (M1, H1, a, E)) (g : Gave (fun q => Cq.inW k H.W q = true) M H N M1 H1 a c s j) : f a = none ∧ ∀ x d, f x = some d → a + unitI c ≤ x ∨ x + d.length ≤ a := by
  have t1 := h.tw.malloc N
  rw [hr] at t1
  simp only at t1
  have hb1 : HadB H1.L c s j := (g.had c s j).2 (.inr ⟨rfl, rfl, rfl⟩)
  obtain ⟨p0, _, _⟩ := hb1.there t1.ok
  have key : ∀ x d, f x = some d → ∃ c' s' j' : Nat, HadB H.L c' s' j' ∧ x = adI c' s' j' ∧ d.length = (unitI c').toNat ∧ PlT c' s' j' := fun x d hx => by
    obtain ⟨c', s', j', hb', e'⟩ := h.out x (by rw [hx]; rfl)
    obtain ⟨d', k1, k2, _⟩ := h.in_ c' s' j' hb'
    rw [← e', hx] at k1
    cases k1
    exact ⟨c', s', j', hb', e', k2, (hb'.there h.tw.ok).1⟩
  constructor
  · cases e : f a with
    | none => rfl
    | some d =>
      obtain ⟨c', s', j', hb', e', _, p1⟩ := key a d e
      rw [g.at_] at e'
      have := p0.same p1 e'
      have e1 : c = c' ∧ s = s' ∧ j = j' := ⟨by omega, by omega, by omega⟩
      obtain ⟨rfl, rfl, rfl⟩ := e1
      exact (g.new hb').elim
  · intro x d hx
    obtain ⟨c', s', j', hb', rfl, hl, p1⟩ := key x d hx
    have hu := unitI_range c' p1.kind.1 p1.kind.2
    have hn : ¬ ((c : Int) = c' ∧ (s : Int) = s' ∧ (j : Int) = j') := fun e => by
      have e1 : c = c' ∧ s = s' ∧ j = j' := ⟨by omega, by omega, by omega⟩
      obtain ⟨rfl, rfl, rfl⟩ := e1
      exact g.new hb'
    rcases p0.apart p1 hn with k | k
    · exact .inl (by rw [g.at_]; exact k)
    · exact .inr (by rw [g.at_, hl]; omega)
end
end Go.Proofs.YtejbdbjccjkfdaaGreatDoor

namespace Go.Proofs.YtejbdbjccjkfdaaGreatDoor
open Go.RowKit
open An

theorem read_few {T : Tb} (ok : TbOk T) (N : Nat) (ss : List Sp) (x : Int) {n : Int} (hn : n ≤ 8192) : (vrT T N ss x n).length ≤ ss.length + 18 ∧ (vwT T N ss x n).length ≤ ss.length + 18 := by
  by_cases h : VwOk T N x n
  · have h1 := (h.apt ok).2.2.1
    unfold vrT vwT
    rw [if_pos h, if_pos h]
    simp only [List.length_append, tch, List.length_map]
    omega
  · unfold vrT vwT
    rw [if_neg h, if_neg h]
    omega
/-- So many touches, behind m blocks had and a other calls. -/
def roomB (m a : Nat) : Nat := 1536 * a + 60 * (m + a) + 9 * (m * (m + 1)) + 18 * (m * a)
theorem room_le {m a : Nat} (h : m + a ≤ 250) : roomB m a ≤ 700000 := by
  have key : ∀ m : Fin 251, 1536 * (250 - (m : Nat)) + 9 * (((m : Nat) * (m + 1)) + 2 * (m * (250 - m))) ≤ 640000 := by decide +kernel
  have k := key ⟨m, by omega⟩
  simp only at k
  have h1 : m * a ≤ m * (250 - m) := Nat.mul_le_mul_left _ (by omega)
  unfold roomB
  generalize m * a = x at *
  generalize m * (250 - m) = y at *
  generalize m * (m + 1) = z at *
  omega
theorem room_m (m a : Nat) : roomB m a + 60 + 18 * (m + 1) ≤ roomB (m + 1) a := by
  unfold roomB
  have e1 : (m + 1) * (m + 1 + 1) = m * (m + 1) + 2 * (m + 1) := by rw [Nat.add_mul, Nat.mul_add m (m + 1) 1]; omega
  have e2 : (m + 1) * a = m * a + a := by rw [Nat.add_mul]; omega
  rw [e1, e2]
  generalize m * a = x at *
  generalize m * (m + 1) = z at *
  omega
theorem room_a (m a : Nat) : roomB m a + 1536 + 60 + 18 * m ≤ roomB m (a + 1) := by
  unfold roomB
  have e2 : m * (a + 1) = m * a + m := by rw [Nat.mul_add]; omega
  rw [e2]
  generalize m * a = x at *
  generalize m * (m + 1) = z at *
  omega
section
variable {k b cnt : Nat} {M : Ms} {H H' : Hp} {f : Int → Option (List UInt8)}
/-- A block that is had reads as its owner wrote it. -/
theorem Apa.read (h : Apa k b M H H' f cnt) {x : Int} {d : List UInt8} (hx : f x = some d) : I64 x ∧ d.length ≤ 8192 ∧ vrV H.T M.bs x d.length = d ∧ (vrT H.T M.bs.length M.ss x d.length).length ≤ M.ss.length + 18 := by
  obtain ⟨c, s, j, hb, e⟩ := h.out x (by rw [hx]; rfl)
  subst e
  obtain ⟨d', k1, k2, k3⟩ := h.in_ c s j hb
  rw [hx] at k1
  cases k1
  obtain ⟨p, hc, hs⟩ := hb.there h.tw.ok
  have hu := unitI_range c (by omega) (by omega)
  have hi := p.inside
  obtain ⟨y, hy, rfl, rfl, y3, y4⟩ := hb
  have sn := blk_seen h.tw.ok h.tw.ms hy y4
  rw [← k2] at sn
  refine ⟨⟨by omega, by omega⟩, by omega, ?_, (read_few h.tw.ok.tp.tb _ _ _ (by omega)).1⟩
  rw [sn.read, k2]
  exact k3
/-- A block that is new reads as noughts. -/
theorem Apa.zero (h : Apa k b M H H' f cnt) {N : Int} {M1 : Ms} {H1 : Hp} {a E : Int} {c s j : Nat} (hr : hM k M H N = (M1, H1, a, E)) (g : Gave (fun q => Cq.inW k H.W q = true) M H N M1 H1 a c s j) : vrV H1.T M1.bs a (unitI c) = List.replicate (unitI c).toNat 0 ∧ vwE H1.T M1.bs.length a (unitI c) = 0 ∧ HadB H1.L c s j ∧ PlT c s j := by
  have t1 := h.tw.malloc N
  rw [hr] at t1
  simp only at t1
  have hb1 : HadB H1.L c s j := (g.had c s j).2 (.inr ⟨rfl, rfl, rfl⟩)
  obtain ⟨p0, hc, _⟩ := hb1.there t1.ok
  have hu := unitI_range c (by omega) (by omega)
  refine ⟨?_, ?_, hb1, p0⟩
  · obtain ⟨y, hy, rfl, rfl, y3, y4⟩ := hb1
    have sn := blk_seen t1.ok t1.ms hy y4
    have hz := g.zero
    rw [g.at_] at hz ⊢
    have e : unitI y.kind = ((unitI y.kind).toNat : Int) := by omega
    have hr2 : vrV H1.T M1.bs (adI y.kind y.slot j) (unitI y.kind) = (List.range (unitI y.kind).toNat).map fun i : Nat => lb H1.T M1.bs (adI y.kind y.slot j + i) := by rw [e, sn.read, Int.toNat_natCast]
    rw [hr2]
    apply List.ext_getElem (by rw [List.length_map, List.length_range, List.length_replicate])
    intro i h1 h2
    simp only [List.length_map, List.length_range] at h1
    simp only [List.getElem_map, List.getElem_range, List.getElem_replicate]
    exact hz i h1
  · obtain ⟨y, hy, rfl, rfl, y3, y4⟩ := hb1
    have sn := blk_seen t1.ok t1.ms hy y4
    rw [g.at_]
    have e : unitI y.kind = ((unitI y.kind).toNat : Int) := by omega
    rw [e]
    unfold vwE
    exact if_pos sn.ok
end
end Go.Proofs.YtejbdbjccjkfdaaGreatDoor

namespace Go.Proofs.YtejbdbjccjkfdaaGreatDoor
open Go.RowKit
open An

section
variable {k b : Nat} {M : Ms} {H H' : Hp}
theorem mv_len (h : Two k b M H H') (W : List Int) : (hMo k M H W).1.has.length = M.has.length := by
  by_cases e : (hMo k M H W).2.2 = 0
  · exact (hMo_ok h.ok h.ms W e).1.stp.len
  · rw [(hMo_no e).1]
theorem ml_len (h : Two k b M H H') (n : Int) : (hM k M H n).1.has.length = M.has.length := ((hM_ways (fun _ => id) h.ok h.ms n).ok h.ok h.ms).1.stp.len
theorem fr_len (h : Two k b M H H') (c s j : Nat) : (hF M H c s j).1.has.length = M.has.length := (hF_ok h.ok h.ms c s j).1.stp.len
theorem Two.notes' {k b b' : Nat} {M : Ms} {H H' : Hp} (h : Two k b M H H') {ss' : List Sp} (hs : ss'.length ≤ b') : Two k b' ⟨M.has, M.bs, ss'⟩ H H' :=
  ⟨⟨h.ok.tp, h.ok.nd, h.ok.at_, h.ok.dom, h.ok.cov, h.ok.sm, h.ok.ln⟩, ⟨h.ok'.tp, h.ok'.nd, h.ok'.at_, h.ok'.dom, h.ok'.cov, h.ok'.sm, h.ok'.ln⟩, ⟨h.ms.len, h.ms.cap, h.ms.cl⟩, h.k1, h.k2, hs, h.W, h.W', h.dj⟩
/-- Where what was written lies. -/
theorem Apa.lies {cnt : Nat} {f : Int → Option (List UInt8)} (h : Apa k b M H H' f cnt) {x : Int} {d : List UInt8} (hx : f x = some d) : 131072 ≤ x ∧ x ≤ 3276800 ∧ d.length ≤ 8192 := by
  have h2 := (h.read hx).2.1
  obtain ⟨c, s, j, hb, e⟩ := h.out x (by rw [hx]; rfl)
  have hi := (hb.there h.tw.ok).1.inside
  have hk := (hb.there h.tw.ok).1.kind
  have hu := unitI_range c hk.1 hk.2
  omega
/-- What the test asks of a block for N bytes. -/
theorem had_ask {N : Int} {c s j : Nat} (hk : ofI N = (c : Int)) (p : PlT c s j) : chargeI N = unitI c ∧ N ≤ unitI c ∧ (adI c s j).tmod (alignI c) = 0 ∧ 8 ≤ alignI c ∧ InW (adI c s j) (unitI c) := by
  have hn : ¬ (N < 1 ∨ 8192 < N) := fun h => by
    have := (ofI_none N).2 h
    omega
  obtain ⟨p1, p2⟩ := p.kind
  have hi := p.inside
  have hu := unitI_range c p1 p2
  refine ⟨by rw [chargeI_some N (by omega) (by omega), hk], by rw [← hk]; exact ofI_fits N (by omega) (by omega), ?_, (alignI_divides c p1 p2).1, ⟨by omega, by omega, by omega, by omega⟩⟩
  rw [Int.tmod_eq_emod_of_nonneg (by omega)]
  exact p.align
end
end Go.Proofs.YtejbdbjccjkfdaaGreatDoor

namespace Go.Proofs.YtejbdbjccjkfdaaGreatDoor
open Go.RowKit

theorem plainElem_string_inv {H : Type} {P : Program} {e : TypeId} (he : P.underlying e = some .string) {v : Value} {z : DataW H × List MemPlace} (h : plainElem P e v = some z) : ∃ s : ByteArray, v = .string s ∧ z = (.lit (.string s.data.toList), []) := by
  unfold plainElem at h
  rw [he] at h
  cases v <;> simp at h
  exact ⟨_, rfl, h.2.symm⟩
theorem zero_string (w : World) : (zeroValue 9).run Tryz.prog w = .ok (.string ⟨#[]⟩) w := by kernel_rfl
/-- What such a table reads as. -/
def Dm (D : DataW Unit) (f : Int → Option (List UInt8)) (cnt : Nat) : Prop := (∀ x : Int, Maps.has D (.int .i64 x) = (f x).isSome) ∧ (∀ x s, f x = some s → ∀ z, D.atKey (.int .i64 x) z = .lit (.string s)) ∧ Maps.size D = cnt
/-- In block B lies such a table, of cnt entries. -/
def Osx (w : World) (B n : Nat) (f : Int → Option (List UInt8)) (cnt : Nat) : Prop := ∃ D : DataW Unit, w.ownsMap Tryz.prog 3 (plainElem Tryz.prog 9) B n D ∧ Dm D f cnt
section
variable {w w' : World} {B n cnt : Nat} {f : Int → Option (List UInt8)}
theorem Osx.new (w : World) : Osx (w.alloc (.map #[] 0)) w.heap.size 0 (fun _ => none) 0 := ⟨_, World.ownsMap_made w _ _ _, fun x => by simp [Maps.has], (fun x s h => by cases h), rfl⟩
theorem Osx.lt (h : Osx w B n f cnt) : B < w.heap.size := by obtain ⟨D, h1, _⟩ := h; exact h1.lt
theorem Osx.carry {S : Nat → Prop} (h : Osx w B n f cnt) (fr : Fr S w w') (hn : ¬ S B) : Osx w' B n f cnt := by
  obtain ⟨D, ⟨es, clock, hb, F, hs, hD⟩, h2⟩ := h
  exact ⟨D, ⟨es, clock, by rw [fr.block B (Array.getElem?_eq_some_iff.1 hb).1 hn]; exact hb, F, hs, hD⟩, h2⟩
theorem Osx.lookOk (h : Osx w B n f cnt) {x : Int} (hx : (Lit.int .i64 x).wf = true) : ∃ s, (Instr.lookup 42 (.map (some B)) (.int .i64 x) true).run Tryz.prog w = .ok (.tuple #[.string s, .bool (f x).isSome]) w := by
  obtain ⟨D, h1, h2⟩ := h
  obtain ⟨v, ps, hrun, hv⟩ := h1.look_ok intLaw Tryz.underlying42 (zero_string w) (plainElem_string Tryz.underlying9 (by simp [ByteArray.size])) (int_key hx)
  obtain ⟨s, rfl, _⟩ := plainElem_string_inv Tryz.underlying9 hv
  exact ⟨s, by rw [hrun, h2.1 x]⟩
theorem Osx.look (h : Osx w B n f cnt) {x : Int} (hx : (Lit.int .i64 x).wf = true) {s : List UInt8} (hs : f x = some s) : (Instr.lookup 42 (.map (some B)) (.int .i64 x) false).run Tryz.prog w = .ok (.string ⟨s.toArray⟩) w := by
  obtain ⟨D, h1, h2⟩ := h
  obtain ⟨v, ps, hrun, hv⟩ := h1.lookup intLaw Tryz.underlying42 (zero_string w) (plainElem_string Tryz.underlying9 (by simp [ByteArray.size])) (int_key hx)
  obtain ⟨t, rfl, ht⟩ := plainElem_string_inv Tryz.underlying9 hv
  rw [h2.2.1 x s hs] at ht
  simp only [Prod.mk.injEq, DataW.lit.injEq, Lit.string.injEq] at ht
  rw [hrun, ht.1]
theorem Osx.len (h : Osx w B n f cnt) (ty : TypeId) : (Builtin.len_ #[42] ty #[.map (some B)]).run Tryz.prog w = .ok (.int .i64 cnt) w := by
  obtain ⟨D, h1, h2⟩ := h
  rw [h1.len Tryz.underlying42 ty, h2.2.2]
theorem Osx.store (h : Osx w B n f cnt) (hn : n < maxLen) {x : Int} (hx : (Lit.int .i64 x).wf = true) {s : List UInt8} (hs : s.length ≤ maxLen) (hf : f x = none) : ∃ w', (Instr.mapUpdate 42 (.map (some B)) (.int .i64 x) (.string ⟨s.toArray⟩)).run Tryz.prog w = .ok () w' ∧ Osx w' B (n + 1) (fun y => if y = x then some s else f y) (cnt + 1) ∧ Fr (fun i => i = B) w w' := by
  obtain ⟨D, h1, h2⟩ := h
  obtain ⟨w', hrun, h3, hg⟩ := h1.update intLaw Tryz.underlying42 hn (int_key hx) (plainElem_string Tryz.underlying9 (s := ⟨s.toArray⟩) (by simpa [ByteArray.size] using hs))
  refine ⟨w', hrun, ⟨_, h3, fun y => ?_, fun y t ht z => ?_, ?_⟩, (Fr.refl _ _).grown hg (fun k e => .inl (by simpa using e.symm))⟩
  · dsimp only
    by_cases e : y = x
    · subst e; rw [Maps.has_put_same h1.isMap (by trivial), if_pos rfl]; rfl
    · rw [Maps.has_put_other (by simpa using e), h2.1 y, if_neg e]
  · dsimp only at ht
    by_cases e : y = x
    · subst e
      rw [if_pos rfl] at ht
      cases ht
      rw [Maps.atKey_put_same h1.isMap (by trivial)]
    · rw [if_neg e] at ht
      rw [Maps.atKey_put_other (by simpa using e), h2.2.1 y t ht]
  · rw [Maps.size_put (h1.tidy intLaw), h2.1 x, hf, h2.2.2]; rfl
theorem Osx.drop (h : Osx w B n f cnt) {x : Int} (hx : (Lit.int .i64 x).wf = true) (ty : TypeId) : ∃ w', (Builtin.delete_ #[42, 3] ty #[.map (some B), .int .i64 x]).run Tryz.prog w = .ok (.tuple #[]) w' ∧ Osx w' B n (fun y => if y = x then none else f y) (cnt - (if (f x).isSome then 1 else 0)) ∧ Fr (fun i => i = B) w w' := by
  obtain ⟨D, h1, h2⟩ := h
  obtain ⟨w', hrun, h3, hg⟩ := h1.drop intLaw Tryz.underlying42 (int_key hx) ty
  refine ⟨w', hrun, ⟨_, h3, fun y => ?_, fun y t ht z => ?_, ?_⟩, (Fr.refl _ _).grown hg.grown (fun k e => .inl (by simpa using e.symm))⟩
  · dsimp only
    by_cases e : y = x
    · subst e; rw [Maps.has_del_same, if_pos rfl]; rfl
    · rw [Maps.has_del_other (by simpa using e), h2.1 y, if_neg e]
  · dsimp only at ht
    by_cases e : y = x
    · subst e; rw [if_pos rfl] at ht; cases ht
    · rw [if_neg e] at ht
      rw [Maps.atKey_del_other (by simpa using e), h2.2.1 y t ht]
  · have := Maps.size_del (k := .int .i64 x) (h1.tidy intLaw)
    rw [h2.1 x, h2.2.2] at this
    omega
/-- A walk over it under way. -/
def Rg (w : World) (B r n : Nat) (f : Int → Option (List UInt8)) (cnt m : Nat) : Prop := ∃ (D : DataW Unit) (left : Lit → Bool), w.ranges Tryz.prog 3 (plainElem Tryz.prog 9) B r n D left m ∧ Dm D f cnt ∧ ∀ x : Int, left (.int .i64 x) = true → (f x).isSome = true
theorem Rg.os {r m : Nat} (h : Rg w B r n f cnt m) : Osx w B n f cnt := by obtain ⟨D, left, h1, h2, _⟩ := h; exact ⟨D, h1.owns, h2⟩
theorem Rg.lt {r m : Nat} (h : Rg w B r n f cnt m) : r < w.heap.size := by obtain ⟨D, left, h1, _⟩ := h; exact h1.lt
theorem Rg.left {r m : Nat} (h : Rg w B r n f cnt m) : w.rangeLeft B r = m := by obtain ⟨D, left, h1, _⟩ := h; exact h1.left_eq
theorem Rg.carry {S : Nat → Prop} {r m : Nat} (h : Rg w B r n f cnt m) (fr : Fr S w w') (h1 : ¬ S B) (h2 : ¬ S r) : Rg w' B r n f cnt m := by
  have hl := h.lt
  have ho := h.os.lt
  obtain ⟨D, left, ⟨es, clock, since, seen, c0, hb, F, hs, hD, hr, rest⟩, h3⟩ := h
  exact ⟨D, left, ⟨es, clock, since, seen, c0, (fr.block B ho h1).trans hb, F, hs, hD, (fr.block r hl h2).trans hr, rest⟩, h3⟩
/-- Such a table, and a walk over one, each as a thing by itself. -/
def Mst (B n : Nat) (f : Int → Option (List UInt8)) (cnt : Nat) (w : World) (Z : Nat → Prop) : Prop := Osx w B n f cnt ∧ Z B ∧ ∀ i, Z i → i < w.heap.size
def Wst (B r n : Nat) (f : Int → Option (List UInt8)) (cnt m : Nat) (w : World) (Z : Nat → Prop) : Prop := Rg w B r n f cnt m ∧ (Z B ∧ Z r) ∧ ∀ i, Z i → i < w.heap.size
theorem Mst.good (B n : Nat) (f : Int → Option (List UInt8)) (cnt : Nat) : Good (Mst B n f cnt) :=
  ⟨fun h fr hs => ⟨h.1.carry fr (hs _ h.2.1), h.2.1, fun i hi => Nat.lt_of_lt_of_le (h.2.2 i hi) fr.size⟩, fun h h1 h2 => ⟨h.1, h1 _ h.2.1, h2⟩⟩
theorem Wst.good (B r n : Nat) (f : Int → Option (List UInt8)) (cnt m : Nat) : Good (Wst B r n f cnt m) :=
  ⟨fun h fr hs => ⟨h.1.carry fr (hs _ h.2.1.1) (hs _ h.2.1.2), h.2.1, fun i hi => Nat.lt_of_lt_of_le (h.2.2 i hi) fr.size⟩, fun h h1 h2 => ⟨h.1, ⟨h1 _ h.2.1.1, h1 _ h.2.1.2⟩, h2⟩⟩
end
section
variable {W w : World} {ts : List (World → (Nat → Prop) → Prop)} {B n cnt r m : Nat} {f : Int → Option (List UInt8)}
theorem Things.map (h : Things W w ts) : Things W (w.alloc (.map #[] 0)) (ts ++ [Mst w.heap.size 0 (fun _ => none) 0]) :=
  h.more (Z := fun i => i = w.heap.size) (Mst.good _ _ _ _) ⟨Osx.new w, rfl, fun i hi => by simp only [World.size_alloc]; omega⟩ ((Fr.refl _ _).alloc _) fun i hi => by simp only [World.size_alloc]; omega
theorem Things.os (h : Things W w ts) (j : Nat) (hj : ts[j]? = some (Mst B n f cnt)) : Osx w B n f cnt := by
  obtain ⟨U, h1, _⟩ := h.get j hj
  exact h1.1
theorem Things.rg (h : Things W w ts) (j : Nat) (hj : ts[j]? = some (Wst B r n f cnt m)) : Rg w B r n f cnt m := by
  obtain ⟨U, h1, _⟩ := h.get j hj
  exact h1.1
theorem Things.turned (h : Things W w ts) (j : Nat) (hj : ts[j]? = some (Mst B n f cnt)) {w' : World} {n' cnt' : Nat} {f' : Int → Option (List UInt8)} (ho : Osx w' B n' f' cnt') (fr : Fr (fun i => i = B) w w') : Things W w' (ts.set j (Mst B n' f' cnt')) := by
  obtain ⟨U, h1, _, h2⟩ := h.turn j hj
  exact h2 _ w' U (Mst.good _ _ _ _) ⟨ho, h1.2.1, fun i hi => Nat.lt_of_lt_of_le (h1.2.2 i hi) fr.size⟩ (Gw.same h1.2.2 (fr.mono fun i _ e => e ▸ h1.2.1))
theorem Things.walkOn (h : Things W w ts) (j : Nat) (hj : ts[j]? = some (Mst B n f cnt)) {w' : World} {r m : Nat} (hr : w.heap.size ≤ r) (ho : Rg w' B r n f cnt m) (fr : Fr (fun _ => False) w w') : Things W w' (ts.set j (Wst B r n f cnt m)) := by
  obtain ⟨U, h1, h0, h2⟩ := h.turn j hj
  have hlt : ∀ i, (U i ∨ i = r) → i < w'.heap.size := fun i hi => by
    rcases hi with hi | rfl
    · exact Nat.lt_of_lt_of_le (h1.2.2 i hi) fr.size
    · exact ho.lt
  refine h2 _ w' (fun i => U i ∨ i = r) (Wst.good _ _ _ _ _ _) ⟨ho, ⟨.inl h1.2.1, .inr rfl⟩, hlt⟩ ⟨fun _ => .inl, fun i hi => ?_, hlt, fr.mono fun _ _ e => e.elim⟩
  rcases hi with hi | rfl
  · exact .inl hi
  · exact .inr hr
theorem Things.walked (h : Things W w ts) (j : Nat) (hj : ts[j]? = some (Wst B r n f cnt m)) {w' : World} {m' : Nat} (ho : Rg w' B r n f cnt m') (fr : Fr (fun i => i = r) w w') : Things W w' (ts.set j (Wst B r n f cnt m')) := by
  obtain ⟨U, h1, _, h2⟩ := h.turn j hj
  exact h2 _ w' U (Wst.good _ _ _ _ _ _) ⟨ho, h1.2.1, fun i hi => Nat.lt_of_lt_of_le (h1.2.2 i hi) fr.size⟩ (Gw.same h1.2.2 (fr.mono fun i _ e => e ▸ h1.2.1.2))
theorem Things.walkEnd (h : Things W w ts) (j : Nat) (hj : ts[j]? = some (Wst B r n f cnt m)) : Things W w (ts.set j (Mst B n f cnt)) := by
  obtain ⟨U, h1, _, h2⟩ := h.turn j hj
  exact h2 _ w U (Mst.good _ _ _ _) ⟨h1.1.os, h1.2.1.1, h1.2.2⟩ (Gw.same h1.2.2 (Fr.refl _ _))
end
section
variable {w : World} {ops : Array Oper} {rest : List Oper} {o : Oper} {act : Act} {Q : Exit → Act → World → Prop} {B n cnt : Nat} {f : Int → Option (List UInt8)}
theorem wp_range (hgd : o.guard = none) (mo : Operand) (hop : o.op = Op.range 42 mo) (hm : act.eval mo = .map (some B)) (h : Osx w B n f cnt)
    (hK : ∀ w', Rg w' B w.heap.size n f cnt cnt → Fr (fun _ => False) w w' → wpList Tryz.prog ops Q rest (act.put o.dst (.pointer (some ⟨w.heap.size, 0, none⟩))) w') : wpList Tryz.prog ops Q (o :: rest) act w := by
  obtain ⟨D, h1, h2⟩ := h
  refine wpList_range_own w hgd mo 42 hop 3 9 intLaw Tryz.underlying42 _ B n D hm h1 ?_
  intro w' hr hg _
  exact hK w' ⟨D, _, by rw [← h2.2.2]; exact hr, h2, fun x hx => by rw [h2.1 x] at hx; exact hx⟩ ((Fr.refl _ _).grown hg fun k e => by cases e)
theorem wp_drop (hgd : o.guard = none) (mo xo : Operand) (hop : o.op = Op.call { callee := Callee.builtin Builtin.delete, args := #[mo, xo], argTypes := #[42, 3] }) (hm : act.eval mo = .map (some B)) {x : Int} (hx : act.eval xo = .int .i64 x) (hwf : (Lit.int .i64 x).wf = true) (h : Osx w B n f cnt)
    (hK : ∀ w', Osx w' B n (fun y => if y = x then none else f y) (cnt - (if (f x).isSome then 1 else 0)) → Fr (fun i => i = B) w w' → wpList Tryz.prog ops Q rest (act.put o.dst (.tuple #[])) w') : wpList Tryz.prog ops Q (o :: rest) act w := by
  refine wpList_plain hgd fun K' hK' => ?_
  obtain ⟨w', hrun, r1, r2⟩ := h.drop hwf o.type
  unfold Oper.wp
  simp [execOp, hop, resolve, invoke, builtin, hm, hx, hrun, Result.andThen]
  exact hK' _ _ (hK w' r1 r2)
theorem wp_next {r m : Nat} (hgd : o.guard = none) (it : Operand) (hop : o.op = Op.next it false) (hit : act.eval it = .pointer (some ⟨r, 0, none⟩)) (h : Rg w B r n f cnt m)
    (hDone : wpList Tryz.prog ops Q rest (act.put o.dst (.tuple #[.bool false])) w)
    (hMore : ∀ (x : Int) (s : List UInt8) (w' : World) (m' : Nat), f x = some s → Rg w' B r n f cnt m' → m' < m → Fr (fun i => i = r) w w' → (Instr.entry (.pointer (some ⟨r, 0, none⟩))).run Tryz.prog w' = .ok (.tuple #[.int .i64 x, .string ⟨s.toArray⟩]) w' → wpList Tryz.prog ops Q rest (act.put o.dst (.tuple #[.bool true, .int .i64 x, .string ⟨s.toArray⟩])) w') : wpList Tryz.prog ops Q (o :: rest) act w := by
  obtain ⟨D, left, h1, h2, h3⟩ := h
  refine wpList_next_ranges w hgd it hop 3 intLaw (plainElem Tryz.prog 9) (Value.int .i64) Value.string (fun key kl hkey => by obtain ⟨x, rfl, _⟩ := Maps.keyOf_int_inv Tryz.underlying3 hkey; exact ⟨x, rfl⟩) (fun v y hv => by obtain ⟨c, rfl, _⟩ := plainElem_string_inv Tryz.underlying9 hv; exact ⟨c, rfl⟩) B r n D left m hit h1 (fun _ _ => hDone) ?_
  intro x c kl y w' m' hkey hlk hv hat hrg hlt hg _ hen
  obtain ⟨x', ex, rfl, _⟩ := Maps.keyOf_int_inv Tryz.underlying3 hkey
  cases ex
  obtain ⟨c', ec, hy⟩ := plainElem_string_inv Tryz.underlying9 hv
  cases ec
  obtain ⟨s, hs⟩ := Option.isSome_iff_exists.1 (h3 x hlk)
  have e := hat (.lit (.string []))
  rw [h2.2.1 x s hs, hy] at e
  simp only [DataW.lit.injEq, Lit.string.injEq] at e
  have ec : c = ⟨s.toArray⟩ := by rw [e]
  subst ec
  exact hMore x s w' m' hs ⟨D, _, hrg, h2, fun z hz => h3 z (by simp at hz; exact hz.1)⟩ hlt ((Fr.refl _ _).grown hg fun k e => .inl (by simpa using e.symm)) hen
end
end Go.Proofs.YtejbdbjccjkfdaaGreatDoor
