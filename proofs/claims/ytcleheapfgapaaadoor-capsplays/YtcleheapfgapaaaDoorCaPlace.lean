/-
  A slot of the program's table is filled, or freed: what is in memory then.
-/
import Derived.Test.YtcleheapfgapaaaDoorCaCells
namespace Go.Proofs.YtcleheapfgapaaaDoor
open Go.RowKit

theorem plS_yes {c : Ct} {lo hi r a : Int} (hc : c.can lo hi) : (plS c lo hi r a).T = c.T ∧ (plS c lo hi r a).nx = c.nx + 1 ∧ (plS c lo hi r a).L.length = c.L.length + 1 ∧ ∀ x, x ∈ (plS c lo hi r a).L ↔ x ∈ c.L ∨ x = c.slot lo r a := by
  have e : plS c lo hi r a = ⟨c.T, c.nx + 1, c.L.take (scan c.L lo).1 ++ c.slot lo r a :: c.L.drop (scan c.L lo).1⟩ := if_pos hc
  rw [e]
  refine ⟨rfl, rfl, ?_, fun x => ?_⟩
  · show (c.L.take (scan c.L lo).1 ++ c.slot lo r a :: c.L.drop (scan c.L lo).1).length = _
    rw [List.length_append, List.length_cons, List.length_take, List.length_drop]
    omega
  · show x ∈ c.L.take (scan c.L lo).1 ++ c.slot lo r a :: c.L.drop (scan c.L lo).1 ↔ _
    rw [List.mem_append, List.mem_cons]
    constructor
    · rintro (h | h | h)
      · exact .inl (List.mem_of_mem_take h)
      · exact .inr h
      · exact .inl (List.mem_of_mem_drop h)
    · rintro (h | h)
      · rw [← List.take_append_drop (scan c.L lo).1 c.L] at h
        rcases List.mem_append.1 h with h | h
        · exact .inl h
        · exact .inr (.inr h)
      · exact .inr (.inl h)
theorem heap_set {w : World} {a : Nat} {cs : Array Value} {t : TypeId} {fr : Nat × Nat} (h : w.heap[a]? = some (.cells cs t fr)) (i : Nat) (v : Value) : (w.setCell ⟨a, i, none⟩ v).heap[a]? = some (.cells (cs.setIfInBounds i v) t fr) := by
  simp [World.setCell, Array.getElem?_modify, h]
theorem cell_at {w : World} {a : Nat} {cs : Array Value} {t : TypeId} {fr : Nat × Nat} (h : w.heap[a]? = some (.cells cs t fr)) (i : Nat) : w.cell? ⟨a, i, none⟩ = cs[i]? := by simp [World.cell?, h]
def oA (y : Option Sl) : Int := (y.map Sl.a).getD 0
def oR (y : Option Sl) : Int := (y.map Sl.r).getD 0
def oN (y : Option Sl) : Int := (y.map Sl.n).getD 0
section
variable {cs : Array Value} {T nx : Int} {L L' : List Sl} {o s : Nat}
theorem Ck.nxt (h : Ck cs T nx L o s) (nx' : Int) : Ck (cs.setIfInBounds 1 (.int .i64 nx')) T nx' L o s := by
  refine ⟨by rw [Array.size_setIfInBounds]; exact h.sz, fun i hi => ?_⟩
  rw [Array.getElem?_setIfInBounds]
  by_cases e : 1 = i
  · subst e; rw [if_pos rfl, if_pos (by rw [h.sz]; omega)]; rfl
  · rw [if_neg e, h.at_ i hi]
    congr 1
    unfold ckv
    by_cases h4 : i < 4
    · rw [if_pos h4, if_pos h4, if_neg (fun e2 : i = 1 => e e2.symm), if_neg (fun e2 : i = 1 => e e2.symm)]
    · rw [if_neg h4, if_neg h4]
theorem Ck.put (h : Ck cs T nx L o s) (k : Nat) (hk : k < 4160) (y : Option Sl) (hL : ∀ q, sAt L' q = if q = (k : Int) then y else sAt L q) : Ck (((cs.setIfInBounds (4 + k * 3) (.int .i64 (oA y))).setIfInBounds (4 + k * 3 + 1) (.int .i64 (oR y))).setIfInBounds (4 + k * 3 + 2) (.int .i64 (oN y))) T nx L' o s := by
  have hsz := h.sz
  have hk' : sAt L' (k : Int) = y := by rw [hL, if_pos rfl]
  refine ⟨by rw [Array.size_setIfInBounds, Array.size_setIfInBounds, Array.size_setIfInBounds]; exact hsz, fun i hi => ?_⟩
  rw [Array.getElem?_setIfInBounds, Array.getElem?_setIfInBounds, Array.getElem?_setIfInBounds, Array.size_setIfInBounds, Array.size_setIfInBounds]
  by_cases e2 : 4 + k * 3 + 2 = i
  · subst e2; rw [if_pos rfl, if_pos (by omega), ckv_n]; unfold hN; rw [hk']; rfl
  rw [if_neg e2]
  by_cases e1 : 4 + k * 3 + 1 = i
  · subst e1; rw [if_pos rfl, if_pos (by omega), ckv_r]; unfold hR; rw [hk']; rfl
  rw [if_neg e1]
  by_cases e0 : 4 + k * 3 = i
  · subst e0; rw [if_pos rfl, if_pos (by omega), ckv_a]; unfold hA; rw [hk']; rfl
  rw [if_neg e0, h.at_ i hi]
  congr 1
  unfold ckv
  by_cases h4 : i < 4
  · rw [if_pos h4, if_pos h4]
  · have e : sAt L' (((i - 4) / 3 : Nat) : Int) = sAt L (((i - 4) / 3 : Nat) : Int) := by rw [hL, if_neg (by omega)]
    unfold hA hR hN
    rw [e]
end
section
variable {w w1 : World} {a o ob s sb : Nat} {c : Ct}
/-- A slot of an object is taken. -/
theorem Kt.fill_o (h : Kt w a o ob s sb c) {k : Nat} (hk : k < 4096) (f : Fr (fun i => i = ob) w w1) (hs : Sf.Sh w1 o ob ((tkn c.L 0 4096).set k true)) {c' : Ct} (hc : c'.Ok) (y : Sl) (ht : c'.T = c.T) (hL : ∀ q, sAt c'.L q = if q = (k : Int) then some y else sAt c.L q) :
    Kt ((((w1.setCell ⟨a, 4 + k * 3, none⟩ (.int .i64 y.a)).setCell ⟨a, 4 + k * 3 + 1, none⟩ (.int .i64 y.r)).setCell ⟨a, 4 + k * 3 + 2, none⟩ (.int .i64 y.n)).setCell ⟨a, 1, none⟩ (.int .i64 c'.nx)) a o ob s sb c' := by
  obtain ⟨⟨n1, n2⟩, ⟨n3, n4⟩, ⟨n5, n6⟩, n7, n8⟩ := h.ne
  have a0 := h.a0
  have F : Fr (fun i => i = a) w1 ((((w1.setCell ⟨a, 4 + k * 3, none⟩ (.int .i64 y.a)).setCell ⟨a, 4 + k * 3 + 1, none⟩ (.int .i64 y.r)).setCell ⟨a, 4 + k * 3 + 2, none⟩ (.int .i64 y.n)).setCell ⟨a, 1, none⟩ (.int .i64 c'.nx)) := (((Fr.setCell (S := fun i => i = a) (Fr.refl _ _) (p := ⟨a, 4 + k * 3, none⟩) rfl _).setCell (p := ⟨a, 4 + k * 3 + 1, none⟩) rfl _).setCell (p := ⟨a, 4 + k * 3 + 2, none⟩) rfl _).setCell (p := ⟨a, 1, none⟩) rfl _
  obtain ⟨cs, g1, g2⟩ := h.st
  have g1' : w1.heap[a]? = some (.cells cs 68 (0, 0)) := by rw [f.block a h.lta n2]; exact g1
  refine ⟨⟨_, heap_set (heap_set (heap_set (heap_set g1' _ _) _ _) _ _) _ _, ?_⟩, ?_, ?_, h.ne, a0, hc⟩
  · rw [ht]; exact (g2.put k (by omega) (some y) hL).nxt c'.nx
  · have e : tkn c'.L 0 4096 = (tkn c.L 0 4096).set k true := tkn_set _ _ fun i hi => by
      rw [hL]
      by_cases e : i = k
      · rw [if_pos e, if_pos (by omega)]; rfl
      · rw [if_neg e, if_neg (by omega)]
    rw [e]
    exact hs.carry F (fun e => n1 e.symm) (fun e => n2 e.symm) (by omega)
  · have e : tkn c'.L 4096 64 = tkn c.L 4096 64 := tkn_ext fun i hi => by rw [hL, if_neg (by omega)]
    rw [e]
    exact (h.shs.carry f (fun e => n7 e.symm) (fun e => n8 e.symm) (by have := h.sho.b0; omega)).carry F (fun e => n3 e.symm) (fun e => n4 e.symm) (by omega)
/-- A slot of a share is taken. -/
theorem Kt.fill_s (h : Kt w a o ob s sb c) {k : Nat} (hk : k < 64) (f : Fr (fun i => i = sb) w w1) (hs : Sf.Sh w1 s sb ((tkn c.L 4096 64).set k true)) {c' : Ct} (hc : c'.Ok) (y : Sl) (ht : c'.T = c.T) (hL : ∀ q, sAt c'.L q = if q = ((4096 + k : Nat) : Int) then some y else sAt c.L q) :
    Kt ((((w1.setCell ⟨a, 4 + (4096 + k) * 3, none⟩ (.int .i64 y.a)).setCell ⟨a, 4 + (4096 + k) * 3 + 1, none⟩ (.int .i64 y.r)).setCell ⟨a, 4 + (4096 + k) * 3 + 2, none⟩ (.int .i64 y.n)).setCell ⟨a, 1, none⟩ (.int .i64 c'.nx)) a o ob s sb c' := by
  obtain ⟨⟨n1, n2⟩, ⟨n3, n4⟩, ⟨n5, n6⟩, n7, n8⟩ := h.ne
  have a0 := h.a0
  have F : Fr (fun i => i = a) w1 ((((w1.setCell ⟨a, 4 + (4096 + k) * 3, none⟩ (.int .i64 y.a)).setCell ⟨a, 4 + (4096 + k) * 3 + 1, none⟩ (.int .i64 y.r)).setCell ⟨a, 4 + (4096 + k) * 3 + 2, none⟩ (.int .i64 y.n)).setCell ⟨a, 1, none⟩ (.int .i64 c'.nx)) := (((Fr.setCell (S := fun i => i = a) (Fr.refl _ _) (p := ⟨a, 4 + (4096 + k) * 3, none⟩) rfl _).setCell (p := ⟨a, 4 + (4096 + k) * 3 + 1, none⟩) rfl _).setCell (p := ⟨a, 4 + (4096 + k) * 3 + 2, none⟩) rfl _).setCell (p := ⟨a, 1, none⟩) rfl _
  obtain ⟨cs, g1, g2⟩ := h.st
  have g1' : w1.heap[a]? = some (.cells cs 68 (0, 0)) := by rw [f.block a h.lta n4]; exact g1
  refine ⟨⟨_, heap_set (heap_set (heap_set (heap_set g1' _ _) _ _) _ _) _ _, ?_⟩, ?_, ?_, h.ne, a0, hc⟩
  · rw [ht]; exact (g2.put (4096 + k) (by omega) (some y) hL).nxt c'.nx
  · have e : tkn c'.L 0 4096 = tkn c.L 0 4096 := tkn_ext fun i hi => by rw [hL, if_neg (by omega)]
    rw [e]
    exact (h.sho.carry f n6 n8 (by have := h.shs.b0; omega)).carry F (fun e => n1 e.symm) (fun e => n2 e.symm) (by omega)
  · have e : tkn c'.L 4096 64 = (tkn c.L 4096 64).set k true := tkn_set _ _ fun i hi => by
      rw [hL]
      by_cases e : i = k
      · rw [if_pos e, if_pos (by omega)]; rfl
      · rw [if_neg e, if_neg (by omega)]
    rw [e]
    exact hs.carry F (fun e => n3 e.symm) (fun e => n4 e.symm) (by omega)
/-- A slot's cells are 0 again. -/
def wipe (w : World) (a k : Nat) : World := ((w.setCell ⟨a, 4 + k * 3, none⟩ (.int .i64 0)).setCell ⟨a, 4 + k * 3 + 1, none⟩ (.int .i64 0)).setCell ⟨a, 4 + k * 3 + 2, none⟩ (.int .i64 0)
theorem wipe_fr (w : World) (a k : Nat) : Fr (fun i => i = a) w (wipe w a k) := ((Fr.setCell (S := fun i => i = a) (Fr.refl _ _) (p := ⟨a, 4 + k * 3, none⟩) rfl _).setCell (p := ⟨a, 4 + k * 3 + 1, none⟩) rfl _).setCell (p := ⟨a, 4 + k * 3 + 2, none⟩) rfl _
theorem Kt.wipe_o (h : Kt w a o ob s sb c) (k : Nat) : Sf.Sh (wipe w a k) o ob (tkn c.L 0 4096) := h.sho.carry (wipe_fr w a k) (fun e => h.ne.1.1 e.symm) (fun e => h.ne.1.2 e.symm) (by have := h.a0; omega)
theorem Kt.wipe_s (h : Kt w a o ob s sb c) (k : Nat) : Sf.Sh (wipe w a k) s sb (tkn c.L 4096 64) := h.shs.carry (wipe_fr w a k) (fun e => h.ne.2.1.1 e.symm) (fun e => h.ne.2.1.2 e.symm) (by have := h.a0; omega)
theorem Kt.wipe_c (h : Kt w a o ob s sb c) (k : Nat) : (wipe w a k).cell? ⟨a, 2, none⟩ = some (.pointer (some ⟨o, 0, none⟩)) ∧ (wipe w a k).cell? ⟨a, 3, none⟩ = some (.pointer (some ⟨s, 0, none⟩)) := by
  obtain ⟨cs, g1, g2⟩ := h.st
  have e := heap_set (heap_set (heap_set g1 (4 + k * 3) (.int .i64 0)) (4 + k * 3 + 1) (.int .i64 0)) (4 + k * 3 + 2) (.int .i64 0)
  have key : ∀ i, i < 4 → (wipe w a k).cell? ⟨a, i, none⟩ = cs[i]? := fun i hi => by
    show World.cell? (((w.setCell ⟨a, 4 + k * 3, none⟩ (.int .i64 0)).setCell ⟨a, 4 + k * 3 + 1, none⟩ (.int .i64 0)).setCell ⟨a, 4 + k * 3 + 2, none⟩ (.int .i64 0)) _ = _
    rw [cell_at e, Array.getElem?_setIfInBounds_ne (by omega), Array.getElem?_setIfInBounds_ne (by omega), Array.getElem?_setIfInBounds_ne (by omega)]
  exact ⟨(key 2 (by omega)).trans (g2.at_ 2 (by omega)), (key 3 (by omega)).trans (g2.at_ 3 (by omega))⟩
theorem del_ok (h : c.Ok) (k : Int) : (Ct.mk c.T c.nx (del c.L k)).Ok := ⟨h.t, h.nx, del_srt h.srt, fun x hx => h.kr x (mem_del.1 hx).1⟩
/-- A slot of an object is freed. -/
theorem Kt.gone_o (h : Kt w a o ob s sb c) {k : Nat} (hk : k < 4096) (f : Fr (fun i => i = ob) (wipe w a k) w1) (hs : Sf.Sh w1 o ob ((tkn c.L 0 4096).set k false)) : Kt w1 a o ob s sb ⟨c.T, c.nx, del c.L k⟩ := by
  have hL : ∀ q, sAt (del c.L k) q = if q = (k : Int) then none else sAt c.L q := sAt_del h.ok.srt
  obtain ⟨⟨n1, n2⟩, ⟨n3, n4⟩, ⟨n5, n6⟩, n7, n8⟩ := h.ne
  obtain ⟨cs, g1, g2⟩ := h.st
  have e := heap_set (heap_set (heap_set g1 (4 + k * 3) (.int .i64 0)) (4 + k * 3 + 1) (.int .i64 0)) (4 + k * 3 + 2) (.int .i64 0)
  refine ⟨⟨_, (f.block a (Array.getElem?_eq_some_iff.1 e).1 n2).trans e, g2.put k (by omega) none hL⟩, ?_, ?_, h.ne, h.a0, del_ok h.ok _⟩
  · have e : tkn (del c.L k) 0 4096 = (tkn c.L 0 4096).set k false := tkn_set _ _ fun i hi => by
      rw [hL]
      by_cases e : i = k
      · rw [if_pos e, if_pos (by omega)]; rfl
      · rw [if_neg e, if_neg (by omega)]
    show Sf.Sh _ _ _ (tkn (del c.L k) 0 4096)
    rw [e]; exact hs
  · have e : tkn (del c.L k) 4096 64 = tkn c.L 4096 64 := tkn_ext fun i hi => by rw [hL, if_neg (by omega)]
    show Sf.Sh _ _ _ (tkn (del c.L k) 4096 64)
    rw [e]
    exact (h.wipe_s k).carry f (fun e => n7 e.symm) (fun e => n8 e.symm) (by have := h.sho.b0; omega)
/-- A slot of a share is freed. -/
theorem Kt.gone_s (h : Kt w a o ob s sb c) {k : Nat} (hk : k < 64) (f : Fr (fun i => i = sb) (wipe w a (4096 + k)) w1) (hs : Sf.Sh w1 s sb ((tkn c.L 4096 64).set k false)) : Kt w1 a o ob s sb ⟨c.T, c.nx, del c.L ((4096 + k : Nat) : Int)⟩ := by
  have hL : ∀ q, sAt (del c.L ((4096 + k : Nat) : Int)) q = if q = ((4096 + k : Nat) : Int) then none else sAt c.L q := sAt_del h.ok.srt
  obtain ⟨⟨n1, n2⟩, ⟨n3, n4⟩, ⟨n5, n6⟩, n7, n8⟩ := h.ne
  obtain ⟨cs, g1, g2⟩ := h.st
  have e := heap_set (heap_set (heap_set g1 (4 + (4096 + k) * 3) (.int .i64 0)) (4 + (4096 + k) * 3 + 1) (.int .i64 0)) (4 + (4096 + k) * 3 + 2) (.int .i64 0)
  refine ⟨⟨_, (f.block a (Array.getElem?_eq_some_iff.1 e).1 n4).trans e, g2.put (4096 + k) (by omega) none hL⟩, ?_, ?_, h.ne, h.a0, del_ok h.ok _⟩
  · have e : tkn (del c.L ((4096 + k : Nat) : Int)) 0 4096 = tkn c.L 0 4096 := tkn_ext fun i hi => by rw [hL, if_neg (by omega)]
    show Sf.Sh _ _ _ (tkn (del c.L ((4096 + k : Nat) : Int)) 0 4096)
    rw [e]
    exact (h.wipe_o (4096 + k)).carry f n6 n8 (by have := h.shs.b0; omega)
  · have e : tkn (del c.L ((4096 + k : Nat) : Int)) 4096 64 = (tkn c.L 4096 64).set k false := tkn_set _ _ fun i hi => by
      rw [hL]
      by_cases e : i = k
      · rw [if_pos e, if_pos (by omega)]; rfl
      · rw [if_neg e, if_neg (by omega)]
    show Sf.Sh _ _ _ (tkn (del c.L ((4096 + k : Nat) : Int)) 4096 64)
    rw [e]; exact hs
end
end Go.Proofs.YtcleheapfgapaaaDoor
