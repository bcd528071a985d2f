/-
  A pointer to a shelf is put behind a map's shelves.
  Maps that are made: New, Copy.
  The row as a map from each number to the one behind it: mathematics; and the program's line in memory.
  What the calls of package line do: Len, Has, Front, ahead, All; maps.Clone.
-/
import Derived.Test.YtioplfbkfokkfaaGreatDoorCqCallsB
import Derived.Test.YtioplfbkfokkfaaGreatDoorCqCallsD
import Derived.Deep.RegionLaw
import Derived.Test.YtioplfbkfokkfaaGreatDoorHpBase
import Derived.Test.YtioplfbkfokkfaaGreatDoorSeen
import Derived.Test.YtioplfbkfokkfaaGreatDoorPaThing
import Derived.Test.YtioplfbkfokkfaaGreatDoorViIn
import Derived.ScopeJumps
import Derived.Deep.RegionHeld3
import Derived.Shelf.SlMaps.Clone
namespace Go.Proofs.YtioplfbkfokkfaaGreatDoor.Cq
open Go.RowKit

def Grown (w w2 : World) (base am : Nat) (v : Value) (m j : Nat) (A B : Nat → Nat) (col : Nat → List Bool) (sa sb : Nat) (c : List Bool) (g cap : Nat) : Prop :=
  w2.cell? ⟨am, 1, none⟩ = some v ∧ w2.frozen? ⟨am, 1, none⟩ = false ∧ Cj (w2.setCell ⟨am, 1, none⟩ (.slice (some ⟨g, 0, none⟩) (j + 1) cap)) base am (.slice (some ⟨g, 0, none⟩) (j + 1) cap) m (j + 1) (upd A j sa) (upd B j sb) (upd col j c) ∧ Fr (fun x => x = am ∨ v.ownBlock = some x) w (w2.setCell ⟨am, 1, none⟩ (.slice (some ⟨g, 0, none⟩) (j + 1) cap)) ∧ Fr (fun x => v.ownBlock = some x) w w2
section
variable {w : World} {o : Oper} {a : Act} {Q : Exit → Act → World → Prop} {base am m j : Nat} {v : Value} {A B : Nat → Nat} {col : Nat → List Bool} {sa sb : Nat} {c : List Bool}
theorem wp_ptr {K : Act → World → Prop} (s x : Operand)
    (ho : o.op = .call { callee := .builtin .append, args := #[s, x], argTypes := #[106, 106] })
    (hj : Cj w base am v m j A B col) (hsh : Sf.Sh w sa sb c) (hn : ∀ x, Blk am v j A B x → x ≠ sa ∧ x ≠ sb) (hl : base ≤ sa ∧ base ≤ sb) (hjl : j < 1000) (hs : a.eval s = v) (hx : a.eval x = .slice (some ⟨w.heap.size, 0, none⟩) 1 1)
    (h : ∀ g cap w2, Grown w w2 base am v m j A B col sa sb c g cap → K (a.put o.dst (.slice (some ⟨g, 0, none⟩) (j + 1) cap)) w2) : o.wp Tryz.prog a (w.alloc (.cells #[.pointer (some ⟨sa, 0, none⟩)] 109)) K Q := by
  obtain ⟨i0, hi, hz0, hz1, hz2⟩ := ptr_info
  have hb : base ≤ w.heap.size := by have := hj.lo.1; have := hj.lta; omega
  obtain ⟨g, cap, w2, hr, h2, h3, h4⟩ := run_append_sep (P := Tryz.prog) (w.alloc (.cells #[.pointer (some ⟨sa, 0, none⟩)] 109)) base 106 o.type 109 i0 (.pointer none) 1 8 Tryz.underlying106 hi hz0 hz1 hz2 rfl (by decide) v j (ptrs j A) (hj.row.alloc _) ⟨w.heap.size, 0, none⟩ 1 1 (by decide) [.pointer (some ⟨sa, 0, none⟩)] rfl (fun q u hu => by
      match q, hu with
      | 0, hu => simp at hu; subst hu; simp [Addr.add]) (fun u hu => by simp at hu; subst hu; rfl) (by unfold maxLen; omega) (by omega) (by simp; omega)
  obtain ⟨k1, k2⟩ := hj.grow hsh hn hl h3 h2 h4
  have f2 : Fr (fun x => v.ownBlock = some x) w w2 := ((Fr.refl _ w).alloc _).grown h3 fun x e => .inl e
  have hst := (f2.block am hj.lta hj.na).trans hj.st
  unfold Oper.wp execOp
  simp only [ho, resolve, invoke, builtin, Sem.run_bind, Sem.run_pure, Result.andThen_ok, List.map_toArray, List.map_cons, List.map_nil, hs, hx, hr]
  exact h g cap w2 ⟨by simp [World.cell?, hst], by simp [World.frozen?, hst], k1, k2, f2⟩
theorem wpList_ptr {ops : Array Oper} {rest : List Oper} (hgd : o.guard = none) (s x : Operand)
    (ho : o.op = .call { callee := .builtin .append, args := #[s, x], argTypes := #[106, 106] })
    (hj : Cj w base am v m j A B col) (hsh : Sf.Sh w sa sb c) (hn : ∀ x, Blk am v j A B x → x ≠ sa ∧ x ≠ sb) (hl : base ≤ sa ∧ base ≤ sb) (hjl : j < 1000) (hs : a.eval s = v) (hx : a.eval x = .slice (some ⟨w.heap.size, 0, none⟩) 1 1)
    (h : ∀ g cap w2, Grown w w2 base am v m j A B col sa sb c g cap → wpList Tryz.prog ops Q rest (a.put o.dst (.slice (some ⟨g, 0, none⟩) (j + 1) cap)) w2) : wpList Tryz.prog ops Q (o :: rest) a (w.alloc (.cells #[.pointer (some ⟨sa, 0, none⟩)] 109)) :=
  wpList_plain hgd fun _ hK => wp_ptr s x ho hj hsh hn hl hjl hs hx fun g cap w2 h2 => hK _ _ (h g cap w2 h2)
end
end Go.Proofs.YtioplfbkfokkfaaGreatDoor.Cq

namespace Go.Proofs.YtioplfbkfokkfaaGreatDoor.Cq
open Go.RowKit

set_option maxRecDepth 20000 in
theorem c_new_no {n k : Int} (h : ¬ Cfg n k) (w : World) : Calls Tryz.prog 23 #[.agg #[.int .i64 n, .int .i64 k]] w fun e w' => e = .returned (.tuple #[.pointer none, .int .i64 12]) ∧ Fr (fun _ => False) w w' := by
  have H1 := hid fun w => c_check n k w
  rw [if_neg h] at H1
  have A := Cf.new w n k
  have c0 := A.c0
  have c1 := A.c1
  clear A h
  go_enter Tryz.func23, Tryz.ntmps23
  go_wp2_with fail
  refine (H1.out _).mono ?_
  rintro e w1 ⟨rfl, f1⟩
  have HF := hid (((Fr.refl (fun _ => False) w).alloc _).trans f1)
  clear f1
  go_wp2
  go_ret2
  exact ⟨by simp, HF.out⟩
theorem Cj.none {w w1 : World} (f : Fr (fun _ => False) w w1) (g : Sf.Tab w) (m : Nat) (A B : Nat → Nat) (col : Nat → List Bool) : Cj (w1.alloc (.cells #[.int .i64 (m : Int), .slice none 0 0] 108)) w.heap.size w1.heap.size (.slice none 0 0) m 0 A B col :=
  ⟨heap_alloc_new _ _, World.ownsRow_nil _ _ _ _, fun i hi => by omega, fun i hi => by omega, by simp [Value.ownBlock], ⟨f.size, fun i hi => by omega⟩, g.pos, g.carry (f.alloc _) id⟩
set_option maxRecDepth 20000 in
set_option maxHeartbeats 1000000 in
theorem c_new {n k : Nat} (h : Cfg n k) (w : World) (g : Gr w) : Calls Tryz.prog 23 #[.agg #[.int .i64 (n : Int), .int .i64 (k : Int)]] w fun e w' => ∃ a Z, e = .returned (.tuple #[.pointer (some ⟨a, 0, none⟩), .int .i64 0]) ∧ (∀ i, Z i → w.heap.size ≤ i) ∧ Cm w' a Z k (List.replicate n false) ∧ Fr (fun _ => False) w w' := by
  have H1 := hid fun w => c_check n k w
  rw [if_pos h] at H1
  unfold Cfg at h
  obtain ⟨m, hm⟩ : ∃ m : Nat, n = m * k := ⟨n / k, (Nat.div_mul_cancel (Nat.dvd_of_mod_eq_zero (by omega))).symm⟩
  have hk0 : 0 < k := by omega
  have hmk : n / k = m := by rw [hm]; exact Nat.mul_div_cancel _ hk0
  have hml : m ≤ 4096 := by have := Nat.le_mul_of_pos_right m hk0; omega
  have hdiv : Int.tdiv (n : Int) (k : Int) = (m : Int) := by rw [Int.tdiv_eq_ediv_of_nonneg (by omega), ← hmk]; simp
  have hz : ((k : Int) == 0) = false := by simp; omega
  have hw0 : IntKind.i64.wrap (m : Int) = (m : Int) := by rw [IntKind.wrap_i64]; omega
  have HM := hid hm
  have hk2 : k ≤ 32 := by omega
  have HN : Hid (n ≤ 4096) := by show _ ≤ _; omega
  have HG := hid g
  have HA := hid (Cf.new w n k)
  have c0 := HA.out.c0
  have c1 := HA.out.c1
  clear h hm hmk g
  go_enter Tryz.func23, Tryz.ntmps23
  go_wp2_with fail
  refine (H1.out _).mono ?_
  rintro e w1 ⟨rfl, f1⟩
  have HF := hid (((Fr.refl (fun _ => False) w).alloc _).trans f1)
  have A1 := HA.out.kept f1
  clear f1 c0 c1 H1
  have c0 := A1.c0
  have c1 := A1.c1
  have c2 := (A1.alloc (.cells #[.int .i64 (m : Int), .slice none 0 0] 108)).c1
  clear A1 HA
  go_wp2
  clear hdiv hz hw0 c0 c1 c2
  have HJ := hid (Cj.none HF.out HG.out m (fun _ => 0) (fun _ => 0) (fun _ => List.replicate m false))
  have HW : Hid (Fr (fun x => w.heap.size ≤ x) w (w1.alloc (.cells #[.int .i64 (m : Int), .slice none 0 0] 108))) := (HF.out.mono fun _ _ e => e.elim).alloc _
  generalize w1.heap.size = a at *
  go_loopw [6, 7, 22] (fun _ _ i wr => ∃ (j : Nat) (v : Value) (A B : Nat → Nat) (col : Nat → List Bool), j ≤ k ∧ i = .int .i64 j ∧ Cj wr w.heap.size a v m j A B col ∧ (∀ q, q < j → col q = List.replicate m false) ∧ Fr (fun x => w.heap.size ≤ x) w wr) (fun _ _ i _ => k - (intOf i).toNat)
  case atStart => exact ⟨0, _, _, _, _, by omega, rfl, HJ.out, fun q hq => by omega, HW.out⟩
  case round =>
    obtain ⟨j, v, A, B, col, hj, rfl, hjj, hcol, hf⟩ := hrel
    have HJ2 := hid hjj
    have HC := hid hcol
    have HF2 := hid hf
    clear hjj hcol hf HJ HW HF
    by_cases hlt : j < k
    · have c0 := HJ2.out.c0
      have HN2 := hid fun wr (t : Sf.Tab wr) => Sf.new_ok m wr (by omega) t.pos
      go_wp2_with fail
      refine (HN2.out _ HJ2.out.tab).mono ?_
      rintro e w2 ⟨rfl, hs2, f2⟩
      have hsz := HF2.out.size
      have hsz2 := f2.size
      have HK := hid (HJ2.out.kept f2)
      have HS := hid hs2
      have HF3 := hid (HF2.out.trans (f2.mono fun _ _ e => e.elim))
      have HNW : Hid (∀ x, Blk a v j A B x → x ≠ wr.heap.size + 1 ∧ x ≠ wr.heap.size) := fun x hx => by
        have := (HJ2.out.low hx).2
        exact ⟨by omega, by omega⟩
      clear hs2 f2 c0
      have c1 := HK.out.c1
      go_wp2_with (at_builtin; refine wpList_ptr rfl (.tmp 39) (.tmp 41) rfl HK.out HS.out HNW.out ⟨by omega, by omega⟩ (by omega) rfl rfl ?_; intro g3 cap3 w3 hgr; have c13 := hgr.1; have f13 := hgr.2.1; have HR := hid hgr.2.2; clear hgr)
      go_roundw
      case rel => exact ⟨j + 1, _, _, _, _, by omega, by go_num, HR.out.1, fun q hq => by
        by_cases e : q = j
        · subst e; exact upd_same _ _ _
        · rw [upd_low _ _ (by omega)]; exact HC.out q (by omega), Fr.trans' HF3.out HR.out.2.1 (fun x _ e => by
          rcases e with rfl | e
          · exact HK.out.lo.1
          · exact (HK.out.row.lt x e).1)⟩
      case measure => simp [intOf]; omega
    · obtain rfl : j = k := by omega
      obtain ⟨g, cap, rfl⟩ : ∃ g cap, v = .slice (some ⟨g, 0, none⟩) j cap := by
        rcases HJ2.out.row.2 with ⟨h0, h2⟩ | ⟨g, cap, _, h2, _⟩
        · omega
        · exact ⟨g, cap, h2⟩
      have HM2 := hid (Cm.made (has := List.replicate n false) HJ2.out (fun i hi => by rw [HC.out i hi, HM.out, colL_rep j m i hi]) (by simpa using HM.out) hk0 hk2 (by simpa using HN.out))
      go_wp2
      go_ret2
      obtain ⟨Z, hZ, hM⟩ := HM2.out
      exact ⟨a, Z, by simp, hZ, hM, HF2.out.new⟩
end Go.Proofs.YtioplfbkfokkfaaGreatDoor.Cq

namespace Go.Proofs.YtioplfbkfokkfaaGreatDoor
open Go.RowKit

def lk : List Int → Int → Option Int
  | [], _ => none
  | a :: r, x => if x = a then some (liF r) else lk r x
def liL (L : List Int) : Int := L.getLast?.getD (-1)
section
variable {L pre post : List Int} {k x : Int}
theorem lk_some (L : List Int) (x : Int) : (lk L x).isSome = decide (x ∈ L) := by
  induction L with
  | nil => rfl
  | cons a r ih =>
    unfold lk
    by_cases h : x = a
    · simp [h]
    · rw [if_neg h, ih]; simp [h]
theorem lk_none (h : x ∉ L) : lk L x = none := by
  have := lk_some L x
  rw [decide_eq_false h] at this
  exact Option.isNone_iff_eq_none.1 (by rw [← Option.not_isSome, this]; rfl)
theorem lk_app (pre post : List Int) (x : Int) (h : x ∉ pre) : lk (pre ++ post) x = lk post x := by
  induction pre with
  | nil => rfl
  | cons a r ih =>
    simp only [List.mem_cons, not_or] at h
    rw [List.cons_append, lk, if_neg h.1, ih h.2]
theorem lk_at (h : x ∉ pre) : lk (pre ++ x :: post) x = some (liF post) := by rw [lk_app _ _ _ h, lk, if_pos rfl]
theorem liF_app (h : pre ≠ []) (post : List Int) : liF (pre ++ post) = liF pre := by
  cases pre with
  | nil => exact (h rfl).elim
  | cons a r => rfl
theorem liL_snoc (L : List Int) (k : Int) : liL (L ++ [k]) = k := by simp [liL]
theorem liL_app (pre : List Int) (h : post ≠ []) : liL (pre ++ post) = liL post := by
  unfold liL
  rw [List.getLast?_append]
  cases e : post.getLast? with
  | none => exact (h (List.getLast?_eq_none_iff.1 e)).elim
  | some y => rfl
theorem liL_cons (a b : Int) (r : List Int) : liL (a :: b :: r) = liL (b :: r) := liL_app [a] (by simp)
theorem liL_mem (h : L ≠ []) : liL L ∈ L := by
  unfold liL
  rw [List.getLast?_eq_some_getLast h, Option.getD_some]
  exact List.getLast_mem h
theorem lk_snoc (nd : L.Nodup) (hn : L ≠ []) (hk : k ∉ L) (z : Int) : lk (L ++ [k]) z = if z = k then some (-1) else if z = liL L then some k else lk L z := by
  induction L with
  | nil => exact (hn rfl).elim
  | cons a r ih =>
    simp only [List.mem_cons, not_or] at hk
    rw [List.nodup_cons] at nd
    rw [List.cons_append, lk]
    cases r with
    | nil =>
      by_cases h1 : z = a
      · subst h1
        rw [if_pos rfl, if_neg (fun e => hk.1 e.symm), if_pos (by rfl)]
        rfl
      · rw [if_neg h1]
        by_cases h2 : z = k
        · subst h2
          rw [if_pos rfl]
          show lk [z] z = _
          rw [lk, if_pos rfl]; rfl
        · rw [if_neg h2, if_neg (by exact h1)]
          show lk [k] z = _
          rw [lk, if_neg h2]
          show none = lk [a] z
          exact (lk_none (by simpa using h1)).symm
    | cons b r =>
      have ih := ih nd.2 (by simp) hk.2
      rw [liL_cons]
      by_cases h1 : z = a
      · subst h1
        have h3 : z ≠ liL (b :: r) := fun e => nd.1 (e ▸ liL_mem (by simp))
        rw [if_pos rfl, if_neg (fun e => hk.1 e.symm), if_neg h3, lk, if_pos rfl]
        rfl
      · rw [if_neg h1, ih, lk.eq_def (a :: b :: r)]
        dsimp only
        rw [if_neg h1]
theorem lk_one (k z : Int) : lk [k] z = if z = k then some (-1) else none := rfl
theorem liR_split (nd : (pre ++ k :: post).Nodup) : liR (pre ++ k :: post) k = pre ++ post := by
  rw [List.nodup_append] at nd
  have h1 : k ∉ pre := fun e => nd.2.2 k e k (by simp) rfl
  have h2 := nd.2.1
  have e : liR (pre ++ k :: post) k = liR pre k ++ liR (k :: post) k := by unfold liR; rw [List.filter_append]
  rw [e, liR_none h1, liR_head h2]
theorem lk_less (nd : (pre ++ k :: post).Nodup) (z : Int) : lk (pre ++ post) z = if pre ≠ [] ∧ z = liL pre then some (liF post) else if z = k then none else lk (pre ++ k :: post) z := by
  induction pre with
  | nil =>
    have hk : k ∉ post := (List.nodup_cons.1 nd).1
    rw [if_neg (fun e => e.1 rfl)]
    by_cases h : z = k
    · subst h; rw [if_pos rfl]; exact lk_none hk
    · rw [if_neg h]
      show lk post z = lk (k :: post) z
      rw [lk.eq_def (k :: post)]
      dsimp only
      rw [if_neg h]
  | cons a r ih =>
    rw [List.cons_append, List.nodup_cons] at nd
    have ih := ih nd.2
    have ha : a ∉ r := fun e => nd.1 (by simp [e])
    have hak : a ≠ k := fun e => nd.1 (by simp [e])
    rw [List.cons_append, lk, List.cons_append, lk]
    cases r with
    | nil =>
      by_cases h : z = a
      · subst h; rw [if_pos rfl, if_pos ⟨by simp, rfl⟩]; rfl
      · rw [if_neg h, if_neg (fun e => h e.2), if_neg h, ih, if_neg (fun e => e.1 rfl)]
    | cons b r =>
      by_cases h : z = a
      · subst h
        have h3 : z ≠ liL (b :: r) := fun e => ha (e ▸ liL_mem (by simp))
        rw [if_pos rfl, liL_cons, if_neg (fun e => h3 e.2), if_neg hak, if_pos rfl]
        rfl
      · rw [if_neg h, ih, liL_cons, if_neg h]
        by_cases h4 : z = liL (b :: r)
        · rw [if_pos ⟨by simp, h4⟩, if_pos ⟨by simp, h4⟩]
        · rw [if_neg (fun e : b :: r ≠ [] ∧ z = liL (b :: r) => h4 e.2), if_neg (fun e : a :: b :: r ≠ [] ∧ z = liL (b :: r) => h4 e.2)]
theorem LiOk.last (h : LiOk L) : I64 (liL L) := by
  cases L with
  | nil => exact ⟨by decide, by decide⟩
  | cons a r => have := h.at_ _ (liL_mem (L := a :: r) (by simp)); exact ⟨by omega, this.2⟩
theorem LiOk.left (h : LiOk (pre ++ post)) : LiOk pre := ⟨(List.nodup_append.1 h.nd).1, fun x hx => h.at_ x (List.mem_append_left _ hx)⟩
theorem LiOk.right (h : LiOk (pre ++ post)) : LiOk post := ⟨(List.nodup_append.1 h.nd).2.1, fun x hx => h.at_ x (List.mem_append_right _ hx)⟩
theorem LiOk.first_none (h : LiOk L) : liF L = -1 ↔ L = [] := by
  cases L with
  | nil => simp [liF]
  | cons a r =>
    have := h.at_ a (by simp)
    constructor
    · intro e; have e : a = -1 := e; omega
    · intro e; cases e
theorem LiOk.last_none (h : LiOk L) : liL L = -1 ↔ L = [] := by
  by_cases e : L = []
  · subst e; simp [liL]
  · have := h.at_ _ (liL_mem e)
    constructor
    · intro e; omega
    · intro e2; exact (e e2).elim
end
def Lw (w : World) (p : Nat) (m : Option Nat) (fi la : Int) : Prop := w.heap[p]? = some (.cells #[.map m, .int .i64 fi, .int .i64 la] 203 (0, 0))
section
variable {w w' : World} {p : Nat} {m : Option Nat} {fi la : Int}
theorem Lw.lt (h : Lw w p m fi la) : p < w.heap.size := (Array.getElem?_eq_some_iff.1 h).1
theorem Lw.carry {S : Nat → Prop} (h : Lw w p m fi la) (f : Fr S w w') (hn : ¬ S p) : Lw w' p m fi la := (f.block p h.lt hn).trans h
theorem Lw.c0 (h : Lw w p m fi la) : w.cell? ⟨p, 0, none⟩ = some (.map m) := by unfold Lw at h; simp [World.cell?, h]
theorem Lw.c1 (h : Lw w p m fi la) : w.cell? ⟨p, 1, none⟩ = some (.int .i64 fi) := by unfold Lw at h; simp [World.cell?, h]
theorem Lw.c2 (h : Lw w p m fi la) : w.cell? ⟨p, 2, none⟩ = some (.int .i64 la) := by unfold Lw at h; simp [World.cell?, h]
theorem Lw.fz (h : Lw w p m fi la) (j : Nat) : w.frozen? ⟨p, j, none⟩ = false := by unfold Lw at h; simp [World.frozen?, h]
theorem Lw.set0 (h : Lw w p m fi la) (x : Option Nat) : Lw (w.setCell ⟨p, 0, none⟩ (.map x)) p x fi la := by unfold Lw at h ⊢; simp [World.setCell, Array.getElem?_modify, h]
theorem Lw.set1 (h : Lw w p m fi la) (x : Int) : Lw (w.setCell ⟨p, 1, none⟩ (.int .i64 x)) p m x la := by unfold Lw at h ⊢; simp [World.setCell, Array.getElem?_modify, h]
theorem Lw.set2 (h : Lw w p m fi la) (x : Int) : Lw (w.setCell ⟨p, 2, none⟩ (.int .i64 x)) p m fi x := by unfold Lw at h ⊢; simp [World.setCell, Array.getElem?_modify, h]
end
def Ol (w : World) (m : Option Nat) (L : List Int) : Prop := (m = none ∧ L = []) ∨ ∃ B, m = some B ∧ Oi w B L.length (lk L) L.length
section
variable {w w' : World} {p : Nat} {m : Option Nat} {fi la : Int} {L : List Int} {Z : Nat → Prop}
theorem Ol.carry {S : Nat → Prop} (h : Ol w m L) (f : Fr S w w') (hn : ∀ B, m = some B → ¬ S B) : Ol w' m L := by
  rcases h with h | ⟨B, e, h⟩
  · exact .inl h
  · exact .inr ⟨B, e, h.carry f (hn B e)⟩
theorem Ol.len (h : Ol w m L) (ty : TypeId) : (Builtin.len_ #[168] ty #[.map m]).run Tryz.prog w = .ok (.int .i64 L.length) w := by
  rcases h with ⟨rfl, rfl⟩ | ⟨B, rfl, h⟩
  · exact Maps.len_nil Tryz.underlying168 ty
  · exact h.len ty
theorem Ol.lookOk (h : Ol w m L) {x : Int} (hx : I64 x) : (Instr.lookup 168 (.map m) (.int .i64 x) true).run Tryz.prog w = .ok (.tuple #[.int .i64 ((lk L x).getD 0), .bool (decide (x ∈ L))]) w := by
  have hw : (Lit.int .i64 x).wf = true := wf_small hx.1 hx.2
  rcases h with ⟨rfl, rfl⟩ | ⟨B, rfl, h⟩
  · exact Maps.look_nil true intLaw Tryz.underlying168 (zero_int w) (int_key hw)
  · rw [h.lookOk hw, lk_some]
theorem Ol.look (h : Ol w m L) {x : Int} (hx : I64 x) : (Instr.lookup 168 (.map m) (.int .i64 x) false).run Tryz.prog w = .ok (.int .i64 ((lk L x).getD 0)) w := by
  have hw : (Lit.int .i64 x).wf = true := wf_small hx.1 hx.2
  rcases h with ⟨rfl, rfl⟩ | ⟨B, rfl, h⟩
  · exact Maps.look_nil false intLaw Tryz.underlying168 (zero_int w) (int_key hw)
  · exact h.look hw
end
structure Ln (p : Nat) (L : List Int) (w : World) (Z : Nat → Prop) (m : Option Nat) (fi la : Int) : Prop where
  c : Lw w p m fi la
  o : Ol w m L
  ends : L ≠ [] → fi = liF L ∧ la = liL L
  zp : Z p
  zm : ∀ B, m = some B → Z B ∧ B ≠ p
  lt : ∀ i, Z i → i < w.heap.size
def Lm (p : Nat) (L : List Int) (w : World) (Z : Nat → Prop) : Prop := ∃ m fi la, Ln p L w Z m fi la
theorem Lm.good (p : Nat) (L : List Int) : Good (Lm p L) :=
  ⟨fun h f hs => by
    obtain ⟨m, fi, la, h⟩ := h
    exact ⟨m, fi, la, h.c.carry f (hs _ h.zp), h.o.carry f fun B e => hs _ (h.zm B e).1, h.ends, h.zp, h.zm, fun i hi => Nat.lt_of_lt_of_le (h.lt i hi) f.size⟩,
  fun h k1 k2 => by
    obtain ⟨m, fi, la, h⟩ := h
    exact ⟨m, fi, la, h.c, h.o, h.ends, k1 _ h.zp, fun B e => ⟨k1 _ (h.zm B e).1, (h.zm B e).2⟩, k2⟩⟩
end Go.Proofs.YtioplfbkfokkfaaGreatDoor

namespace Go.Proofs.YtioplfbkfokkfaaGreatDoor
open Go.RowKit

def intV : Value → Nat
  | .int _ x => x.toNat
  | _ => 0
section
variable {w : World} {p : Nat} {Z : Nat → Prop} {L : List Int} {m : Option Nat} {fi la : Int}
theorem m_len (c : Lw w p m fi la) (o : Ol w m L) : Calls Tryz.prog 214 #[.pointer (some ⟨p, 0, none⟩)] w fun e w' => e = .returned (.int .i64 L.length) ∧ w' = w := by
  have c0 := c.c0
  have hl := fun ty => o.len ty
  clear c o
  go_enter Tryz.func214, Tryz.ntmps214
  go_wp2
  go_ret
  exact ⟨by simp, rfl⟩
theorem m_has (c : Lw w p m fi la) (o : Ol w m L) {k : Int} (hk : I64 k) : Calls Tryz.prog 225 #[.pointer (some ⟨p, 0, none⟩), .int .i64 k] w fun e w' => e = .returned (.bool (decide (k ∈ L))) ∧ w' = w := by
  have c0 := c.c0
  have hl := o.lookOk hk
  clear c o
  generalize decide (k ∈ L) = b at *
  generalize (lk L k).getD 0 = y at *
  go_enter Tryz.func225, Tryz.ntmps225
  go_wp2
  go_ret
  exact ⟨by simp, rfl⟩
theorem m_front (c : Lw w p m fi la) (o : Ol w m L) (he : L ≠ [] → fi = liF L) : Calls Tryz.prog 168 #[.pointer (some ⟨p, 0, none⟩)] w fun e w' => e = .returned (.int .i64 (liF L)) ∧ w' = w := by
  have H1 := hid (m_len c o)
  have c1 := c.c1
  clear c o
  cases L with
  | nil =>
    go_enter Tryz.func168, Tryz.ntmps168
    go_wp2_with fail
    refine H1.out.mono ?_
    rintro e w1 ⟨rfl, hw⟩
    obtain rfl := hw.symm
    go_wp2
    go_ret
    exact ⟨by simp [liF], rfl⟩
  | cons x r =>
    obtain rfl : x = fi := ((he (by simp)).symm : liF (x :: r) = fi)
    have hn : ((x :: r).length : Int) ≠ 0 := by simp; omega
    clear he
    generalize (x :: r).length = N at *
    go_enter Tryz.func168, Tryz.ntmps168
    go_wp2_with fail
    refine H1.out.mono ?_
    rintro e w1 ⟨rfl, hw⟩
    obtain rfl := hw.symm
    go_wp2
    go_ret
    exact ⟨by simp [liF], rfl⟩
set_option maxHeartbeats 4000000 in
set_option maxRecDepth 20000 in
theorem m_ahead (c : Lw w p m fi la) (o : Ol w m L) (ok : LiOk L) (hl : L.length ≤ 5000) (he : L ≠ [] → fi = liF L) {k : Int} (hk : k ∈ L) : Calls Tryz.prog 226 #[.pointer (some ⟨p, 0, none⟩), .int .i64 k] w fun e w' => (∃ pre post, L = pre ++ k :: post ∧ e = .returned (.int .i64 (liL pre))) ∧ Fr (fun _ => False) w w' := by
  have H1 : Hid (∀ w0, Fr (fun _ => False) w w0 → Calls Tryz.prog 214 #[.pointer (some ⟨p, 0, none⟩)] w0 fun e w' => e = .returned (.int .i64 L.length) ∧ w' = w0) := fun w0 f => m_len (c.carry f id) (o.carry f fun _ _ => id)
  have HC : Hid (∀ w0, Fr (fun _ => False) w w0 → w0.cell? ⟨p, 0, none⟩ = some (.map m)) := fun w0 f => (c.carry f id).c0
  have HL : Hid (∀ w0, Fr (fun _ => False) w w0 → ∀ x, I64 x → (Instr.lookup 168 (.map m) (.int .i64 x) false).run Tryz.prog w0 = .ok (.int .i64 ((lk L x).getD 0)) w0) := fun w0 f x hx => (o.carry f fun _ _ => id).look hx
  have HOK := hid ok
  obtain rfl : fi = liF L := he (fun e => by subst e; simp at hk)
  have c1 := c.c1
  have H0 : Hid (L = [] ++ L ∧ k ∈ L) := ⟨rfl, hk⟩
  clear c o ok he hk
  go_enter Tryz.func226, Tryz.ntmps226
  go_wp2
  refine wp_scope_back 0 (fun a' w' => ∃ (pre rest : List Int) (n : Nat) (b x : Int) (u8 u9 u10 u11 u12 u13 u14 u15 u16 u17 u18 u19 u20 u21 u22 u23 u24 u25 u26 u27 u28 u29 u30 : Value), Hid (L = pre ++ rest ∧ k ∈ rest ∧ b = liL pre ∧ x = liF rest ∧ n = rest.length ∧ Fr (fun _ => False) w w') ∧ a' = { tmps := #[.pointer (some ⟨p, 0, none⟩), .int .i64 k, undef, undef, .int .i64 0, .int .i64 b, .int .i64 x, .int .i64 n, u8, u9, u10, u11, u12, u13, u14, u15, u16, u17, u18, u19, u20, u21, u22, u23, u24, u25, u26, u27, u28, u29, u30], defers := [] }) (fun a' _ => intV (a'.tmps.getD 7 undef)) rfl ?pre ?pass
  case pre =>
    intro R hK
    go_wp2_with fail
    go_region_held3 (fun w' => w'.cell? ⟨p, 1, none⟩ = some (.int .i64 (liF L))) (first | go_keep | assumption) (first | (go_at_call 214; refine (H1.out _ (Fr.refl _ _).drew).mono ?_; rintro e w1 ⟨rfl, rfl⟩))
    go_wp2
    go_step3
    rename_i K hKK
    exact hKK _ _ (hK _ _ ⟨[], L, L.length, _, _, _, _, _, _, _, _, _, _, _, _, _, _, _, _, _, _, _, _, _, _, _, _, _, ⟨rfl, H0.out.2, rfl, rfl, rfl, (Fr.refl _ _).drew⟩, rfl⟩)
  case pass =>
    rintro a' wr ⟨pre, rest, n, b, x, u8, u9, u10, u11, u12, u13, u14, u15, u16, u17, u18, u19, u20, u21, u22, u23, u24, u25, u26, u27, u28, u29, u30, HI, rfl⟩
    clear c1 H0 H1
    obtain ⟨rfl, hk, hb, hx, hn, hf⟩ := HI.out
    cases rest with
    | nil => simp at hk
    | cons y r =>
      obtain rfl : x = y := hx
      have HF := hid hf
      have hnl : n ≤ 5000 := by subst hn; simp at hl ⊢; omega
      have hn0 : (n : Int) ≠ 0 := by subst hn; simp; omega
      by_cases e : x = k
      · subst e
        have HB := hid hb
        clear hb HI hn hk hf hl HL HC HOK
        go_wp2
        rw [jump_ret]
        go_ret
        exact ⟨⟨pre, r, rfl, by rw [← HB.out]; simp⟩, HF.out⟩
      · have hxk : (x == k) = false := by simp [e]
        have hxp : x ∉ pre := fun h => (List.nodup_append.1 HOK.out.nd).2.2 x h x (by simp) rfl
        have hl0 := HL.out wr.drew HF.out.drew x (by have := HOK.out.at_ x (by simp); exact ⟨by omega, this.2⟩)
        rw [lk_at hxp, Option.getD_some] at hl0
        have hc0 := HC.out wr.drew HF.out.drew
        have hkr : k ∈ r := by rcases List.mem_cons.1 hk with h | h; exact (e h.symm).elim; exact h
        have HN : Hid ((∃ (pre' rest' : List Int) (n' : Nat), pre ++ x :: r = pre' ++ rest' ∧ k ∈ rest' ∧ x = liL pre' ∧ liF r = liF rest' ∧ n' = rest'.length ∧ IntKind.i64.wrap ((n : Int) - 1) = n' ∧ n' < n)) := ⟨pre ++ [x], r, r.length, by simp, hkr, (liL_snoc _ _).symm, rfl, rfl, by rw [IntKind.wrap_i64]; subst hn; simp at hl ⊢; omega, by subst hn; simp⟩
        clear hb HI hn hk hf hl HL HC HOK hkr hxp e
        generalize liF r = z at *
        obtain ⟨pre', rest', n', e1, e2, e3, e4, e5, hw, hlt⟩ := HN.out
        have HE := hid (And.intro e1 (And.intro e2 (And.intro e3 (And.intro e4 e5))))
        clear e1 e2 e3 e4 e5 HN
        go_wp2_with fail
        go_region_held3 (fun w' => w'.cell? ⟨p, 0, none⟩ = some (.map m) ∧ (Instr.lookup 168 (.map m) (.int .i64 x) false).run Tryz.prog w' = .ok (.int .i64 z) w') (first | go_keep | exact ⟨by assumption, by assumption⟩) (fail)
        go_wp2
        go_step3
        exact ⟨rfl, ⟨pre', rest', n', _, _, _, _, _, _, _, _, _, _, _, _, _, _, _, _, _, _, _, _, _, _, _, _, _, ⟨HE.out.1, HE.out.2.1, HE.out.2.2.1, HE.out.2.2.2.1, HE.out.2.2.2.2, HF.out.drew⟩, rfl⟩, by simp [intV]; omega⟩
end
end Go.Proofs.YtioplfbkfokkfaaGreatDoor
